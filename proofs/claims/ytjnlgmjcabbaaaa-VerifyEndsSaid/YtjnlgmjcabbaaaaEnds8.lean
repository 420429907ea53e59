/- VerifyEnds returns true for every input and changes nothing: what is not reached is not asked for its stack and has depth -1; code that runs beyond its end is an error. No condition. -/
import Derived.Test.YtjnlgmjcabbaaaaEnd8
import Derived.Test.YtjnlgmjcabbaaaaOwnI8
import Derived.Test.YtjnlgmjcabbaaaaPairs8
import Derived.Test.YtjnlgmjcabbaaaaLaw
import Derived.Deep.RegionWith
import Derived.Deep.CutRange
import Derived.Deep.DeepCutAuto
namespace Go.Proofs.Ytjnlgmjcabbaaaa.verifyEnds
set_option maxRecDepth 100000
open Go.RowKit Go.ChangeShapes Go.WideShapes Go.ChangeAt

theorem after_zero {w W0 wS : World} (h : Below W0.heap.size W0 wS) (hW : W0.heap = (w.alloc (.cells #[.int .i64 0, .int .i32 0] 32)).heap) :
    wS.heap[w.heap.size]? = some (.cells #[.int .i64 0, .int .i32 0] 32 (0, 0)) := (h.block _ (by rw [hW]; simp)).trans (by rw [hW]; exact heap_alloc_new w _)

theorem end_b {wr W0 wS : World} {so sa : Int} (h : Below W0.heap.size W0 wS) (hW : Below wr.heap.size wr W0) :
    IB (wS.alloc (.cells #[.int .i64 so, .int .i32 sa] 32)) wS.heap.size so sa ∧ Below wr.heap.size wr (wS.alloc (.cells #[.int .i64 so, .int .i32 sa] 32)) ∧ wr.heap.size ≤ wS.heap.size :=
  ⟨heap_alloc_new wS _, nextB (nextB hW h) (below_alloc _ _), Nat.le_trans hW.size h.size⟩
theorem end_a {wr W0 wS : World} {so sa : Int} (h : Below W0.heap.size W0 wS) (hW : Below wr.heap.size wr W0) (hz : wS.heap[wr.heap.size]? = some (.cells #[.int .i64 0, .int .i32 0] 32 (0, 0))) :
    IB ((wS.setCell ⟨wr.heap.size, 0, none⟩ (.int .i64 so)).setCell ⟨wr.heap.size, 1, none⟩ (.int .i32 sa)) wr.heap.size so sa ∧ Below wr.heap.size wr ((wS.setCell ⟨wr.heap.size, 0, none⟩ (.int .i64 so)).setCell ⟨wr.heap.size, 1, none⟩ (.int .i32 sa)) ∧ wr.heap.size ≤ wr.heap.size := by
  refine ⟨by simpa [IB] using set_blk (set_blk hz 0 (.int .i64 so)) 1 (.int .i32 sa), ?_, Nat.le_refl _⟩
  exact ((nextB hW h).trans (below_set (Nat.le_refl _) _)).trans (below_set (Nat.le_refl _) _)

set_option maxRecDepth 100000 in
set_option maxHeartbeats 16000000 in
theorem walk (L : List (Nat × Nat)) (v0 : Value) (ret : Bool) (tl : Nat) (w : World) (hv : PairsV w w.heap.size v0 L) (hlen : L.length ≤ maxLen) :
    Calls Try.prog 7 #[v0, .bool ret, .int .u8 tl] w fun e w' => e = .returned (.bool true) ∧ Below w.heap.size w w' := by
  have HP := Lib.hid hv
  obtain ⟨A0, cap0, rfl, _, _⟩ := hv
  obtain ⟨n, hn⟩ : ∃ n, L.length = n := ⟨_, rfl⟩
  have HN := Lib.hid hn
  have hn63 : n ≤ 9223372036854775807 := by unfold maxLen at hlen; omega
  rw [hn] at HP ⊢
  clear hlen hn
  obtain ⟨e, he⟩ : ∃ e : Int, e = if ret then 25 else 26 := ⟨_, rfl⟩
  go_enter Try.func7, Try.ntmps7
  go_wp2_with fail
  refine (known8_any w).mono ?_
  rintro e' w1 ⟨rfl, hb⟩
  by_cases h20 : n ≤ 20
  · obtain ⟨w2, hw2⟩ : ∃ w2, w2 = w1.alloc (.cells #[.int .i64 1, .int .i32 1] 32) := ⟨_, rfl⟩
    have O2 : Hid (RowI w2 w2.heap.size (.slice (some ⟨w1.heap.size, 0, none⟩) 1 1) [(1, 1)]) := Lib.hid (by rw [hw2]; exact RowI.fresh w1 [(1, 1)] (by intro p hp; simp at hp; rw [hp]; exact ⟨by decide, by decide⟩))
    have hb2 : Below w1.heap.size w1 w2 := by rw [hw2]; exact below_alloc _ _
    have hnews : ∀ (j : Nat) (u : Value), [Value.int .i64 1, Value.int .i32 1][j]? = some u → w2.cell? ((⟨w1.heap.size, 0, none⟩ : Addr).add j) = some u := by
      intro j u hu
      have ea : (⟨w1.heap.size, 0, none⟩ : Addr).add j = ⟨w1.heap.size, 0 + j, none⟩ := by unfold Addr.add; split <;> simp_all
      have hc : w2.heap[w1.heap.size]? = some (.cells #[.int .i64 1, .int .i32 1] 32 (0, 0)) := by rw [hw2]; exact heap_alloc_new w1 _
      rw [ea, Nat.zero_add, cell_blk hc]; simpa using hu
    have HNEWS := Lib.hid hnews
    have B2 := Lib.hid (nextB hb hb2); have W2 := Lib.hid hb2.size; have B0 := Lib.hid hb.size
    obtain ⟨i0, hi0, hz0, hz1, hz2⟩ := info_parts inf_instr
    clear hb hb2 hnews
    have HIN := Lib.hid hi0; have HZ0 := Lib.hid hz0; have HZ1 := Lib.hid hz1; have HZ2 := Lib.hid hz2
    clear hi0 hz0 hz1 hz2
    cases ret with
    | true =>
      obtain rfl : e = 25 := he
      go_upto_region 9 with (fail)
      rw [← hw2]
      clear hw2
      go_wp2_with (at_builtin; go_must (refine wpList_append_own_at w2 rfl (.const (.slice none 0 0)) (.tmp 26) 29 rfl w2.heap.size 32 i0 (.agg #[.int .i64 0, .int .i32 0]) 2 16 Try.underlying29 HIN.out HZ0.out HZ1.out HZ2.out rfl (by decide) (.slice none 0 0) 0 [] rfl (World.ownsRow_nil w2 w2.heap.size _ 2) ⟨w1.heap.size, 0, none⟩ 1 1 [.int .i64 1, .int .i32 1] rfl rfl HNEWS.out ?c1 ?c2 ?c3 ?c4 ?_))
      case c1 => exact one_cells _ _
      case c2 => decide
      case c3 => decide
      case c4 => exact Nat.le_refl _
      intro v3 w3 ho hg _ _
      have O3 : Hid (OwnI w3 w2.heap.size v3 [(1, 1)]) := Lib.hid ho
      have H3 := (Below.refl w2.heap.size w2).grown hg (Nat.le_refl _) (fun k hk => by simp [Value.ownBlock] at hk)
      have B3 := Lib.hid H3; have W3 := Lib.hid H3.size
      clear ho hg H3
      go_wp2_with (at_builtin; go_must (refine wpList_append_new 29 32 (.agg #[.int .i64 0, .int .i32 0]) 2 16 Try.underlying29 inf_instr rfl (by decide) (by decide) rfl (.tmp 27) (.tmp 30) rfl w2.heap.size _ _ _ _ [.int .i64 25, .int .i32 0] rfl rfl O3.out rfl rfl ?c1 ?c2 ?c3 ?_))
      case c1 => exact one_cells _ _
      case c2 => decide
      case c3 => exact W3.out
      intro v4 w4 ho hg _
      have O4 : Hid (OwnI w4 w2.heap.size v4 (ef 25 (L.take 0))) := Lib.hid (OwnI.snoc ho)
      have H4 := (Below.refl w2.heap.size w3).grown hg W3.out (fun k hk => (World.ownsRow.lt O3.out k hk).1)
      have B4 := Lib.hid (B3.out.trans H4); have W4 := Lib.hid (Nat.le_trans W3.out H4.size)
      clear ho hg H4 B3 W3 O3
      go_wp2_with fail
      go_loopw [9, 10] (fun v i wr => ∃ j : Nat, j ≤ n ∧ i = .int .i64 j ∧ OwnI wr w2.heap.size v (ef 25 (L.take j)) ∧ w2.heap.size ≤ wr.heap.size ∧ Below w2.heap.size w2 wr) (fun _ i _ => n - (intOf i).toNat)
      case atStart => exact ⟨0, Nat.zero_le _, rfl, O4.out, W4.out, B4.out⟩
      case round =>
        clear O4 W4 B4
        obtain ⟨j, hj, rfl, ho, hw, hb⟩ := hrel
        have HO := Lib.hid ho; have HB := Lib.hid hb; have HW := Lib.hid hw
        by_cases hjn : j < n
        · clear ho hb hw
          obtain ⟨bp, off, cp, hvv, c0, c1, r0, r1⟩ := (HP.out.below (nextB B2.out HB.out)).cells (k := j) (by rw [HN.out]; exact hjn)
          rw [HN.out] at hvv
          obtain rfl : A0 = some ⟨bp, off, none⟩ := by injection hvv
          obtain ⟨p, hp⟩ : ∃ p, L.getD j (0, 0) = p := ⟨_, rfl⟩
          rw [hp] at c0 c1 r0 r1
          obtain ⟨kk, aa⟩ := p
          have HTK : Hid (L.take (j + 1) = L.take j ++ [(kk, aa)]) := Lib.hid (by
            rw [List.take_add_one]
            have : L[j]? = some (kk, aa) := by rw [← hp, List.getD_eq_getElem?_getD, List.getElem?_eq_getElem (by rw [HN.out]; exact hjn)]; rfl
            rw [this]; rfl)
          obtain ⟨so, hso⟩ : ∃ z, seatOp kk = z := ⟨_, rfl⟩
          obtain ⟨sa, hsa⟩ : ∃ z, seatArg kk aa = z := ⟨_, rfl⟩
          have HS : Hid (∀ w, Calls Try.prog 26 #[.int .u8 kk, .int .u8 aa] w fun e w' => e = .returned (.agg #[.int .i64 so, .int .i32 sa]) ∧ Below w.heap.size w w') := Lib.hid (fun w => by
            have := seatInstr_any kk aa w r0 r1; rwa [hso, hsa] at this)
          have HSO := Lib.hid hso; have HSA := Lib.hid hsa
          have hr0 : (j : Int) < (n : Int) := by omega
          have hbp : bp < wr.heap.size := World.block_lt_of_cell? wr _ c0
          have d0 : (wr.alloc (.cells #[.int .i64 0, .int .i32 0] 32)).cell? ⟨bp, off + j * 2, none⟩ = some (.int .u8 kk) := ((below_alloc wr _).cell (p := ⟨bp, off + j * 2, none⟩) hbp).trans c0
          have d1 : (wr.alloc (.cells #[.int .i64 0, .int .i32 0] 32)).cell? ⟨bp, off + j * 2 + 1, none⟩ = some (.int .u8 aa) := ((below_alloc wr _).cell (p := ⟨bp, off + j * 2 + 1, none⟩) hbp).trans c1
          clear hvv hp hso hsa
          go_upto_region 13 with (fail)
          go_cut [11] from 38 to 48 (fun p wx => ∃ q, p = .pointer (some ⟨q, 0, none⟩) ∧ IB wx q so sa ∧ Below wr.heap.size wr wx ∧ wr.heap.size ≤ q)
          case first =>
            go_region_with (first
              | (go_at_call 26; refine (HS.out _).mono ?_; rintro e wS ⟨rfl, hbS⟩; first | (have hz := after_zero (w := wr) hbS rfl; have z0 : wS.cell? ⟨wr.heap.size, 0, none⟩ = some (.int .i64 0) := cell_blk hz 0; have z1 : wS.cell? ⟨wr.heap.size, 1, none⟩ = some (.int .i32 0) := cell_blk hz 1; have fz0 : wS.frozen? ⟨wr.heap.size, 0, none⟩ = false := frozen_blk hz 0; have fz1 : wS.frozen? ⟨wr.heap.size, 1, none⟩ = false := frozen_blk hz 1; have HZZ := Lib.hid hz; clear hz) | skip))
            all_goals (go_wp2_with fail; go_meet; first | exact ⟨_, rfl, end_b hbS (by first | exact (Below.refl _ _).drew | exact (below_alloc _ _).drew)⟩ | exact ⟨_, rfl, end_a hbS (by first | exact (below_alloc _ _).drew | exact (Below.refl _ _).drew) HZZ.out⟩)
          case rest =>
            obtain ⟨q, rfl, hq, hbx, hqs⟩ := hcut
            have JQ := Lib.hid hq
            have OX := Lib.hid (HO.out.below hbx)
            have BX := Lib.hid (HB.out.trans (hbx.mono HW.out)); have WX := Lib.hid (Nat.le_trans HW.out hbx.size)
            have HQS := Lib.hid (Nat.le_trans HW.out hqs)
            have HNE := Lib.hid (fun e => (show False by have h2 := (World.ownsRow.lt HO.out q e).2; omega))
            obtain ⟨z, hz⟩ : ∃ z, argZ so = z := ⟨_, rfl⟩
            have HA : Hid (∀ w, Calls Try.prog 27 #[.int .i64 so] w fun e w' => e = .returned (.int .i64 z) ∧ w' = w) := Lib.hid fun w => by rw [← hz]; exact refArg_any so w
            have HTI : Hid (tailI (kk, aa) = (((so : Nat) : Int), if 1 < z then 0 else sa)) := Lib.hid (by unfold tailI; rw [HSO.out, HSA.out, hz])
            have q0 := hq.c0; have q1 := hq.c1
            have f1 : wc.frozen? ⟨q, 1, none⟩ = false := frozen_blk hq 1
            clear hq hbx hqs hz c0 c1 d0 d1 hbp HO HB HW
            go_upto_region 14 with (fail)
            go_wp2_with fail
            refine (HA.out wc).mono ?_
            rintro e wy ⟨rfl, rfl⟩
            by_cases hz1 : 1 < z
            · have HTX : Hid (tailI (kk, aa) = (((so : Nat) : Int), 0)) := Lib.hid (by rw [HTI.out, if_pos hz1])
              obtain ⟨wd, hwd⟩ : ∃ wd, wd = wy.setCell ⟨q, 1, none⟩ (.int .i32 0) := ⟨_, rfl⟩
              have JD : Hid (IB wd q so 0) := Lib.hid (by rw [hwd]; simpa [IB] using set_blk JQ.out 1 (.int .i32 0))
              have OD : Hid (OwnI wd w2.heap.size _ (ef 25 (L.take j))) := Lib.hid (by rw [hwd]; exact own_far OX.out (fun e => HNE.out e))
              have BD := Lib.hid (show Below w2.heap.size w2 wd by rw [hwd]; exact BX.out.trans (below_set HQS.out _))
              have hsz : wd.heap.size = wy.heap.size := by rw [hwd]; simp [World.setCell]
              rw [← hsz] at WX
              clear hsz OX BX JQ HNE
              go_upto_region 16 with (fail)
              rw [← hwd]
              clear hwd q0 q1 f1
              have q0 := JD.out.c0; have q1 := JD.out.c1
              go_wp2_with (at_builtin; go_must (refine wpList_append_new 29 32 (.agg #[.int .i64 0, .int .i32 0]) 2 16 Try.underlying29 inf_instr rfl (by decide) (by decide) rfl (.tmp 54) (.tmp 56) rfl w2.heap.size _ _ _ _ [.int .i64 so, .int .i32 0] rfl rfl OD.out rfl rfl ?c1 ?c2 ?c3 ?_))
              case c1 => exact one_cells _ _
              case c2 => rw [ef_length, List.length_take]; omega
              case c3 => exact WX.out
              intro v5 w5 ho hg _
              have O5 : Hid (OwnI w5 w2.heap.size v5 (ef 25 (L.take (j + 1)))) := Lib.hid (by
                rw [HTK.out]
                have e1 : ef 25 (L.take j ++ [(kk, aa)]) = ef 25 (L.take j) ++ [(((so : Nat) : Int), 0)] := by
                  unfold ef; rw [List.map_append, List.append_assoc]; congr 2; show [tailI (kk, aa)] = _; rw [HTX.out]
                rw [e1]; exact OwnI.snoc ho)
              have H5 := (Below.refl w2.heap.size _).grown hg WX.out (fun k hk => (World.ownsRow.lt OD.out k hk).1)
              have B5 := Lib.hid (BD.out.trans H5); have W5 := Lib.hid (Nat.le_trans WX.out H5.size)
              clear ho hg H5 BD OD
              go_wp2_with fail
              go_roundw
              case rel => exact ⟨j + 1, by omega, by go_num, O5.out, W5.out, B5.out⟩
              case measure => simp [intOf]; omega
            · have HTX : Hid (tailI (kk, aa) = (((so : Nat) : Int), sa)) := Lib.hid (by rw [HTI.out, if_neg hz1])
              have OD := OX; have BD := BX
              clear OX BX HNE
              go_wp2_with (at_builtin; go_must (refine wpList_append_new 29 32 (.agg #[.int .i64 0, .int .i32 0]) 2 16 Try.underlying29 inf_instr rfl (by decide) (by decide) rfl (.tmp 54) (.tmp 56) rfl w2.heap.size _ _ _ _ [.int .i64 so, .int .i32 sa] rfl rfl OD.out rfl rfl ?c1 ?c2 ?c3 ?_))
              case c1 => exact one_cells _ _
              case c2 => rw [ef_length, List.length_take]; omega
              case c3 => exact WX.out
              intro v5 w5 ho hg _
              have O5 : Hid (OwnI w5 w2.heap.size v5 (ef 25 (L.take (j + 1)))) := Lib.hid (by
                rw [HTK.out]
                have e1 : ef 25 (L.take j ++ [(kk, aa)]) = ef 25 (L.take j) ++ [(((so : Nat) : Int), sa)] := by
                  unfold ef; rw [List.map_append, List.append_assoc]; congr 2; show [tailI (kk, aa)] = _; rw [HTX.out]
                rw [e1]; exact OwnI.snoc ho)
              have H5 := (Below.refl w2.heap.size _).grown hg WX.out (fun k hk => (World.ownsRow.lt OD.out k hk).1)
              have B5 := Lib.hid (BD.out.trans H5); have W5 := Lib.hid (Nat.le_trans WX.out H5.size)
              clear ho hg H5 BD OD
              go_wp2_with fail
              go_roundw
              case rel => exact ⟨j + 1, by omega, by go_num, O5.out, W5.out, B5.out⟩
              case measure => simp [intOf]; omega
        · obtain rfl : n = j := by omega
          have htk : L.take n = L := by rw [← HN.out, List.take_length]
          rw [htk] at ho
          obtain ⟨A5, c5, hv5⟩ := ho.slice
          have hl5 := ef_length 25 L
          rw [HN.out] at hl5
          obtain ⟨N, hN⟩ : ∃ N, n + 2 = N := ⟨_, rfl⟩
          rw [hl5, hN] at hv5
          subst hv5
          have HR5 := Lib.hid (RowI.of_own ho (ef_i32 L))
          have HL5 := Lib.hid (hl5.trans hN); have HNN := Lib.hid hN
          have BW := Lib.hid hb
          clear ho hb hw HO HB HW htk hl5 hN
          obtain ⟨g1, g2, g3, g4, g5⟩ := ef_all 25 L (.inl rfl) (by rw [HN.out]; exact h20)
          have G1 := Lib.hid g1; have G2 := Lib.hid g2; have G3 := Lib.hid g3; have G4 := Lib.hid g4; have G5 := Lib.hid g5
          clear g1 g2 g3 g4 g5
          go_wp2_with fail
          refine (func_lit wr HR5.out (by rw [HL5.out]; have := HNN.out; omega) G1.out).mono ?_
          rintro e w6 ⟨rfl, hb⟩
          have HR6 := Lib.hid (HR5.out.later hb)
          have B6 := Lib.hid (BW.out.trans (hb.mono BW.out.size))
          clear hb HR5 BW
          go_wp2_with fail
          refine (depths_lit (D := depthsZ (ef 25 L)) w6 HR6.out (by rw [HL5.out]; have := HNN.out; omega) rfl).mono ?_
          rintro e w7 ⟨⟨v, rfl, hI⟩, hb⟩
          have B7 := Lib.hid (B6.out.trans (hb.mono B6.out.size))
          have HI7 := Lib.hid hI
          obtain ⟨D, hD⟩ : ∃ D, depthsZ (ef 25 L) = D := ⟨_, rfl⟩
          rw [hD] at G2 G3 G4 G5 HI7
          rw [HN.out, HNN.out] at G2
          obtain ⟨AD, cD, rfl, _⟩ := HI7.out
          rw [G2.out] at HI7 ⊢
          clear hb hI hD B6 HR6
          go_wp2_with fail
          refine (func_lit (a := 0) (b := 24) w7 (O2.out.later B7.out) (by decide) (by decide +kernel)).mono ?_
          rintro e w8 ⟨rfl, hb⟩
          have B8 := Lib.hid (nextB B2.out (B7.out.trans (hb.mono B7.out.size)))
          have HI8 := Lib.hid (HI7.out.later hb)
          clear hb B7 HI7
          go_wp2_with fail
          go_loopw [17] (fun i wq => ∃ k : Nat, 2 ≤ k ∧ k ≤ N ∧ i = .int .i64 k ∧ wq = w8) (fun i _ => N - (intOf i).toNat)
          case atStart => exact ⟨2, Nat.le_refl _, by have := HNN.out; omega, rfl, rfl⟩
          case round =>
            obtain ⟨k, hk2, hkN, rfl, rfl⟩ := hrel
            have hN22 : N ≤ 22 := by have := HNN.out; omega
            obtain ⟨AE, cE, hAE, hlE⟩ := HI8.out
            rw [G2.out] at hAE
            obtain rfl : AD = AE := by injection hAE
            by_cases hkl : k < N
            · obtain ⟨bd, od, rfl, _, hc⟩ := lie_int hlE (k := k) (by rw [G2.out]; exact hkl)
              have hvk : D[k]'(by rw [G2.out]; exact hkl) = -1 := by
                have := G5.out k hk2 (by have := HNN.out; have := HN.out; omega)
                rw [List.getD_eq_getElem?_getD, List.getElem?_eq_getElem (by rw [G2.out]; exact hkl)] at this
                exact this
              rw [hvk] at hc
              clear hlE hAE hvk
              go_wp2_with fail
              go_roundw
              case rel => exact ⟨k + 1, by omega, by omega, by go_num, trivial⟩
              case measure => simp [intOf]; omega
            · obtain rfl : N = k := by omega
              have hN2 : 2 ≤ N := by have := HNN.out; omega
              obtain ⟨bd, od, rfl, _, h0⟩ := lie_int hlE (k := 0) (by rw [G2.out]; omega)
              obtain ⟨bd', od', e', _, h1⟩ := lie_int hlE (k := 1) (by rw [G2.out]; omega)
              injection e' with e'; injection e' with e1 e2; subst e1 e2
              have hv0 : D[0]'(by rw [G2.out]; omega) = 0 := by
                have := G3.out
                rw [List.getD_eq_getElem?_getD, List.getElem?_eq_getElem (by rw [G2.out]; omega)] at this
                exact this
              have hv1 : D[1]'(by rw [G2.out]; omega) = 1 := by
                have := G4.out
                rw [List.getD_eq_getElem?_getD, List.getElem?_eq_getElem (by rw [G2.out]; omega)] at this
                exact this
              rw [hv0] at h0
              rw [hv1] at h1
              have h0' : wr.cell? ⟨bd, od, none⟩ = some (.int .i64 0) := h0
              clear hlE hAE hv0 hv1 h0
              go_wp2_with fail
              go_ret
              exact ⟨rfl, B8.out⟩
    | false =>
      obtain rfl : e = 26 := he
      go_upto_region 9 with (fail)
      rw [← hw2]
      clear hw2
      go_wp2_with (at_builtin; go_must (refine wpList_append_own_at w2 rfl (.const (.slice none 0 0)) (.tmp 26) 29 rfl w2.heap.size 32 i0 (.agg #[.int .i64 0, .int .i32 0]) 2 16 Try.underlying29 HIN.out HZ0.out HZ1.out HZ2.out rfl (by decide) (.slice none 0 0) 0 [] rfl (World.ownsRow_nil w2 w2.heap.size _ 2) ⟨w1.heap.size, 0, none⟩ 1 1 [.int .i64 1, .int .i32 1] rfl rfl HNEWS.out ?c1 ?c2 ?c3 ?c4 ?_))
      case c1 => exact one_cells _ _
      case c2 => decide
      case c3 => decide
      case c4 => exact Nat.le_refl _
      intro v3 w3 ho hg _ _
      have O3 : Hid (OwnI w3 w2.heap.size v3 [(1, 1)]) := Lib.hid ho
      have H3 := (Below.refl w2.heap.size w2).grown hg (Nat.le_refl _) (fun k hk => by simp [Value.ownBlock] at hk)
      have B3 := Lib.hid H3; have W3 := Lib.hid H3.size
      clear ho hg H3
      go_wp2_with (at_builtin; go_must (refine wpList_append_new 29 32 (.agg #[.int .i64 0, .int .i32 0]) 2 16 Try.underlying29 inf_instr rfl (by decide) (by decide) rfl (.tmp 27) (.tmp 30) rfl w2.heap.size _ _ _ _ [.int .i64 26, .int .i32 0] rfl rfl O3.out rfl rfl ?c1 ?c2 ?c3 ?_))
      case c1 => exact one_cells _ _
      case c2 => decide
      case c3 => exact W3.out
      intro v4 w4 ho hg _
      have O4 : Hid (OwnI w4 w2.heap.size v4 (ef 26 (L.take 0))) := Lib.hid (OwnI.snoc ho)
      have H4 := (Below.refl w2.heap.size w3).grown hg W3.out (fun k hk => (World.ownsRow.lt O3.out k hk).1)
      have B4 := Lib.hid (B3.out.trans H4); have W4 := Lib.hid (Nat.le_trans W3.out H4.size)
      clear ho hg H4 B3 W3 O3
      go_wp2_with fail
      go_loopw [9, 10] (fun v i wr => ∃ j : Nat, j ≤ n ∧ i = .int .i64 j ∧ OwnI wr w2.heap.size v (ef 26 (L.take j)) ∧ w2.heap.size ≤ wr.heap.size ∧ Below w2.heap.size w2 wr) (fun _ i _ => n - (intOf i).toNat)
      case atStart => exact ⟨0, Nat.zero_le _, rfl, O4.out, W4.out, B4.out⟩
      case round =>
        clear O4 W4 B4
        obtain ⟨j, hj, rfl, ho, hw, hb⟩ := hrel
        have HO := Lib.hid ho; have HB := Lib.hid hb; have HW := Lib.hid hw
        by_cases hjn : j < n
        · clear ho hb hw
          obtain ⟨bp, off, cp, hvv, c0, c1, r0, r1⟩ := (HP.out.below (nextB B2.out HB.out)).cells (k := j) (by rw [HN.out]; exact hjn)
          rw [HN.out] at hvv
          obtain rfl : A0 = some ⟨bp, off, none⟩ := by injection hvv
          obtain ⟨p, hp⟩ : ∃ p, L.getD j (0, 0) = p := ⟨_, rfl⟩
          rw [hp] at c0 c1 r0 r1
          obtain ⟨kk, aa⟩ := p
          have HTK : Hid (L.take (j + 1) = L.take j ++ [(kk, aa)]) := Lib.hid (by
            rw [List.take_add_one]
            have : L[j]? = some (kk, aa) := by rw [← hp, List.getD_eq_getElem?_getD, List.getElem?_eq_getElem (by rw [HN.out]; exact hjn)]; rfl
            rw [this]; rfl)
          obtain ⟨so, hso⟩ : ∃ z, seatOp kk = z := ⟨_, rfl⟩
          obtain ⟨sa, hsa⟩ : ∃ z, seatArg kk aa = z := ⟨_, rfl⟩
          have HS : Hid (∀ w, Calls Try.prog 26 #[.int .u8 kk, .int .u8 aa] w fun e w' => e = .returned (.agg #[.int .i64 so, .int .i32 sa]) ∧ Below w.heap.size w w') := Lib.hid (fun w => by
            have := seatInstr_any kk aa w r0 r1; rwa [hso, hsa] at this)
          have HSO := Lib.hid hso; have HSA := Lib.hid hsa
          have hr0 : (j : Int) < (n : Int) := by omega
          have hbp : bp < wr.heap.size := World.block_lt_of_cell? wr _ c0
          have d0 : (wr.alloc (.cells #[.int .i64 0, .int .i32 0] 32)).cell? ⟨bp, off + j * 2, none⟩ = some (.int .u8 kk) := ((below_alloc wr _).cell (p := ⟨bp, off + j * 2, none⟩) hbp).trans c0
          have d1 : (wr.alloc (.cells #[.int .i64 0, .int .i32 0] 32)).cell? ⟨bp, off + j * 2 + 1, none⟩ = some (.int .u8 aa) := ((below_alloc wr _).cell (p := ⟨bp, off + j * 2 + 1, none⟩) hbp).trans c1
          clear hvv hp hso hsa
          go_upto_region 13 with (fail)
          go_cut [11] from 38 to 48 (fun p wx => ∃ q, p = .pointer (some ⟨q, 0, none⟩) ∧ IB wx q so sa ∧ Below wr.heap.size wr wx ∧ wr.heap.size ≤ q)
          case first =>
            go_region_with (first
              | (go_at_call 26; refine (HS.out _).mono ?_; rintro e wS ⟨rfl, hbS⟩; first | (have hz := after_zero (w := wr) hbS rfl; have z0 : wS.cell? ⟨wr.heap.size, 0, none⟩ = some (.int .i64 0) := cell_blk hz 0; have z1 : wS.cell? ⟨wr.heap.size, 1, none⟩ = some (.int .i32 0) := cell_blk hz 1; have fz0 : wS.frozen? ⟨wr.heap.size, 0, none⟩ = false := frozen_blk hz 0; have fz1 : wS.frozen? ⟨wr.heap.size, 1, none⟩ = false := frozen_blk hz 1; have HZZ := Lib.hid hz; clear hz) | skip))
            all_goals (go_wp2_with fail; go_meet; first | exact ⟨_, rfl, end_b hbS (by first | exact (Below.refl _ _).drew | exact (below_alloc _ _).drew)⟩ | exact ⟨_, rfl, end_a hbS (by first | exact (below_alloc _ _).drew | exact (Below.refl _ _).drew) HZZ.out⟩)
          case rest =>
            obtain ⟨q, rfl, hq, hbx, hqs⟩ := hcut
            have JQ := Lib.hid hq
            have OX := Lib.hid (HO.out.below hbx)
            have BX := Lib.hid (HB.out.trans (hbx.mono HW.out)); have WX := Lib.hid (Nat.le_trans HW.out hbx.size)
            have HQS := Lib.hid (Nat.le_trans HW.out hqs)
            have HNE := Lib.hid (fun e => (show False by have h2 := (World.ownsRow.lt HO.out q e).2; omega))
            obtain ⟨z, hz⟩ : ∃ z, argZ so = z := ⟨_, rfl⟩
            have HA : Hid (∀ w, Calls Try.prog 27 #[.int .i64 so] w fun e w' => e = .returned (.int .i64 z) ∧ w' = w) := Lib.hid fun w => by rw [← hz]; exact refArg_any so w
            have HTI : Hid (tailI (kk, aa) = (((so : Nat) : Int), if 1 < z then 0 else sa)) := Lib.hid (by unfold tailI; rw [HSO.out, HSA.out, hz])
            have q0 := hq.c0; have q1 := hq.c1
            have f1 : wc.frozen? ⟨q, 1, none⟩ = false := frozen_blk hq 1
            clear hq hbx hqs hz c0 c1 d0 d1 hbp HO HB HW
            go_upto_region 14 with (fail)
            go_wp2_with fail
            refine (HA.out wc).mono ?_
            rintro e wy ⟨rfl, rfl⟩
            by_cases hz1 : 1 < z
            · have HTX : Hid (tailI (kk, aa) = (((so : Nat) : Int), 0)) := Lib.hid (by rw [HTI.out, if_pos hz1])
              obtain ⟨wd, hwd⟩ : ∃ wd, wd = wy.setCell ⟨q, 1, none⟩ (.int .i32 0) := ⟨_, rfl⟩
              have JD : Hid (IB wd q so 0) := Lib.hid (by rw [hwd]; simpa [IB] using set_blk JQ.out 1 (.int .i32 0))
              have OD : Hid (OwnI wd w2.heap.size _ (ef 26 (L.take j))) := Lib.hid (by rw [hwd]; exact own_far OX.out (fun e => HNE.out e))
              have BD := Lib.hid (show Below w2.heap.size w2 wd by rw [hwd]; exact BX.out.trans (below_set HQS.out _))
              have hsz : wd.heap.size = wy.heap.size := by rw [hwd]; simp [World.setCell]
              rw [← hsz] at WX
              clear hsz OX BX JQ HNE
              go_upto_region 16 with (fail)
              rw [← hwd]
              clear hwd q0 q1 f1
              have q0 := JD.out.c0; have q1 := JD.out.c1
              go_wp2_with (at_builtin; go_must (refine wpList_append_new 29 32 (.agg #[.int .i64 0, .int .i32 0]) 2 16 Try.underlying29 inf_instr rfl (by decide) (by decide) rfl (.tmp 54) (.tmp 56) rfl w2.heap.size _ _ _ _ [.int .i64 so, .int .i32 0] rfl rfl OD.out rfl rfl ?c1 ?c2 ?c3 ?_))
              case c1 => exact one_cells _ _
              case c2 => rw [ef_length, List.length_take]; omega
              case c3 => exact WX.out
              intro v5 w5 ho hg _
              have O5 : Hid (OwnI w5 w2.heap.size v5 (ef 26 (L.take (j + 1)))) := Lib.hid (by
                rw [HTK.out]
                have e1 : ef 26 (L.take j ++ [(kk, aa)]) = ef 26 (L.take j) ++ [(((so : Nat) : Int), 0)] := by
                  unfold ef; rw [List.map_append, List.append_assoc]; congr 2; show [tailI (kk, aa)] = _; rw [HTX.out]
                rw [e1]; exact OwnI.snoc ho)
              have H5 := (Below.refl w2.heap.size _).grown hg WX.out (fun k hk => (World.ownsRow.lt OD.out k hk).1)
              have B5 := Lib.hid (BD.out.trans H5); have W5 := Lib.hid (Nat.le_trans WX.out H5.size)
              clear ho hg H5 BD OD
              go_wp2_with fail
              go_roundw
              case rel => exact ⟨j + 1, by omega, by go_num, O5.out, W5.out, B5.out⟩
              case measure => simp [intOf]; omega
            · have HTX : Hid (tailI (kk, aa) = (((so : Nat) : Int), sa)) := Lib.hid (by rw [HTI.out, if_neg hz1])
              have OD := OX; have BD := BX
              clear OX BX HNE
              go_wp2_with (at_builtin; go_must (refine wpList_append_new 29 32 (.agg #[.int .i64 0, .int .i32 0]) 2 16 Try.underlying29 inf_instr rfl (by decide) (by decide) rfl (.tmp 54) (.tmp 56) rfl w2.heap.size _ _ _ _ [.int .i64 so, .int .i32 sa] rfl rfl OD.out rfl rfl ?c1 ?c2 ?c3 ?_))
              case c1 => exact one_cells _ _
              case c2 => rw [ef_length, List.length_take]; omega
              case c3 => exact WX.out
              intro v5 w5 ho hg _
              have O5 : Hid (OwnI w5 w2.heap.size v5 (ef 26 (L.take (j + 1)))) := Lib.hid (by
                rw [HTK.out]
                have e1 : ef 26 (L.take j ++ [(kk, aa)]) = ef 26 (L.take j) ++ [(((so : Nat) : Int), sa)] := by
                  unfold ef; rw [List.map_append, List.append_assoc]; congr 2; show [tailI (kk, aa)] = _; rw [HTX.out]
                rw [e1]; exact OwnI.snoc ho)
              have H5 := (Below.refl w2.heap.size _).grown hg WX.out (fun k hk => (World.ownsRow.lt OD.out k hk).1)
              have B5 := Lib.hid (BD.out.trans H5); have W5 := Lib.hid (Nat.le_trans WX.out H5.size)
              clear ho hg H5 BD OD
              go_wp2_with fail
              go_roundw
              case rel => exact ⟨j + 1, by omega, by go_num, O5.out, W5.out, B5.out⟩
              case measure => simp [intOf]; omega
        · obtain rfl : n = j := by omega
          have htk : L.take n = L := by rw [← HN.out, List.take_length]
          rw [htk] at ho
          obtain ⟨A5, c5, hv5⟩ := ho.slice
          have hl5 := ef_length 26 L
          rw [HN.out] at hl5
          obtain ⟨N, hN⟩ : ∃ N, n + 2 = N := ⟨_, rfl⟩
          rw [hl5, hN] at hv5
          subst hv5
          have HR5 := Lib.hid (RowI.of_own ho (ef_i32 L))
          have HL5 := Lib.hid (hl5.trans hN); have HNN := Lib.hid hN
          have BW := Lib.hid hb
          clear ho hb hw HO HB HW htk hl5 hN
          obtain ⟨g1, g2, g3, g4, g5⟩ := ef_all 26 L (.inr rfl) (by rw [HN.out]; exact h20)
          have G1 := Lib.hid g1; have G2 := Lib.hid g2; have G3 := Lib.hid g3; have G4 := Lib.hid g4; have G5 := Lib.hid g5
          clear g1 g2 g3 g4 g5
          go_wp2_with fail
          refine (func_lit wr HR5.out (by rw [HL5.out]; have := HNN.out; omega) G1.out).mono ?_
          rintro e w6 ⟨rfl, hb⟩
          have HR6 := Lib.hid (HR5.out.later hb)
          have B6 := Lib.hid (BW.out.trans (hb.mono BW.out.size))
          clear hb HR5 BW
          go_wp2_with fail
          refine (depths_lit (D := depthsZ (ef 26 L)) w6 HR6.out (by rw [HL5.out]; have := HNN.out; omega) rfl).mono ?_
          rintro e w7 ⟨⟨v, rfl, hI⟩, hb⟩
          have B7 := Lib.hid (B6.out.trans (hb.mono B6.out.size))
          have HI7 := Lib.hid hI
          obtain ⟨D, hD⟩ : ∃ D, depthsZ (ef 26 L) = D := ⟨_, rfl⟩
          rw [hD] at G2 G3 G4 G5 HI7
          rw [HN.out, HNN.out] at G2
          obtain ⟨AD, cD, rfl, _⟩ := HI7.out
          rw [G2.out] at HI7 ⊢
          clear hb hI hD B6 HR6
          go_wp2_with fail
          refine (func_lit (a := 0) (b := 24) w7 (O2.out.later B7.out) (by decide) (by decide +kernel)).mono ?_
          rintro e w8 ⟨rfl, hb⟩
          have B8 := Lib.hid (nextB B2.out (B7.out.trans (hb.mono B7.out.size)))
          have HI8 := Lib.hid (HI7.out.later hb)
          clear hb B7 HI7
          go_wp2_with fail
          go_loopw [17] (fun i wq => ∃ k : Nat, 2 ≤ k ∧ k ≤ N ∧ i = .int .i64 k ∧ wq = w8) (fun i _ => N - (intOf i).toNat)
          case atStart => exact ⟨2, Nat.le_refl _, by have := HNN.out; omega, rfl, rfl⟩
          case round =>
            obtain ⟨k, hk2, hkN, rfl, rfl⟩ := hrel
            have hN22 : N ≤ 22 := by have := HNN.out; omega
            obtain ⟨AE, cE, hAE, hlE⟩ := HI8.out
            rw [G2.out] at hAE
            obtain rfl : AD = AE := by injection hAE
            by_cases hkl : k < N
            · obtain ⟨bd, od, rfl, _, hc⟩ := lie_int hlE (k := k) (by rw [G2.out]; exact hkl)
              have hvk : D[k]'(by rw [G2.out]; exact hkl) = -1 := by
                have := G5.out k hk2 (by have := HNN.out; have := HN.out; omega)
                rw [List.getD_eq_getElem?_getD, List.getElem?_eq_getElem (by rw [G2.out]; exact hkl)] at this
                exact this
              rw [hvk] at hc
              clear hlE hAE hvk
              go_wp2_with fail
              go_roundw
              case rel => exact ⟨k + 1, by omega, by omega, by go_num, trivial⟩
              case measure => simp [intOf]; omega
            · obtain rfl : N = k := by omega
              have hN2 : 2 ≤ N := by have := HNN.out; omega
              obtain ⟨bd, od, rfl, _, h0⟩ := lie_int hlE (k := 0) (by rw [G2.out]; omega)
              obtain ⟨bd', od', e', _, h1⟩ := lie_int hlE (k := 1) (by rw [G2.out]; omega)
              injection e' with e'; injection e' with e1 e2; subst e1 e2
              have hv0 : D[0]'(by rw [G2.out]; omega) = 0 := by
                have := G3.out
                rw [List.getD_eq_getElem?_getD, List.getElem?_eq_getElem (by rw [G2.out]; omega)] at this
                exact this
              have hv1 : D[1]'(by rw [G2.out]; omega) = 1 := by
                have := G4.out
                rw [List.getD_eq_getElem?_getD, List.getElem?_eq_getElem (by rw [G2.out]; omega)] at this
                exact this
              rw [hv0] at h0
              rw [hv1] at h1
              have h0' : wr.cell? ⟨bd, od, none⟩ = some (.int .i64 0) := h0
              clear hlE hAE hv0 hv1 h0
              go_wp2_with fail
              go_ret
              exact ⟨rfl, B8.out⟩
  · go_wp2_with fail
    go_ret
    exact ⟨rfl, hb⟩

/- The claim. -/

set_option maxRecDepth 100000 in
theorem lifted (os : Os) (started : os.Started) (H : Type) (enc : TypeId × Value → H) :
    ReturnsInHanded {} Try.checked os 7 .any (Rows.verifyEndsSpec.pre6 enc Try.prog Try.f7 Rows.verifyEndsRow.domain false) (Rows.verifyEndsSpec.post enc Try.prog Try.f7 false true false false) := by
  refine returnsInHanded_of_change (C := Try.checked) ownKnobs started (by kernel_rfl) Try.func7
    (ChangeSpec.witness6 (enc := enc) (C := Try.checked) false ⟨#[], #[.slice none 0 0, .bool false, .int .u8 0], []⟩ 8 (by kernel_rfl) (by kernel_rfl) (by kernel_rfl) (by kernel_rfl)) ?_
  intro W base args ds gs before hval hW _ _
  refine law_contract rfl rfl (fun ds h => by match ds, h with | [d1, d2, d3], _ => rfl) (by decide +kernel) hW ?_
  obtain ⟨p, q, hA0, _⟩ := hW
  have hA : DataW.TrodAll enc Try.prog W 0 (fun _ => true) true Try.f7.params.toList args.toList ds p := hA0
  have hval' : ∀ (j : Nat) t v, Try.f7.params[j]? = some t → args[j]? = some v → Value.okWide Try.prog W .any base t v := hval
  rw [Try.params7] at hA hval'
  obtain ⟨v0, vs0, d0, ds0, p0, q0, hargs, rfl, rfl, h0, r0⟩ := trodAll_cons hA
  obtain ⟨v1, vs1, d1, ds1, p1, q1, rfl, rfl, rfl, h1, r1⟩ := trodAll_cons r0
  obtain ⟨v2, vs2, d2, ds2, p2, q2, rfl, rfl, rfl, h2, r2⟩ := trodAll_cons r1
  obtain ⟨rfl, rfl, rfl⟩ := trodAll_nil r2
  obtain rfl : args = #[v0, v1, v2] := by cases args; simp_all
  obtain ⟨l0, h0, m0⟩ := open_pairs (hval' 0 _ v0 rfl rfl) h0
  obtain ⟨a1, rfl, rfl, rfl⟩ := open_bool Try.underlying4 (hval' 1 _ v1 rfl rfl) h1
  obtain ⟨z2, rfl, rfl, rfl, w2⟩ := open_int Try.underlying5 (hval' 2 _ v2 rfl rfl) h2
  have b2 : 0 ≤ z2 ∧ z2 ≤ 255 := by simpa [Lit.wf, IntKind.min, IntKind.max, IntKind.signed, IntKind.bits] using w2
  obtain ⟨a2, rfl⟩ : ∃ n : Nat, z2 = n := ⟨z2.toNat, by omega⟩
  exact walk l0 v0 a1 a2 W h0 m0

theorem proved : Rows.VerifyEndsSaid :=
  OpenClaim.holds_of_wide 7 Try.f7 rfl rfl rfl rfl rfl rfl rfl ⟨rfl, rfl, rfl, rfl, rfl⟩ rfl rfl rfl rfl rfl (by kernel_rfl) Try.func7 (by kernel_rfl)
    (of_decide_eq_true (by kernel_rfl)) (by unfold Func.isWrapper; first | (rw [if_pos (by decide +kernel)]; kernel_rfl) | (rw [if_neg (by decide +kernel)]; exact ⟨rfl, rfl⟩))
    (fun os started H enc _ => lifted os started H enc)

end Go.Proofs.Ytjnlgmjcabbaaaa.verifyEnds
