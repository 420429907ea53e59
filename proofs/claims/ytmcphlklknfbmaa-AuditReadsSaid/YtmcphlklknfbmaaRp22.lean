/- Law 22's reference: AuditPut. -/
import Derived.Test.YtmcphlklknfbmaaRr22
import Derived.Test.YtmcphlklknfbmaaAp22
import Derived.Test.YtmcphlklknfbmaaRef
import Derived.Deep.AppendLies
import Derived.Deep.RegionHeld3
namespace Go.Proofs.Ytmcphlklknfbmaa
set_option maxRecDepth 100000
open Go.RowKit

theorem u64w (n : Nat) (h : n ≤ 18446744073709551615) : IntKind.u64.wrap (n : Int) = (n : Int) := by simp [IntKind.wrap, IntKind.signed, IntKind.bits]; omega
theorem encs_pos {x : Nat} {r : List Nat} (h : IsNums (x :: r)) : 0 < (encs (x :: r)).length := by
  have h1 := (enc_length_le x (by have := h x List.mem_cons_self; omega)).1
  have e : encs (x :: r) = enc x ++ encs r := by simp [encs]
  rw [e, List.length_append]; omega
theorem refInt_any (v : Int) (w : World) : Calls Try.prog 72 #[.int .i32 v] w fun e w' => e = .returned (.int .u64 (wordN v)) ∧ w' = w := by
  obtain ⟨wn, hwn⟩ : ∃ n, wordN v = n := ⟨_, rfl⟩
  rw [hwn]
  have hw1 : IntKind.u32.wrap v = (wn : Int) := by rw [← hwn]; unfold wordN; simp [IntKind.wrap, IntKind.signed, IntKind.bits]; omega
  have hwb : wn ≤ 4294967295 := by rw [← hwn]; unfold wordN; omega
  clear hwn
  go_enter Try.func72, Try.ntmps72
  go_wp2_with fail
  go_ret
  exact ⟨rfl, rfl⟩
set_option maxRecDepth 100000 in
set_option maxHeartbeats 16000000 in
theorem refAPut_any {w : World} {v : Value} {L : List RecX} (h : RcV w v L) (hn : L.length ≤ 1000) (hk : ∀ x ∈ L, RcOk x) : Calls Try.prog 39 #[v] w (BytMade w (putL L)) := by
  have HRT := Lib.hid (refRight_any h (by omega))
  have HRC0 := Lib.hid h
  obtain ⟨A, c, rfl, hjunk⟩ := h
  clear hjunk
  obtain ⟨n, hln⟩ : ∃ n, L.length = n := ⟨_, rfl⟩
  have HLN := Lib.hid hln
  rw [hln] at HRC0 HRT hn ⊢
  clear hln
  cases hr : rightL L with
  | false =>
    have eP : putL L = [] := by unfold putL; rw [hr]; rfl
    rw [eP]
    rw [hr] at HRT
    clear hr eP hk
    go_enter Try.func39, Try.ntmps39
    go_wp2_with fail
    refine HRT.out.mono ?_
    rintro e w1 ⟨rfl, hb1⟩
    have HB1 := Lib.hid hb1
    clear hb1
    go_wp2_with fail
    go_ret
    exact ⟨_, rfl, World.ownsRow_nil _ _ _ _, HB1.out⟩
  | true =>
    have eP : putL L = recsB L := by unfold putL; rw [hr]; rfl
    have hpos := right_pos hr hk
    have HK := Lib.hid hpos
    have HBL := Lib.hid (outB_len hpos (by rw [HLN.out]; exact hn))
    rw [eP]
    rw [hr] at HRT
    clear hr eP hk hpos
    go_enter Try.func39, Try.ntmps39
    go_wp2_with fail
    refine HRT.out.mono ?_
    rintro e w1 ⟨rfl, hb1⟩
    obtain ⟨w2, hw2⟩ : ∃ y, y = w1.alloc (.cells #[.int .u64 (n : Int)] 131) := ⟨_, rfl⟩
    have B2 : Below w1.heap.size w1 w2 := by rw [hw2]; exact below_alloc w1 _
    have HPU := Lib.hid (refPut_any w2.heap.size (some ⟨w1.heap.size, 0, none⟩) 1 1 [n] w2 rfl (by omega) (by intro x hx; rw [List.mem_singleton.1 hx]; omega) (Nat.le_refl _) (by
      have hk : w2.heap[w1.heap.size]? = some (.cells #[.int .u64 (n : Int)] 131 (0, 0)) := by rw [hw2]; exact heap_alloc_new w1 _
      exact fun _ => ⟨w1.heap.size, 0, rfl, (Array.getElem?_eq_some_iff.1 hk).1, fun j u hu => by rw [Nat.zero_add, cell_blk hk]; simpa [u64s] using hu⟩))
    have HB2 : Hid (Below w.heap.size w w2) := Lib.hid (nextB hb1 B2)
    have HW2 := Lib.hid hw2
    clear hb1 hw2 B2
    go_wp2_with fail
    rw [← HW2.out]
    refine HPU.out.mono ?_
    rintro e w3 ⟨v3, rfl, ho, hb⟩
    have H3 : Hid (w3.ownsRow w.heap.size 5 1 v3 (outB L 0).length (u8s (outB L 0)) ∧ Below w.heap.size w w3) := Lib.hid (by
      have e0 : outB L 0 = encs [n] := by unfold outB; rw [HLN.out]; simp
      rw [e0]
      refine ⟨⟨ho.1, ?_⟩, nextB HB2.out hb⟩
      rcases ho.2 with e | ⟨g, cap, cur, e, hg, h3⟩
      · exact .inl e
      · exact .inr ⟨g, cap, cur, e, Nat.le_trans HB2.out.size hg, h3⟩)
    obtain ⟨A3, n3, k3, e3⟩ : ∃ A n c, v3 = .slice A n c := by
      rcases ho.2 with ⟨e, _⟩ | ⟨g, cap, cur, e, _⟩
      · exact ⟨_, _, _, e⟩
      · exact ⟨_, _, _, e⟩
    subst e3
    clear ho hb HPU
    go_wp2_with fail
    go_loopw [3, 4] (fun x i wr => ∃ j : Nat, j ≤ n ∧ i = .int .i64 j ∧ wr.ownsRow w.heap.size 5 1 x (outB L j).length (u8s (outB L j)) ∧ Below w.heap.size w wr) (fun _ i _ => n - (intOf i).toNat)
    case atStart => exact ⟨0, Nat.zero_le _, rfl, H3.out.1, H3.out.2⟩
    case round =>
      clear H3
      obtain ⟨j, hj, rfl, ho, hb⟩ := hrel
      have HO := Lib.hid ho; have HB := Lib.hid hb
      obtain ⟨A5, n5, c5, e5⟩ : ∃ A n c, u3 = .slice A n c := by
        rcases ho.2 with ⟨e, _⟩ | ⟨g, cap, cur, e, _⟩
        · exact ⟨_, _, _, e⟩
        · exact ⟨_, _, _, e⟩
      subst e5
      by_cases hjn : j < n
      · have hjl : j < L.length := by rw [HLN.out]; exact hjn
        obtain ⟨g, off, eA, hr⟩ := HRC0.out.at' hjl
        subst eA
        have HFT : Hid (outB L (j + 1) = outB L j ++ recB L[j]) := Lib.hid (by unfold outB; rw [flat_take hjl, List.append_assoc])
        have hxk := HK.out L[j] (List.getElem_mem hjl)
        generalize L[j] = x at *
        have HNM := Lib.hid (recN_nums hxk)
        have HL1 := Lib.hid (recB_len hxk)
        have HR := Lib.hid (rc_range_below hr hb)
        obtain ⟨⟨h1, h2, h3, h4, h5, h6⟩, p1, p2, p3, p4, p5⟩ := hxk
        unfold I64 at h1 h2 h3 h5
        obtain ⟨sq, gt, tt, vl, rd, bb⟩ := x
        simp only at h1 h2 h3 h4 h5 h6 p1 p2 p3 p4 p5
        obtain ⟨n0, rfl⟩ : ∃ n : Nat, sq = n := ⟨sq.toNat, by omega⟩
        obtain ⟨n1, rfl⟩ : ∃ n : Nat, gt = n := ⟨gt.toNat, by omega⟩
        obtain ⟨n2, rfl⟩ : ∃ n : Nat, tt = n := ⟨tt.toNat, by omega⟩
        obtain ⟨n4, rfl⟩ : ∃ n : Nat, rd = n := ⟨rd.toNat, by omega⟩
        obtain ⟨n6, rfl⟩ : ∃ n : Nat, bb = n := ⟨bb.toNat, by omega⟩
        have eN : recN ⟨n0, n1, n2, vl, n4, n6⟩ = [n0, n1, n2, wordN vl, n4, n6] := by simp [recN]
        have eB : recB ⟨n0, n1, n2, vl, n4, n6⟩ = encs [n0, n1, n2, wordN vl, n4, n6] := by unfold recB; rw [eN]
        rw [eN] at HNM
        rw [eB] at HFT HL1
        have HIN := Lib.hid (fun w' => refInt_any vl w')
        obtain ⟨wn, hwn⟩ : ∃ n, wordN vl = n := ⟨_, rfl⟩
        rw [hwn] at HNM HFT HL1 HIN
        have hwb : wn ≤ 4294967295 := by rw [← hwn]; unfold wordN; omega
        have HLP : Hid (0 < (encs [n0, n1, n2, wn, n4, n6]).length) := Lib.hid (encs_pos HNM.out)
        obtain ⟨w1', hw1, hX1, hB1⟩ := rec_box wr ⟨n0, n1, n2, vl, n4, n6⟩
        have HZ := Lib.hid (rec_zero wr)
        have HX1 := Lib.hid hX1
        have HW1 := Lib.hid hw1
        have HB1 := Lib.hid (hb.trans (hB1.mono hb.size))
        have HO1 := Lib.hid (ownsRow_keep ho fun k e => hB1.block k (World.ownsRow.lt ho k e).2)
        have i1 : (0 : Int) ≤ (j : Int) ∧ (j : Int) < n := by omega
        have hbl := HBL.out j
        have HBJ := Lib.hid hbl
        obtain ⟨bl, hble⟩ : ∃ y, (outB L j).length = y := ⟨_, rfl⟩
        have HBE := Lib.hid hble
        clear hr hjl hw1 hX1 hB1 ho hb hble hbl hwn eN eB HRT HW2
        go_upto_region 8 with (first | (refine load_recMid rfl _ rfl g (off + j * 6) ⟨n0, n1, n2, vl, n4, n6⟩ rfl HR.out ?_; simp only [recA]) | (refine store_rec rfl _ _ rfl rfl wr.heap.size ⟨n0, n1, n2, vl, n4, n6⟩ rfl rfl _ zR HZ.out ?_; rw [← HW1.out]) | fail)
        have HK2 : Hid (∀ w', Below w1'.heap.size w1' w' → w'.cell? ⟨wr.heap.size, 0, none⟩ = some (.int .i64 (n0 : Int)) ∧ w'.cell? ⟨wr.heap.size, 1, none⟩ = some (.int .i64 (n1 : Int)) ∧ w'.cell? ⟨wr.heap.size, 2, none⟩ = some (.int .i64 (n2 : Int)) ∧ w'.cell? ⟨wr.heap.size, 3, none⟩ = some (.int .i32 vl) ∧ w'.cell? ⟨wr.heap.size, 4, none⟩ = some (.int .i64 (n4 : Int)) ∧ w'.cell? ⟨wr.heap.size, 5, none⟩ = some (.int .i32 (n6 : Int))) := Lib.hid (fun w' hb => by
          have hx : w'.heap[wr.heap.size]? = _ := (hb.block _ (Array.getElem?_eq_some_iff.1 HX1.out).1).trans HX1.out
          exact ⟨cell_blk hx 0, cell_blk hx 1, cell_blk hx 2, cell_blk hx 3, cell_blk hx 4, cell_blk hx 5⟩)
        have HD : Hid (Below w1'.heap.size w1' w1'.drew) := Lib.hid ⟨rfl, rfl, rfl, Nat.le_refl _, fun _ _ => rfl⟩
        have HA : Hid (∀ cl, Below w1'.heap.size w1' (w1'.alloc cl).drew) := Lib.hid (fun cl => nextB (below_alloc w1' cl) ⟨rfl, rfl, rfl, Nat.le_refl _, fun _ _ => rfl⟩)
        have HAN : Hid (∀ cl, (w1'.alloc cl).drew.heap[w1'.heap.size]? = some cl) := Lib.hid (fun cl => heap_alloc_new w1' cl)
        have HPQ : Hid (∀ W : World, Below w1'.heap.size w1' W → W.heap[w1'.heap.size]? = some (.cells #[.int .u64 (IntKind.u64.wrap (n0 : Int)), .int .u64 (IntKind.u64.wrap (n1 : Int)), .int .u64 (IntKind.u64.wrap (n2 : Int)), .int .u64 (wn : Int), .int .u64 (IntKind.u64.wrap (n4 : Int)), .int .u64 (IntKind.u64.wrap (n6 : Int))] 131 (0, 0)) →
            Calls Try.prog 71 #[.slice (some ⟨w1'.heap.size, 0, none⟩) 6 6] W fun e w' => ∃ g4 k4, e = .returned (.slice (some ⟨g4, 0, none⟩) (encs [n0, n1, n2, wn, n4, n6]).length k4) ∧ Below w1'.heap.size w1' w' ∧ (∀ k u, (u8s (encs [n0, n1, n2, wn, n4, n6]))[k]? = some u → w'.cell? ((⟨g4, 0, none⟩ : Addr).add k) = some u) ∧ w'.ownsRow w.heap.size 5 1 (.slice A5 n5 c5) bl (u8s (outB L j))) := Lib.hid (fun W hbW hW => by
          rw [u64w n0 (by omega), u64w n1 (by omega), u64w n2 (by omega), u64w n4 (by omega), u64w n6 (by omega)] at hW
          refine (refPut_any W.heap.size (some ⟨w1'.heap.size, 0, none⟩) 6 6 [n0, n1, n2, wn, n4, n6] W rfl (by omega) HNM.out (Nat.le_refl _) (fun _ => ⟨w1'.heap.size, 0, rfl, (Array.getElem?_eq_some_iff.1 hW).1, fun k u hu => by rw [Nat.zero_add, cell_blk hW]; simpa [u64s] using hu⟩)).mono ?_
          rintro e w4 ⟨v4, rfl, o4, b4⟩
          obtain ⟨g4, k4, rfl, _, _⟩ := World.ownsRow.form o4 HLP.out
          refine ⟨g4, k4, rfl, nextB hbW b4, fun k u hu => World.ownsRow.cells o4 (g := g4) rfl k u hu, ?_⟩
          have h1 := HO1.out
          rw [HBE.out] at h1
          have h2 := ownsRow_keep h1 fun k e => hbW.block k (World.ownsRow.lt h1 k e).2
          exact ownsRow_keep h2 fun k e => b4.block k (World.ownsRow.lt h2 k e).2)
        obtain ⟨i0, hi, hq⟩ : ∃ i0, Try.prog.info? 5 = some i0 ∧ (i0.zero, i0.size, i0.bytes) = (some (.int .u8 0), 1, 1) := by
          have hinf := inf_u8
          cases hI : Try.prog.info? 5 with
          | none => rw [hI] at hinf; cases hinf
          | some i0 => rw [hI] at hinf; exact ⟨i0, rfl, by simpa using hinf⟩
        injection hq with hq1 hq2
        injection hq2 with hq2 hq3
        have HI := Lib.hid hi; have HQ1 := Lib.hid hq1; have HQ2 := Lib.hid hq2; have HQ3 := Lib.hid hq3
        clear hi hq1 hq2 hq3
        have HPO : Hid (∀ w4 wQ : World, Below w1'.heap.size w1' w4 → w4.grownBy wQ (Value.slice A5 n5 c5).ownBlock → wQ.heap[wr.heap.size]? = w4.heap[wr.heap.size]? ∧ Below w.heap.size w wQ) := Lib.hid (fun w4 wQ b4 grQ => by
          have hgx : ∀ k, (Value.slice A5 n5 c5).ownBlock = some k → w.heap.size ≤ k ∧ k < wr.heap.size := fun k e => World.ownsRow.lt HO.out k e
          have hs1 := HB1.out.size
          have hs4 := b4.size
          refine ⟨grQ.block _ (Nat.lt_of_lt_of_le (Array.getElem?_eq_some_iff.1 HX1.out).1 hs4) (fun e => by have := hgx _ e.symm; omega), (nextB HB1.out b4).grown grQ (Nat.le_trans hs1 hs4) (fun k e => (hgx k e).1)⟩)
        have HS4 : Hid (∀ w4 : World, Below w1'.heap.size w1' w4 → w.heap.size ≤ w4.heap.size) := Lib.hid (fun w4 b4 => Nat.le_trans HB1.out.size b4.size)
        have HM1 : Hid (bl + (encs [n0, n1, n2, wn, n4, n6]).length ≤ maxLen ∧ (bl + (encs [n0, n1, n2, wn, n4, n6]).length) * 1 ≤ 140737488355328) := Lib.hid (by
          have h1 := HBJ.out
          have h2 := HL1.out
          rw [HBE.out] at h1
          unfold maxLen
          omega)
        have HKC : Hid (∀ wa wb : World, wb.heap[wr.heap.size]? = wa.heap[wr.heap.size]? → (wa.cell? ⟨wr.heap.size, 0, none⟩ = some (.int .i64 (n0 : Int)) ∧ wa.cell? ⟨wr.heap.size, 1, none⟩ = some (.int .i64 (n1 : Int)) ∧ wa.cell? ⟨wr.heap.size, 2, none⟩ = some (.int .i64 (n2 : Int)) ∧ wa.cell? ⟨wr.heap.size, 3, none⟩ = some (.int .i32 vl) ∧ wa.cell? ⟨wr.heap.size, 4, none⟩ = some (.int .i64 (n4 : Int)) ∧ wa.cell? ⟨wr.heap.size, 5, none⟩ = some (.int .i32 (n6 : Int))) → wb.cell? ⟨wr.heap.size, 0, none⟩ = some (.int .i64 (n0 : Int)) ∧ wb.cell? ⟨wr.heap.size, 1, none⟩ = some (.int .i64 (n1 : Int)) ∧ wb.cell? ⟨wr.heap.size, 2, none⟩ = some (.int .i64 (n2 : Int)) ∧ wb.cell? ⟨wr.heap.size, 3, none⟩ = some (.int .i32 vl) ∧ wb.cell? ⟨wr.heap.size, 4, none⟩ = some (.int .i64 (n4 : Int)) ∧ wb.cell? ⟨wr.heap.size, 5, none⟩ = some (.int .i32 (n6 : Int))) := Lib.hid (fun wa wb e h => by
          obtain ⟨h0, h1, h2, h3, h4, h5⟩ := h
          exact ⟨(World.cell?_of_block (w := wa) (a := ⟨wr.heap.size, 0, none⟩) e).trans h0, (World.cell?_of_block (w := wa) (a := ⟨wr.heap.size, 1, none⟩) e).trans h1, (World.cell?_of_block (w := wa) (a := ⟨wr.heap.size, 2, none⟩) e).trans h2, (World.cell?_of_block (w := wa) (a := ⟨wr.heap.size, 3, none⟩) e).trans h3, (World.cell?_of_block (w := wa) (a := ⟨wr.heap.size, 4, none⟩) e).trans h4, (World.cell?_of_block (w := wa) (a := ⟨wr.heap.size, 5, none⟩) e).trans h5⟩)
        go_region_held3 (fun w' => w'.cell? ⟨wr.heap.size, 0, none⟩ = some (.int .i64 (n0 : Int)) ∧ w'.cell? ⟨wr.heap.size, 1, none⟩ = some (.int .i64 (n1 : Int)) ∧ w'.cell? ⟨wr.heap.size, 2, none⟩ = some (.int .i64 (n2 : Int)) ∧ w'.cell? ⟨wr.heap.size, 3, none⟩ = some (.int .i32 vl) ∧ w'.cell? ⟨wr.heap.size, 4, none⟩ = some (.int .i64 (n4 : Int)) ∧ w'.cell? ⟨wr.heap.size, 5, none⟩ = some (.int .i32 (n6 : Int)))
          (first | (have h4 := HK2.out _ HB4.out; exact HKC.out _ _ HC6.out h4) | exact HK2.out _ HB4.out | exact HK2.out _ (HA.out _) | exact HK2.out _ HD.out)
          (first
            | (go_at_call 72; refine (HIN.out _).mono ?_; rintro e wI ⟨rfl, rfl⟩)
            | (go_at_call 71; refine (HPQ.out _ (HA.out _) (HAN.out _)).mono ?_; rintro e w4 ⟨g4, k4, rfl, b4, l4, o4⟩; have HB4 := Lib.hid b4; have HL4 := Lib.hid l4; have HO4 := Lib.hid o4; clear b4 l4 o4)
            | (refine step_append_lies _ rfl (.tmp 24) (.tmp 44) 54 rfl w.heap.size 5 i0 _ 1 1 Try.underlying54 HI.out HQ1.out HQ2.out HQ3.out rfl (by decide) (.slice A5 n5 c5) bl (u8s (outB L j)) rfl HO4.out ⟨g4, 0, none⟩ (encs [n0, n1, n2, wn, n4, n6]).length k4 (u8s (encs [n0, n1, n2, wn, n4, n6])) rfl (by simp [u8s]) HL4.out (one_u8 _) HLP.out ?_ ?_ ?_ _ rfl ?_
               · exact HM1.out.1
               · exact HM1.out.2
               · exact HS4.out _ HB4.out
               intro gQ kQ wQ oQ grQ _ _
               have HC6 := Lib.hid (HPO.out w4 wQ HB4.out grQ).1
               have HB6 := Lib.hid (HPO.out w4 wQ HB4.out grQ).2
               have HO6 := Lib.hid oQ
               clear oQ grQ))
        all_goals
          have HO7 : Hid (wQ.ownsRow w.heap.size 5 1 (.slice (some ⟨gQ, 0, none⟩) (bl + (encs [n0, n1, n2, wn, n4, n6]).length) kQ) (outB L (j + 1)).length (u8s (outB L (j + 1)))) := Lib.hid (by
            rw [HFT.out, List.length_append, HBE.out, show u8s (outB L j ++ encs [n0, n1, n2, wn, n4, n6]) = u8s (outB L j) ++ u8s (encs [n0, n1, n2, wn, n4, n6]) from List.map_append ..]
            exact HO6.out)
          obtain ⟨ml, hml⟩ : ∃ y, bl + (encs [n0, n1, n2, wn, n4, n6]).length = y := ⟨_, rfl⟩
          rw [hml] at HO7 ⊢
          clear hml
          go_wp2_with fail
          go_roundw
          case rel => exact ⟨j + 1, by omega, by go_num, HO7.out, HB6.out⟩
          case measure => simp [intOf]; omega
      · obtain rfl : n = j := by omega
        have eF : outB L n = recsB L := by unfold outB recsB; rw [List.take_of_length_le (by rw [HLN.out]; omega)]
        have HF : Hid (BytMade w (recsB L) (.returned (.slice A5 n5 c5)) wr) := Lib.hid ⟨_, rfl, by rw [← eF]; exact HO.out, HB.out⟩
        clear eF ho hb
        go_wp2_with fail
        go_ret
        exact HF.out

end Go.Proofs.Ytmcphlklknfbmaa
