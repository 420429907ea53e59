/- ArenaPlays returns true for every input and changes nothing: for every sequence of calls the results and the references are the documented ones. No condition. -/
import Derived.Test.YtboelofkbhgmfaaArk12
import Derived.Test.YtboelofkbhgmfaaArgR
import Derived.Test.YtboelofkbhgmfaaArgI
import Derived.Test.YtboelofkbhgmfaaPlc
import Derived.Test.YtboelofkbhgmfaaLaw
import Derived.IntWalk
import Derived.Deep.QuietTactic
import Derived.BigQuiet
import Derived.Deep.CutRange
import Derived.Deep.DeepCutAuto
namespace Go.Proofs.Ytboelofkbhgmfaa.arenaPlays
set_option maxRecDepth 100000
open Go.RowKit Go.ChangeShapes Go.WideShapes Go.ChangeAt

def actK : List IntKind := [.u8, .u8, .u8, .u8, .i32, .i32]
/-- An act's cells. -/
theorem act_at {w : World} {B : Nat} {A : Option Addr} {c : Nat} {L : List (List Int)} (h : RowsV actK w B (.slice A L.length c) L) {k : Nat} (hk : k < L.length) :
    ∃ (b off : Nat) (x0 x1 x2 x3 x4 x5 : Int), A = some ⟨b, off, none⟩ ∧ b < B ∧ ((0 ≤ x0 ∧ x0 ≤ 255) ∧ (0 ≤ x1 ∧ x1 ≤ 255) ∧ (0 ≤ x2 ∧ x2 ≤ 255) ∧ (0 ≤ x3 ∧ x3 ≤ 255) ∧ (-2147483648 ≤ x4 ∧ x4 ≤ 2147483647) ∧ (-2147483648 ≤ x5 ∧ x5 ≤ 2147483647)) ∧
      w.cell? ⟨b, off + k * 6, none⟩ = some (.int .u8 x0) ∧ w.cell? ⟨b, off + k * 6 + 1, none⟩ = some (.int .u8 x1) ∧ w.cell? ⟨b, off + k * 6 + 2, none⟩ = some (.int .u8 x2) ∧ w.cell? ⟨b, off + k * 6 + 3, none⟩ = some (.int .u8 x3) ∧ w.cell? ⟨b, off + k * 6 + 4, none⟩ = some (.int .i32 x4) ∧ w.cell? ⟨b, off + k * 6 + 5, none⟩ = some (.int .i32 x5) := by
  obtain ⟨b, off, c', e, hb, ⟨hl, hbd⟩, hc⟩ := h.cells (by decide) hk
  injection e with e1 _ _
  generalize L[k] = r at *
  match r, hl with
  | [x0, x1, x2, x3, x4, x5], _ =>
    refine ⟨b, off, x0, x1, x2, x3, x4, x5, e1, hb, ⟨hbd 0 _ _ rfl rfl, hbd 1 _ _ rfl rfl, hbd 2 _ _ rfl rfl, hbd 3 _ _ rfl rfl, hbd 4 _ _ rfl rfl, hbd 5 _ _ rfl rfl⟩, hc 0 _ _ rfl rfl, hc 1 _ _ rfl rfl, hc 2 _ _ rfl rfl, hc 3 _ _ rfl rfl, hc 4 _ _ rfl rfl, hc 5 _ _ rfl rfl⟩
def pq (x : Int) : Int := place x 6 - 1
theorem ark_start {w w2 w3 w4 : World} {a g : Nat} {qs : List Int} {Ls : List (List RefX)} (hb : Below w.heap.size w w2) (hA : ArV w3 (fun b => w2.heap.size ≤ b ∧ b < w3.heap.size) a qs Ls) (hb3 : Below w2.heap.size w2 w3)
    (hR : RfRV w4 (fun b => w3.heap.size ≤ b ∧ b < w4.heap.size) g qs Ls) (hb4 : Below w3.heap.size w3 w4) : ArK w w4 a g qs Ls Ls [] := by
  have s1 := hb.size
  have s2 := hb3.size
  refine ⟨⟨fun b => w2.heap.size ≤ b ∧ b < w3.heap.size, fun b => w3.heap.size ≤ b ∧ b < w4.heap.size, hA.below hb4, hR, ?_, ?_, ?_, fun p hp => by cases hp⟩, (hb.trans (hb3.mono s1)).trans (hb4.mono (Nat.le_trans s1 s2))⟩
  · intro i h1 h2
    have h3 := h1.2
    have h4 := h2.1
    omega
  · intro i h1
    have h3 := h1.1
    omega
  · intro i h1
    have h3 := h1.1
    omega

set_option maxRecDepth 100000 in
set_option maxHeartbeats 40000000 in
theorem walk (v0 : Value) (l0 : List Int) (v1 : Value) (l1 : List (List Int)) (w : World) (h0 : IntsV w w.heap.size v0 l0) (m0 : l0.length ≤ maxLen) (x0 : ∀ x ∈ l0, -9223372036854775808 ≤ x ∧ x ≤ 9223372036854775807) (h1 : RowsV actK w w.heap.size v1 l1) (m1 : l1.length ≤ maxLen) :
    Calls Try.prog 3 #[v0, v1] w fun e w' => e = .returned (.bool true) ∧ Below w.heap.size w w' := by
  obtain ⟨A0, c0, rfl, hL0⟩ := h0
  obtain ⟨A1, c1, rfl, hc1, hL1, hr1⟩ := h1
  have HL0 := Lib.hid hL0
  have HA1 := Lib.hid (show RowsV actK w w.heap.size (.slice A1 l1.length c1) l1 from ⟨A1, c1, rfl, hc1, hL1, hr1⟩)
  have HX0 := Lib.hid x0
  obtain ⟨N0, hN0⟩ : ∃ N, l0.length = N := ⟨_, rfl⟩
  obtain ⟨N1, hN1⟩ : ∃ N, l1.length = N := ⟨_, rfl⟩
  have HN0 := Lib.hid hN0; have HN1 := Lib.hid hN1
  rw [hN0] at m0 ⊢
  rw [hN1] at m1 ⊢
  unfold maxLen at m0 m1
  clear hL0 hc1 hL1 hr1 x0 hN0 hN1
  by_cases h20 : 20 < N0
  · have z : decide ((20 : Int) < (N0 : Int)) = true := by simp; omega
    go_enter Try.func3, Try.ntmps3
    go_wp2_with fail
    refine (known12_any w).mono ?_
    rintro e w1 ⟨rfl, hb1⟩
    go_wp2_with fail
    go_ret
    exact ⟨rfl, hb1⟩
  have z : decide ((20 : Int) < (N0 : Int)) = false := by simp; omega
  by_cases h60 : 60 < N1
  · have z' : decide ((60 : Int) < (N1 : Int)) = true := by simp; omega
    go_enter Try.func3, Try.ntmps3
    go_wp2_with fail
    refine (known12_any w).mono ?_
    rintro e w1 ⟨rfl, hb1⟩
    go_wp2_with fail
    go_ret
    exact ⟨rfl, hb1⟩
  have z' : decide ((60 : Int) < (N1 : Int)) = false := by simp; omega
  have hN20 : N0 ≤ 20 := by omega
  have hN60 : N1 ≤ 60 := by omega
  clear h20 h60
  go_enter Try.func3, Try.ntmps3
  go_wp2_with fail
  refine (known12_any w).mono ?_
  rintro e w1 ⟨rfl, hb1⟩
  have B1 := Lib.hid hb1; clear hb1
  go_wp2_with fail
  clear z z'
  go_loopw [5, 6] (fun v i wr => ∃ k : Nat, k ≤ N0 ∧ i = .int .i64 k ∧ OwnI64 wr w.heap.size v ((l0.take k).map pq) ∧ Below w.heap.size w wr) (fun _ i _ => N0 - (intOf i).toNat)
  case atStart => exact ⟨0, Nat.zero_le _, rfl, OwnI64.nil _ _, B1.out⟩
  case round =>
    obtain ⟨k, hk, rfl, ho, hb⟩ := hrel
    have HO := Lib.hid ho; have HB := Lib.hid hb
    have hlen : ((l0.take k).map pq).length = k := by rw [List.length_map, List.length_take, HN0.out]; omega
    obtain ⟨Av, cv, hv⟩ := ho.shapeN
    rw [hlen] at hv
    subst hv
    have HLEN := Lib.hid hlen
    unfold OwnI64 at ho
    rw [hlen] at ho
    have HO2 := Lib.hid ho
    have hsz := hb.size
    clear ho hb hlen
    by_cases hkn : k < N0
    · have hkl : k < l0.length := by rw [HN0.out]; exact hkn
      obtain ⟨b, off, rfl, hb, d0⟩ := lie_int HL0.out hkl
      have d1 : wr.cell? ⟨b, off + k, none⟩ = some (.int .i64 l0[k]) := by rw [HB.out.cell (p := ⟨b, off + k, none⟩) hb, d0]
      have HTK := Lib.hid (List.take_succ_eq_append_getElem hkl)
      have hx := HX0.out l0[k] (List.getElem_mem hkl)
      clear d0
      generalize l0[k] = y at *
      have HPL := Lib.hid (place_any wr y 6 hx (by omega) (by omega))
      have hp6 := place_in (k := y) (n := 6) (by omega)
      obtain ⟨z, hz⟩ : ∃ z, place y 6 = z := ⟨_, rfl⟩
      have HZ : Hid (pq y = z - 1) := Lib.hid (by unfold pq; rw [hz])
      rw [hz] at HPL hp6
      have i1 : (0 : Int) ≤ (k : Int) ∧ (k : Int) < N0 := by omega
      clear hz hkl
      go_wp2_with fail
      refine HPL.out.mono ?_
      rintro e _ ⟨rfl, rfl⟩
      go_wp2_with (at_builtin; go_must (refine wpList_append_new 22 3 (.int .i64 0) 1 8 Try.underlying22 inf_int rfl (by decide) (by decide) rfl (.tmp 42) (.tmp 49) rfl w.heap.size _ _ _ _ [.int .i64 (z - 1)] rfl rfl HO2.out rfl rfl ?c1 ?c2 ?c3 ?_))
      case c1 => intro u hu; obtain rfl : u = .int .i64 (z - 1) := by simpa using hu
                 rfl
      case c2 => omega
      case c3 => exact hsz
      intro v3 w3 ho3 hg3 _
      rw [← List.map_take] at ho3
      have O3 : Hid (OwnI64 w3 w.heap.size v3 ((l0.take (k + 1)).map pq)) := Lib.hid (OwnI64.snoc (x := z - 1) (l := (l0.take k).map pq) (by rw [HLEN.out]) ho3 (by rw [HTK.out, List.map_append, List.map_cons, List.map_nil, HZ.out]))
      have B3 : Hid (Below w.heap.size w w3) := Lib.hid (HB.out.grown hg3 HB.out.size (fun j hj => (HO2.out.lt _ hj).1))
      clear ho3 hg3
      go_wp2_with fail
      go_roundw
      case rel => exact ⟨k + 1, by omega, by go_num, O3.out, B3.out⟩
      case measure => simp [intOf]; omega
    · obtain rfl : k = N0 := by omega
      obtain ⟨lq, hlq⟩ : ∃ lq, (l0.take k).map pq = lq := ⟨_, rfl⟩
      rw [hlq] at HO HLEN
      have hnv := HO.out.num
      have HNV : Hid (NumV wr wr.heap.size (.slice Av k cv) lq) := Lib.hid hnv
      have HAN := Lib.hid (arNew_any (.slice Av k cv) lq wr HNV.out (by rw [HLEN.out]; omega))
      clear hlq HO2 hnv hkn
      obtain ⟨w2, rfl⟩ : ∃ w2 : World, w2 = wr := ⟨_, rfl⟩
      go_wp2_with fail
      with_reducible refine HAN.out.mono ?_
      rintro e w3 ⟨a, rfl, hA, hb3⟩
      have A3 := Lib.hid hA
      have B3 := Lib.hid hb3
      have HRN := Lib.hid (rNewR_any (.slice Av k cv) lq w3 (HNV.out.later hb3) (by rw [HLEN.out]; omega))
      clear hA hb3 HAN
      go_wp2_with fail
      with_reducible refine HRN.out.mono ?_
      rintro e w4 ⟨g, rfl, hR, hb4⟩
      have K4 := Lib.hid (ark_start HB.out A3.out B3.out hR hb4)
      clear hR hb4 HRN A3 B3
      obtain ⟨qs, hqs⟩ : ∃ qs, quotasZ lq = qs := ⟨_, rfl⟩
      obtain ⟨Ls0, hLs0⟩ : ∃ Ls : List (List RefX), List.replicate (min lq.length 16) [] = Ls := ⟨_, rfl⟩
      rw [hqs, hLs0] at K4
      clear hqs hLs0
      go_wp2_with fail
      go_loopw [9] (fun i wr => ∃ (j : Nat) (Ls : List (List RefX)), j ≤ N1 ∧ i = .int .i64 j ∧ ArK w wr a g qs Ls Ls []) (fun i _ => N1 - (intOf i).toNat)
      case atStart => exact ⟨0, Ls0, Nat.zero_le _, rfl, K4.out⟩
      case round =>
        clear K4
        obtain ⟨j, Ls, hj, rfl, hK⟩ := hrel
        by_cases hjn : j < N1
        · have hjl : j < l1.length := by rw [HN1.out]; exact hjn
          obtain ⟨b, off, x0, x1, x2, x3, x4, x5, eA, hb, ⟨b0, b1, b2, b3, b4, b5⟩, t0, t1, t2, t3, t4, t5⟩ := act_at HA1.out hjl
          subst eA
          have d0 : wr.cell? ⟨b, off + j * 6, none⟩ = some (.int .u8 x0) := (hK.bl.cell (p := ⟨b, off + j * 6, none⟩) hb).trans t0
          have d1 : wr.cell? ⟨b, off + j * 6 + 1, none⟩ = some (.int .u8 x1) := (hK.bl.cell (p := ⟨b, off + j * 6 + 1, none⟩) hb).trans t1
          have d2 : wr.cell? ⟨b, off + j * 6 + 2, none⟩ = some (.int .u8 x2) := (hK.bl.cell (p := ⟨b, off + j * 6 + 2, none⟩) hb).trans t2
          have d3 : wr.cell? ⟨b, off + j * 6 + 3, none⟩ = some (.int .u8 x3) := (hK.bl.cell (p := ⟨b, off + j * 6 + 3, none⟩) hb).trans t3
          have d4 : wr.cell? ⟨b, off + j * 6 + 4, none⟩ = some (.int .i32 x4) := (hK.bl.cell (p := ⟨b, off + j * 6 + 4, none⟩) hb).trans t4
          have d5 : wr.cell? ⟨b, off + j * 6 + 5, none⟩ = some (.int .i32 x5) := (hK.bl.cell (p := ⟨b, off + j * 6 + 5, none⟩) hb).trans t5
          have i1 : (0 : Int) ≤ (j : Int) ∧ (j : Int) < N1 := by omega
          obtain ⟨w5, hw5⟩ : ∃ x, x = wr.alloc (.cells #[.int .u8 x0, .int .u8 x1, .int .u8 x2, .int .u8 x3, .int .i32 x4, .int .i32 x5] 31) := ⟨_, rfl⟩
          have HX : Hid (∀ i : Nat, 0 ≤ i → ∀ wq La Lr, ArK w wq a g qs La Lr [(wr.heap.size, .cells #[.int .u8 x0, .int .u8 x1, .int .u8 x2, .int .u8 x3, .int .i32 x4, .int .i32 x5] 31)] → wq.heap[wr.heap.size]? = some (.cells #[.int .u8 x0, .int .u8 x1, .int .u8 x2, .int .u8 x3, .int .i32 x4, .int .i32 x5] 31 (0, 0))) := Lib.hid fun _ _ wq La Lr h => h.box (List.mem_singleton.2 rfl)
          obtain ⟨X, hX⟩ : ∃ X : List (Nat × Obj), X = [(wr.heap.size, .cells #[.int .u8 x0, .int .u8 x1, .int .u8 x2, .int .u8 x3, .int .i32 x4, .int .i32 x5] 31)] := ⟨_, rfl⟩
          rw [← hX] at HX
          have K5 : Hid (ArK w w5 a g qs Ls Ls X) := Lib.hid (by rw [hw5, hX]; exact hK.add _)
          have hbx := HX.out 0 (Nat.le_refl _) w5 Ls Ls K5.out
          have y0 : w5.cell? ⟨wr.heap.size, 0, none⟩ = some (.int .u8 x0) := cell_blk hbx 0
          have y1 : w5.cell? ⟨wr.heap.size, 1, none⟩ = some (.int .u8 x1) := cell_blk hbx 1
          have y2 : w5.cell? ⟨wr.heap.size, 2, none⟩ = some (.int .u8 x2) := cell_blk hbx 2
          have y3 : w5.cell? ⟨wr.heap.size, 3, none⟩ = some (.int .u8 x3) := cell_blk hbx 3
          have y4 : w5.cell? ⟨wr.heap.size, 4, none⟩ = some (.int .i32 x4) := cell_blk hbx 4
          have y5 : w5.cell? ⟨wr.heap.size, 5, none⟩ = some (.int .i32 x5) := cell_blk hbx 5
          have HW5 := Lib.hid hw5
          obtain ⟨by', hby⟩ : ∃ y, x1 % 18 - 1 = y := ⟨_, rfl⟩
          obtain ⟨lb, hlb⟩ : ∃ y, x2 % 16 = y := ⟨_, rfl⟩
          have hbyb : -9223372036854775808 ≤ by' ∧ by' ≤ 9223372036854775807 := by omega
          have hby2 : -1 ≤ by' ∧ by' ≤ 17 := by omega
          obtain ⟨m18, hm18⟩ : ∃ y, x1 % 18 = y := ⟨_, rfl⟩
          have HE1 : Hid (x1.tmod 18 = m18) := Lib.hid (by rw [Int.tmod_eq_emod_of_nonneg b1.1]; exact hm18)
          have HE2 : Hid (IntKind.i64.wrap (m18 - 1) = by') := Lib.hid (by rw [IntWalk.i64_in _ (by omega)]; omega)
          have HE3 : Hid (x2.tmod 16 = lb) := Lib.hid (by rw [Int.tmod_eq_emod_of_nonneg b2.1]; exact hlb)
          have HE4 : Hid (IntKind.i64.wrap m18 = m18) := Lib.hid (IntWalk.i64_in _ (by omega))
          have HE5 : Hid (IntKind.i64.wrap lb = lb) := Lib.hid (IntWalk.i64_in _ (by omega))
          obtain ⟨idn, hidn⟩ : ∃ y, x1 % 4 * 65536 + x3 % 5 = y := ⟨_, rfl⟩
          have HIDN := Lib.hid hidn
          have hidb : -2147483648 ≤ idn ∧ idn ≤ 2147483647 := by omega
          have HMM : Hid (x0 % 5 = 0 ∨ x0 % 5 = 1 ∨ x0 % 5 = 2 ∨ x0 % 5 = 3 ∨ x0 % 5 = 4) := Lib.hid (by omega)
          have HKD := Lib.hid (fun n => K5.out.below (below_drewN (Below.refl _ _) n))
          clear hK hjl hb t0 t1 t2 t3 t4 t5 hw5 hX hbx hby hlb hm18 hidn
          go_upto_region 15 with (fail)
          rw [← HW5.out]
          have e1 := HE1.out
          have e2 := HE2.out
          have e3 := HE3.out
          have e4 := HE4.out
          have e5 := HE5.out
          go_quiet (fail)
          clear e1 e2 e3 e4 e5 d0 d1 d2 d3 d4 d5
          generalize hw6 : World.drewN w5 _ = w6
          have K6 : Hid (ArK w w6 a g qs Ls Ls X) := Lib.hid (by rw [← hw6]; exact HKD.out _)
          clear hw6 y0 y1 y2 y3 y4 y5 HKD
          have hbx := HX.out 0 (Nat.le_refl _) w6 Ls Ls K6.out
          have y0 : w6.cell? ⟨wr.heap.size, 0, none⟩ = some (.int .u8 x0) := cell_blk hbx 0
          have y1 : w6.cell? ⟨wr.heap.size, 1, none⟩ = some (.int .u8 x1) := cell_blk hbx 1
          have y3 : w6.cell? ⟨wr.heap.size, 3, none⟩ = some (.int .u8 x3) := cell_blk hbx 3
          have y4 : w6.cell? ⟨wr.heap.size, 4, none⟩ = some (.int .i32 x4) := cell_blk hbx 4
          have y5 : w6.cell? ⟨wr.heap.size, 5, none⟩ = some (.int .i32 x5) := cell_blk hbx 5
          have HBX := Lib.hid hbx
          clear hbx
          by_cases h230 : 230 < x3
          · have z230 : decide ((230 : Int) < x3) = true := by simpa using h230
            go_upto_region 19 with (fail)
            rcases HMM.out with em | em | em | em | em
            · have HM1 := Lib.hid (akMake K6.out by' lb x4 hbyb)
              have HM2 := Lib.hid (fun wq (h : ArK w wq a g qs (mkL qs Ls by' ⟨lb, x4⟩) Ls X) => akMakeR h by' lb x4 hbyb)
              obtain ⟨im, him⟩ : ∃ y, mkId qs Ls by' = y := ⟨_, rfl⟩
              obtain ⟨bm, hbm⟩ : ∃ y, mkB qs Ls by' = y := ⟨_, rfl⟩
              rw [him, hbm] at HM1 HM2
              have r1 : (im != im) = false := bne_self_eq_false _
              have r2 : (bm != bm) = false := bne_self_eq_false _
              clear him hbm
              go_wp2_with fail
              refine HM1.out.mono ?_
              rintro e w7 ⟨rfl, h7⟩
              have hbx := HX.out 0 (Nat.le_refl _) w7 _ _ h7
              have q4 : w7.cell? ⟨wr.heap.size, 4, none⟩ = some (.int .i32 x4) := cell_blk hbx 4
              have HM3 := Lib.hid (HM2.out w7 h7)
              clear h7 hbx
              go_wp2_with fail
              refine HM3.out.mono ?_
              rintro e w8 ⟨rfl, h8⟩
              have K8 := Lib.hid h8
              clear h8
              have HC1 := Lib.hid (fun w' (hb : Below w8.heap.size w8 w') => akCount (K8.out.below hb) by')
              have HC2 := Lib.hid (fun w' (hb : Below w8.heap.size w8 w') => akCountR (K8.out.below hb) by')
              have HC3 := Lib.hid (fun w' (hb : Below w8.heap.size w8 w') => akCount (K8.out.below hb) (-1))
              rw [cntZ_lo (by omega : (-1 : Int) < 0)] at HC3
              obtain ⟨cc, hcc⟩ : ∃ c : Nat, cntZ (mkL qs Ls by' ⟨lb, x4⟩) by' = c := ⟨_, rfl⟩
              rw [hcc] at HC1 HC2
              have r3 : ((cc : Int) != (cc : Int)) = false := bne_self_eq_false _
              clear hcc
              go_wp2_with fail
              refine (HC1.out _ (Below.refl _ _)).mono ?_
              rintro e _ ⟨rfl, rfl⟩
              go_wp2_with fail
              refine (HC2.out _ (Below.refl _ _)).mono ?_
              rintro e _ ⟨rfl, rfl⟩
              go_wp2_with fail
              refine (HC3.out _ (Below.refl _ _)).mono ?_
              rintro e _ ⟨rfl, rfl⟩
              go_wp2_with fail
              go_roundw
              case rel => exact ⟨j + 1, _, by omega, by go_num, (K8.out).sub⟩
              case measure => simp [intOf]; omega
            · have HM1 := Lib.hid (akMake K6.out by' lb x4 hbyb)
              have HM2 := Lib.hid (fun wq (h : ArK w wq a g qs (mkL qs Ls by' ⟨lb, x4⟩) Ls X) => akMakeR h by' lb x4 hbyb)
              obtain ⟨im, him⟩ : ∃ y, mkId qs Ls by' = y := ⟨_, rfl⟩
              obtain ⟨bm, hbm⟩ : ∃ y, mkB qs Ls by' = y := ⟨_, rfl⟩
              rw [him, hbm] at HM1 HM2
              have r1 : (im != im) = false := bne_self_eq_false _
              have r2 : (bm != bm) = false := bne_self_eq_false _
              clear him hbm
              go_wp2_with fail
              refine HM1.out.mono ?_
              rintro e w7 ⟨rfl, h7⟩
              have hbx := HX.out 0 (Nat.le_refl _) w7 _ _ h7
              have q4 : w7.cell? ⟨wr.heap.size, 4, none⟩ = some (.int .i32 x4) := cell_blk hbx 4
              have HM3 := Lib.hid (HM2.out w7 h7)
              clear h7 hbx
              go_wp2_with fail
              refine HM3.out.mono ?_
              rintro e w8 ⟨rfl, h8⟩
              have K8 := Lib.hid h8
              clear h8
              have HC1 := Lib.hid (fun w' (hb : Below w8.heap.size w8 w') => akCount (K8.out.below hb) by')
              have HC2 := Lib.hid (fun w' (hb : Below w8.heap.size w8 w') => akCountR (K8.out.below hb) by')
              have HC3 := Lib.hid (fun w' (hb : Below w8.heap.size w8 w') => akCount (K8.out.below hb) (-1))
              rw [cntZ_lo (by omega : (-1 : Int) < 0)] at HC3
              obtain ⟨cc, hcc⟩ : ∃ c : Nat, cntZ (mkL qs Ls by' ⟨lb, x4⟩) by' = c := ⟨_, rfl⟩
              rw [hcc] at HC1 HC2
              have r3 : ((cc : Int) != (cc : Int)) = false := bne_self_eq_false _
              clear hcc
              go_wp2_with fail
              refine (HC1.out _ (Below.refl _ _)).mono ?_
              rintro e _ ⟨rfl, rfl⟩
              go_wp2_with fail
              refine (HC2.out _ (Below.refl _ _)).mono ?_
              rintro e _ ⟨rfl, rfl⟩
              go_wp2_with fail
              refine (HC3.out _ (Below.refl _ _)).mono ?_
              rintro e _ ⟨rfl, rfl⟩
              go_wp2_with fail
              go_roundw
              case rel => exact ⟨j + 1, _, by omega, by go_num, (K8.out).sub⟩
              case measure => simp [intOf]; omega
            · have HM1 := Lib.hid (akMake K6.out by' lb x4 hbyb)
              have HM2 := Lib.hid (fun wq (h : ArK w wq a g qs (mkL qs Ls by' ⟨lb, x4⟩) Ls X) => akMakeR h by' lb x4 hbyb)
              obtain ⟨im, him⟩ : ∃ y, mkId qs Ls by' = y := ⟨_, rfl⟩
              obtain ⟨bm, hbm⟩ : ∃ y, mkB qs Ls by' = y := ⟨_, rfl⟩
              rw [him, hbm] at HM1 HM2
              have r1 : (im != im) = false := bne_self_eq_false _
              have r2 : (bm != bm) = false := bne_self_eq_false _
              clear him hbm
              go_wp2_with fail
              refine HM1.out.mono ?_
              rintro e w7 ⟨rfl, h7⟩
              have hbx := HX.out 0 (Nat.le_refl _) w7 _ _ h7
              have q4 : w7.cell? ⟨wr.heap.size, 4, none⟩ = some (.int .i32 x4) := cell_blk hbx 4
              have HM3 := Lib.hid (HM2.out w7 h7)
              clear h7 hbx
              go_wp2_with fail
              refine HM3.out.mono ?_
              rintro e w8 ⟨rfl, h8⟩
              have K8 := Lib.hid h8
              clear h8
              have HC1 := Lib.hid (fun w' (hb : Below w8.heap.size w8 w') => akCount (K8.out.below hb) by')
              have HC2 := Lib.hid (fun w' (hb : Below w8.heap.size w8 w') => akCountR (K8.out.below hb) by')
              have HC3 := Lib.hid (fun w' (hb : Below w8.heap.size w8 w') => akCount (K8.out.below hb) (-1))
              rw [cntZ_lo (by omega : (-1 : Int) < 0)] at HC3
              obtain ⟨cc, hcc⟩ : ∃ c : Nat, cntZ (mkL qs Ls by' ⟨lb, x4⟩) by' = c := ⟨_, rfl⟩
              rw [hcc] at HC1 HC2
              have r3 : ((cc : Int) != (cc : Int)) = false := bne_self_eq_false _
              clear hcc
              go_wp2_with fail
              refine (HC1.out _ (Below.refl _ _)).mono ?_
              rintro e _ ⟨rfl, rfl⟩
              go_wp2_with fail
              refine (HC2.out _ (Below.refl _ _)).mono ?_
              rintro e _ ⟨rfl, rfl⟩
              go_wp2_with fail
              refine (HC3.out _ (Below.refl _ _)).mono ?_
              rintro e _ ⟨rfl, rfl⟩
              go_wp2_with fail
              go_roundw
              case rel => exact ⟨j + 1, _, by omega, by go_num, (K8.out).sub⟩
              case measure => simp [intOf]; omega
            · have HG1 := Lib.hid (akGet K6.out x5 (by omega))
              have HG2 := Lib.hid (fun wq X' (h : ArK w wq a g qs Ls Ls X') => akGetR h x5 (by omega))
              unfold AkG at HG1 HG2
              obtain ⟨xg, hxg⟩ : ∃ y, itmZ Ls x5 zR = y := ⟨_, rfl⟩
              obtain ⟨bg, hbg⟩ : ∃ y, isIn Ls x5 = y := ⟨_, rfl⟩
              rw [hxg, hbg] at HG1 HG2
              unfold refA at HG1 HG2
              have r1 : (xg.lb == xg.lb) = true := beq_self_eq_true _
              have r1' : (xg.v == xg.v) = true := beq_self_eq_true _
              have r2 : (bg != bg) = false := bne_self_eq_false _
              clear hxg hbg
              go_wp2_with fail
              refine HG1.out.mono ?_
              rintro e w7 ⟨rfl, h7⟩
              have K7 := Lib.hid (h7.add (.cells #[.int .i64 xg.lb, .int .i32 xg.v] 35))
              have HG3 := Lib.hid (HG2.out _ _ K7.out)
              clear h7
              go_wp2_with fail
              refine HG3.out.mono ?_
              rintro e w8 ⟨rfl, h8⟩
              have K8 := Lib.hid h8
              have hbx := h8.box List.mem_cons_self
              have q0 : w8.cell? ⟨w7.heap.size, 0, none⟩ = some (.int .i64 xg.lb) := cell_blk hbx 0
              have q1 : w8.cell? ⟨w7.heap.size, 1, none⟩ = some (.int .i32 xg.v) := cell_blk hbx 1
              have q2 : w7.heap.size < w8.heap.size := (Array.getElem?_eq_some_iff.1 hbx).1
              clear h8 hbx
              have HC1 := Lib.hid (fun w' (hb : Below w8.heap.size w8 w') => akCount (K8.out.below hb) by')
              have HC2 := Lib.hid (fun w' (hb : Below w8.heap.size w8 w') => akCountR (K8.out.below hb) by')
              have HC3 := Lib.hid (fun w' (hb : Below w8.heap.size w8 w') => akCount (K8.out.below hb) (-1))
              rw [cntZ_lo (by omega : (-1 : Int) < 0)] at HC3
              obtain ⟨cc, hcc⟩ : ∃ c : Nat, cntZ Ls by' = c := ⟨_, rfl⟩
              rw [hcc] at HC1 HC2
              have r3 : ((cc : Int) != (cc : Int)) = false := bne_self_eq_false _
              clear hcc
              go_wp2_with fail
              refine (HC1.out _ (below_alloc _ _)).mono ?_
              rintro e _ ⟨rfl, rfl⟩
              go_wp2_with fail
              refine (HC2.out _ (below_alloc _ _)).mono ?_
              rintro e _ ⟨rfl, rfl⟩
              go_wp2_with fail
              refine (HC3.out _ (below_alloc _ _)).mono ?_
              rintro e _ ⟨rfl, rfl⟩
              go_wp2_with fail
              go_roundw
              case rel => exact ⟨j + 1, _, by omega, by go_num, (K8.out.below (below_alloc _ _)).sub⟩
              case measure => simp [intOf]; omega
            · have HS1 := Lib.hid (fun wq Lr (h : ArK w wq a g qs Ls Lr X) => akSet h x5 x4 (by omega))
              have HS2 := Lib.hid (fun wq La (h : ArK w wq a g qs La Ls X) => akSetR h x5 x4 (by omega))
              obtain ⟨Lx, hLx⟩ : ∃ y, (setZ Ls x5 fun x => { x with v := x4 }) = y := ⟨_, rfl⟩
              obtain ⟨bs, hbs⟩ : ∃ y, isIn Ls x5 = y := ⟨_, rfl⟩
              rw [hLx, hbs] at HS1 HS2
              have r1 : (bs != bs) = false := bne_self_eq_false _
              have KD6 : Hid (ArK w w6.drew a g qs Ls Ls X) := Lib.hid (K6.out.below ⟨rfl, rfl, rfl, Nat.le_refl _, fun _ _ => rfl⟩)
              clear hLx hbs
              go_wp2_with fail
              go_region_law
                (first
                  | (refine step_go rfl ?_; go_simp; (first | (with_reducible refine (HS1.out _ _ KR.out).mono ?_) | (with_reducible refine (HS1.out _ _ KD6.out).mono ?_)); rintro e wA ⟨rfl, hA⟩
                     have hbx := HX.out 0 (Nat.le_refl _) wA _ _ hA
                     have qA : wA.cell? ⟨wr.heap.size, 4, none⟩ = some (.int .i32 x4) := cell_blk hbx 4
                     first | (have KF : Hid (ArK w wA a g qs Lx Lx X) := Lib.hid hA) | (have KA : Hid (ArK w wA a g qs Lx Ls X) := Lib.hid hA)
                     clear hA hbx)
                  | (refine step_go rfl ?_; go_simp; (first | (with_reducible refine (HS2.out _ _ KA.out).mono ?_) | (with_reducible refine (HS2.out _ _ KD6.out).mono ?_)); rintro e wA ⟨rfl, hA⟩
                     have hbx := HX.out 0 (Nat.le_refl _) wA _ _ hA
                     have qA : wA.cell? ⟨wr.heap.size, 4, none⟩ = some (.int .i32 x4) := cell_blk hbx 4
                     first | (have KF : Hid (ArK w wA a g qs Lx Lx X) := Lib.hid hA) | (have KR : Hid (ArK w wA a g qs Ls Lx X) := Lib.hid hA)
                     clear hA hbx))
              all_goals
                have HC1 := Lib.hid (fun w' (hb : Below wA.heap.size wA w') => akCount (KF.out.below hb) by')
                have HC2 := Lib.hid (fun w' (hb : Below wA.heap.size wA w') => akCountR (KF.out.below hb) by')
                have HC3 := Lib.hid (fun w' (hb : Below wA.heap.size wA w') => akCount (KF.out.below hb) (-1))
                rw [cntZ_lo (by omega : (-1 : Int) < 0)] at HC3
                obtain ⟨cc, hcc⟩ : ∃ c : Nat, cntZ Lx by' = c := ⟨_, rfl⟩
                rw [hcc] at HC1 HC2
                have r3 : ((cc : Int) != (cc : Int)) = false := bne_self_eq_false _
                clear hcc
                go_wp2_with fail
                refine (HC1.out _ (Below.refl _ _)).mono ?_
                rintro e _ ⟨rfl, rfl⟩
                go_wp2_with fail
                refine (HC2.out _ (Below.refl _ _)).mono ?_
                rintro e _ ⟨rfl, rfl⟩
                go_wp2_with fail
                refine (HC3.out _ (Below.refl _ _)).mono ?_
                rintro e _ ⟨rfl, rfl⟩
                go_wp2_with fail
                go_roundw
                case rel => exact ⟨j + 1, _, by omega, by go_num, (KF.out).sub⟩
                case measure => simp [intOf]; omega
          · have z230 : decide ((230 : Int) < x3) = false := by simpa using h230
            have ei := HIDN.out
            go_upto_region 19 with (fail)
            try rw [ei]
            clear ei
            rcases HMM.out with em | em | em | em | em
            · have HM1 := Lib.hid (akMake K6.out by' lb x4 hbyb)
              have HM2 := Lib.hid (fun wq (h : ArK w wq a g qs (mkL qs Ls by' ⟨lb, x4⟩) Ls X) => akMakeR h by' lb x4 hbyb)
              obtain ⟨im, him⟩ : ∃ y, mkId qs Ls by' = y := ⟨_, rfl⟩
              obtain ⟨bm, hbm⟩ : ∃ y, mkB qs Ls by' = y := ⟨_, rfl⟩
              rw [him, hbm] at HM1 HM2
              have r1 : (im != im) = false := bne_self_eq_false _
              have r2 : (bm != bm) = false := bne_self_eq_false _
              clear him hbm
              go_wp2_with fail
              refine HM1.out.mono ?_
              rintro e w7 ⟨rfl, h7⟩
              have hbx := HX.out 0 (Nat.le_refl _) w7 _ _ h7
              have q4 : w7.cell? ⟨wr.heap.size, 4, none⟩ = some (.int .i32 x4) := cell_blk hbx 4
              have HM3 := Lib.hid (HM2.out w7 h7)
              clear h7 hbx
              go_wp2_with fail
              refine HM3.out.mono ?_
              rintro e w8 ⟨rfl, h8⟩
              have K8 := Lib.hid h8
              clear h8
              have HC1 := Lib.hid (fun w' (hb : Below w8.heap.size w8 w') => akCount (K8.out.below hb) by')
              have HC2 := Lib.hid (fun w' (hb : Below w8.heap.size w8 w') => akCountR (K8.out.below hb) by')
              have HC3 := Lib.hid (fun w' (hb : Below w8.heap.size w8 w') => akCount (K8.out.below hb) (-1))
              rw [cntZ_lo (by omega : (-1 : Int) < 0)] at HC3
              obtain ⟨cc, hcc⟩ : ∃ c : Nat, cntZ (mkL qs Ls by' ⟨lb, x4⟩) by' = c := ⟨_, rfl⟩
              rw [hcc] at HC1 HC2
              have r3 : ((cc : Int) != (cc : Int)) = false := bne_self_eq_false _
              clear hcc
              go_wp2_with fail
              refine (HC1.out _ (Below.refl _ _)).mono ?_
              rintro e _ ⟨rfl, rfl⟩
              go_wp2_with fail
              refine (HC2.out _ (Below.refl _ _)).mono ?_
              rintro e _ ⟨rfl, rfl⟩
              go_wp2_with fail
              refine (HC3.out _ (Below.refl _ _)).mono ?_
              rintro e _ ⟨rfl, rfl⟩
              go_wp2_with fail
              go_roundw
              case rel => exact ⟨j + 1, _, by omega, by go_num, (K8.out).sub⟩
              case measure => simp [intOf]; omega
            · have HM1 := Lib.hid (akMake K6.out by' lb x4 hbyb)
              have HM2 := Lib.hid (fun wq (h : ArK w wq a g qs (mkL qs Ls by' ⟨lb, x4⟩) Ls X) => akMakeR h by' lb x4 hbyb)
              obtain ⟨im, him⟩ : ∃ y, mkId qs Ls by' = y := ⟨_, rfl⟩
              obtain ⟨bm, hbm⟩ : ∃ y, mkB qs Ls by' = y := ⟨_, rfl⟩
              rw [him, hbm] at HM1 HM2
              have r1 : (im != im) = false := bne_self_eq_false _
              have r2 : (bm != bm) = false := bne_self_eq_false _
              clear him hbm
              go_wp2_with fail
              refine HM1.out.mono ?_
              rintro e w7 ⟨rfl, h7⟩
              have hbx := HX.out 0 (Nat.le_refl _) w7 _ _ h7
              have q4 : w7.cell? ⟨wr.heap.size, 4, none⟩ = some (.int .i32 x4) := cell_blk hbx 4
              have HM3 := Lib.hid (HM2.out w7 h7)
              clear h7 hbx
              go_wp2_with fail
              refine HM3.out.mono ?_
              rintro e w8 ⟨rfl, h8⟩
              have K8 := Lib.hid h8
              clear h8
              have HC1 := Lib.hid (fun w' (hb : Below w8.heap.size w8 w') => akCount (K8.out.below hb) by')
              have HC2 := Lib.hid (fun w' (hb : Below w8.heap.size w8 w') => akCountR (K8.out.below hb) by')
              have HC3 := Lib.hid (fun w' (hb : Below w8.heap.size w8 w') => akCount (K8.out.below hb) (-1))
              rw [cntZ_lo (by omega : (-1 : Int) < 0)] at HC3
              obtain ⟨cc, hcc⟩ : ∃ c : Nat, cntZ (mkL qs Ls by' ⟨lb, x4⟩) by' = c := ⟨_, rfl⟩
              rw [hcc] at HC1 HC2
              have r3 : ((cc : Int) != (cc : Int)) = false := bne_self_eq_false _
              clear hcc
              go_wp2_with fail
              refine (HC1.out _ (Below.refl _ _)).mono ?_
              rintro e _ ⟨rfl, rfl⟩
              go_wp2_with fail
              refine (HC2.out _ (Below.refl _ _)).mono ?_
              rintro e _ ⟨rfl, rfl⟩
              go_wp2_with fail
              refine (HC3.out _ (Below.refl _ _)).mono ?_
              rintro e _ ⟨rfl, rfl⟩
              go_wp2_with fail
              go_roundw
              case rel => exact ⟨j + 1, _, by omega, by go_num, (K8.out).sub⟩
              case measure => simp [intOf]; omega
            · have HM1 := Lib.hid (akMake K6.out by' lb x4 hbyb)
              have HM2 := Lib.hid (fun wq (h : ArK w wq a g qs (mkL qs Ls by' ⟨lb, x4⟩) Ls X) => akMakeR h by' lb x4 hbyb)
              obtain ⟨im, him⟩ : ∃ y, mkId qs Ls by' = y := ⟨_, rfl⟩
              obtain ⟨bm, hbm⟩ : ∃ y, mkB qs Ls by' = y := ⟨_, rfl⟩
              rw [him, hbm] at HM1 HM2
              have r1 : (im != im) = false := bne_self_eq_false _
              have r2 : (bm != bm) = false := bne_self_eq_false _
              clear him hbm
              go_wp2_with fail
              refine HM1.out.mono ?_
              rintro e w7 ⟨rfl, h7⟩
              have hbx := HX.out 0 (Nat.le_refl _) w7 _ _ h7
              have q4 : w7.cell? ⟨wr.heap.size, 4, none⟩ = some (.int .i32 x4) := cell_blk hbx 4
              have HM3 := Lib.hid (HM2.out w7 h7)
              clear h7 hbx
              go_wp2_with fail
              refine HM3.out.mono ?_
              rintro e w8 ⟨rfl, h8⟩
              have K8 := Lib.hid h8
              clear h8
              have HC1 := Lib.hid (fun w' (hb : Below w8.heap.size w8 w') => akCount (K8.out.below hb) by')
              have HC2 := Lib.hid (fun w' (hb : Below w8.heap.size w8 w') => akCountR (K8.out.below hb) by')
              have HC3 := Lib.hid (fun w' (hb : Below w8.heap.size w8 w') => akCount (K8.out.below hb) (-1))
              rw [cntZ_lo (by omega : (-1 : Int) < 0)] at HC3
              obtain ⟨cc, hcc⟩ : ∃ c : Nat, cntZ (mkL qs Ls by' ⟨lb, x4⟩) by' = c := ⟨_, rfl⟩
              rw [hcc] at HC1 HC2
              have r3 : ((cc : Int) != (cc : Int)) = false := bne_self_eq_false _
              clear hcc
              go_wp2_with fail
              refine (HC1.out _ (Below.refl _ _)).mono ?_
              rintro e _ ⟨rfl, rfl⟩
              go_wp2_with fail
              refine (HC2.out _ (Below.refl _ _)).mono ?_
              rintro e _ ⟨rfl, rfl⟩
              go_wp2_with fail
              refine (HC3.out _ (Below.refl _ _)).mono ?_
              rintro e _ ⟨rfl, rfl⟩
              go_wp2_with fail
              go_roundw
              case rel => exact ⟨j + 1, _, by omega, by go_num, (K8.out).sub⟩
              case measure => simp [intOf]; omega
            · have HG1 := Lib.hid (akGet K6.out idn (by omega))
              have HG2 := Lib.hid (fun wq X' (h : ArK w wq a g qs Ls Ls X') => akGetR h idn (by omega))
              unfold AkG at HG1 HG2
              obtain ⟨xg, hxg⟩ : ∃ y, itmZ Ls idn zR = y := ⟨_, rfl⟩
              obtain ⟨bg, hbg⟩ : ∃ y, isIn Ls idn = y := ⟨_, rfl⟩
              rw [hxg, hbg] at HG1 HG2
              unfold refA at HG1 HG2
              have r1 : (xg.lb == xg.lb) = true := beq_self_eq_true _
              have r1' : (xg.v == xg.v) = true := beq_self_eq_true _
              have r2 : (bg != bg) = false := bne_self_eq_false _
              clear hxg hbg
              go_wp2_with fail
              refine HG1.out.mono ?_
              rintro e w7 ⟨rfl, h7⟩
              have K7 := Lib.hid (h7.add (.cells #[.int .i64 xg.lb, .int .i32 xg.v] 35))
              have HG3 := Lib.hid (HG2.out _ _ K7.out)
              clear h7
              go_wp2_with fail
              refine HG3.out.mono ?_
              rintro e w8 ⟨rfl, h8⟩
              have K8 := Lib.hid h8
              have hbx := h8.box List.mem_cons_self
              have q0 : w8.cell? ⟨w7.heap.size, 0, none⟩ = some (.int .i64 xg.lb) := cell_blk hbx 0
              have q1 : w8.cell? ⟨w7.heap.size, 1, none⟩ = some (.int .i32 xg.v) := cell_blk hbx 1
              have q2 : w7.heap.size < w8.heap.size := (Array.getElem?_eq_some_iff.1 hbx).1
              clear h8 hbx
              have HC1 := Lib.hid (fun w' (hb : Below w8.heap.size w8 w') => akCount (K8.out.below hb) by')
              have HC2 := Lib.hid (fun w' (hb : Below w8.heap.size w8 w') => akCountR (K8.out.below hb) by')
              have HC3 := Lib.hid (fun w' (hb : Below w8.heap.size w8 w') => akCount (K8.out.below hb) (-1))
              rw [cntZ_lo (by omega : (-1 : Int) < 0)] at HC3
              obtain ⟨cc, hcc⟩ : ∃ c : Nat, cntZ Ls by' = c := ⟨_, rfl⟩
              rw [hcc] at HC1 HC2
              have r3 : ((cc : Int) != (cc : Int)) = false := bne_self_eq_false _
              clear hcc
              go_wp2_with fail
              refine (HC1.out _ (below_alloc _ _)).mono ?_
              rintro e _ ⟨rfl, rfl⟩
              go_wp2_with fail
              refine (HC2.out _ (below_alloc _ _)).mono ?_
              rintro e _ ⟨rfl, rfl⟩
              go_wp2_with fail
              refine (HC3.out _ (below_alloc _ _)).mono ?_
              rintro e _ ⟨rfl, rfl⟩
              go_wp2_with fail
              go_roundw
              case rel => exact ⟨j + 1, _, by omega, by go_num, (K8.out.below (below_alloc _ _)).sub⟩
              case measure => simp [intOf]; omega
            · have HS1 := Lib.hid (fun wq Lr (h : ArK w wq a g qs Ls Lr X) => akSet h idn x4 (by omega))
              have HS2 := Lib.hid (fun wq La (h : ArK w wq a g qs La Ls X) => akSetR h idn x4 (by omega))
              obtain ⟨Lx, hLx⟩ : ∃ y, (setZ Ls idn fun x => { x with v := x4 }) = y := ⟨_, rfl⟩
              obtain ⟨bs, hbs⟩ : ∃ y, isIn Ls idn = y := ⟨_, rfl⟩
              rw [hLx, hbs] at HS1 HS2
              have r1 : (bs != bs) = false := bne_self_eq_false _
              have KD6 : Hid (ArK w w6.drew a g qs Ls Ls X) := Lib.hid (K6.out.below ⟨rfl, rfl, rfl, Nat.le_refl _, fun _ _ => rfl⟩)
              clear hLx hbs
              go_wp2_with fail
              go_region_law
                (first
                  | (refine step_go rfl ?_; go_simp; (first | (with_reducible refine (HS1.out _ _ KR.out).mono ?_) | (with_reducible refine (HS1.out _ _ KD6.out).mono ?_)); rintro e wA ⟨rfl, hA⟩
                     have hbx := HX.out 0 (Nat.le_refl _) wA _ _ hA
                     have qA : wA.cell? ⟨wr.heap.size, 4, none⟩ = some (.int .i32 x4) := cell_blk hbx 4
                     first | (have KF : Hid (ArK w wA a g qs Lx Lx X) := Lib.hid hA) | (have KA : Hid (ArK w wA a g qs Lx Ls X) := Lib.hid hA)
                     clear hA hbx)
                  | (refine step_go rfl ?_; go_simp; (first | (with_reducible refine (HS2.out _ _ KA.out).mono ?_) | (with_reducible refine (HS2.out _ _ KD6.out).mono ?_)); rintro e wA ⟨rfl, hA⟩
                     have hbx := HX.out 0 (Nat.le_refl _) wA _ _ hA
                     have qA : wA.cell? ⟨wr.heap.size, 4, none⟩ = some (.int .i32 x4) := cell_blk hbx 4
                     first | (have KF : Hid (ArK w wA a g qs Lx Lx X) := Lib.hid hA) | (have KR : Hid (ArK w wA a g qs Ls Lx X) := Lib.hid hA)
                     clear hA hbx))
              all_goals
                have HC1 := Lib.hid (fun w' (hb : Below wA.heap.size wA w') => akCount (KF.out.below hb) by')
                have HC2 := Lib.hid (fun w' (hb : Below wA.heap.size wA w') => akCountR (KF.out.below hb) by')
                have HC3 := Lib.hid (fun w' (hb : Below wA.heap.size wA w') => akCount (KF.out.below hb) (-1))
                rw [cntZ_lo (by omega : (-1 : Int) < 0)] at HC3
                obtain ⟨cc, hcc⟩ : ∃ c : Nat, cntZ Lx by' = c := ⟨_, rfl⟩
                rw [hcc] at HC1 HC2
                have r3 : ((cc : Int) != (cc : Int)) = false := bne_self_eq_false _
                clear hcc
                go_wp2_with fail
                refine (HC1.out _ (Below.refl _ _)).mono ?_
                rintro e _ ⟨rfl, rfl⟩
                go_wp2_with fail
                refine (HC2.out _ (Below.refl _ _)).mono ?_
                rintro e _ ⟨rfl, rfl⟩
                go_wp2_with fail
                refine (HC3.out _ (Below.refl _ _)).mono ?_
                rintro e _ ⟨rfl, rfl⟩
                go_wp2_with fail
                go_roundw
                case rel => exact ⟨j + 1, _, by omega, by go_num, (KF.out).sub⟩
                case measure => simp [intOf]; omega
        · obtain rfl : N1 = j := by omega
          obtain ⟨hn16, hle, _⟩ := hK.tab
          have HLE := Lib.hid hle
          have K9 := Lib.hid hK
          clear hK hle
          go_wp2_with fail
          go_loopw [22] (fun i wr => ∃ k : Nat, k ≤ Ls.length ∧ i = .int .i64 k ∧ ArK w wr a g qs Ls Ls []) (fun i _ => Ls.length - (intOf i).toNat)
          case atStart => exact ⟨0, Nat.zero_le _, rfl, K9.out⟩
          case round =>
            clear K9
            obtain ⟨k, hk, rfl, hK⟩ := hrel
            have HK := Lib.hid hK
            obtain ⟨_, _, tb, c1, ht⟩ := hK.tab
            have HT := Lib.hid ht
            clear hK ht
            by_cases hkl : k < Ls.length
            · obtain ⟨n, hn⟩ : ∃ n, Ls[k].length = n := ⟨_, rfl⟩
              have HN := Lib.hid hn
              have hn4 : n ≤ 4096 := by rw [← hn]; exact HLE.out k hkl
              obtain ⟨L, hL⟩ : ∃ L, Ls.length = L := ⟨_, rfl⟩
              have HL := Lib.hid hL
              rw [hL] at c1 hn16 hk
              have hkL : k < L := by omega
              clear hn HT
              have i1 : (0 : Int) ≤ (k : Int) ∧ (k : Int) < L := by omega
              rw [hL]
              clear hL
              go_wp2_with fail
              go_loopw [23] (fun i wr => ∃ m : Nat, m ≤ n ∧ i = .int .i64 m ∧ ArK w wr a g qs Ls Ls []) (fun i _ => n - (intOf i).toNat)
              case atStart => exact ⟨0, Nat.zero_le _, rfl, HK.out⟩
              case round =>
                obtain ⟨m, hm, rfl, hK2⟩ := hrel
                have HK2 := Lib.hid hK2
                obtain ⟨_, _, tb2, e1, ht2⟩ := hK2.tab
                obtain ⟨Ar, cr, e2, hrow⟩ := ht2 k hkl
                rw [HN.out] at e2
                rw [HL.out] at e1
                by_cases hmn : m < n
                · have hml : m < Ls[k].length := by rw [HN.out]; exact hmn
                  obtain ⟨gr, eA, q0, q1⟩ := hrow m hml
                  subst eA
                  obtain ⟨p1, p2⟩ := there_at Ls (by rw [HL.out]; exact hn16) HLE.out hkl hml
                  obtain ⟨idn, hidn⟩ : ∃ y, (k : Int) * 65536 + (m : Int) = y := ⟨_, rfl⟩
                  have hidb : -2147483648 ≤ idn ∧ idn ≤ 2147483647 := by omega
                  rw [hidn] at p1 p2
                  have HG := Lib.hid (akGet hK2 idn hidb)
                  unfold AkG at HG
                  rw [p1, p2] at HG
                  obtain ⟨x, hx⟩ : ∃ x, Ls[k][m] = x := ⟨_, rfl⟩
                  rw [hx] at HG q0 q1
                  have HTAB := Lib.hid (fun w' (h : ArK w w' a g qs Ls Ls []) => h.tab)
                  have i2 : (0 : Int) ≤ (m : Int) ∧ (m : Int) < n := by omega
                  have HX9 := Lib.hid hx
                  unfold refA at HG
                  have HKL := Lib.hid hkl; have HML := Lib.hid hml
                  clear hK2 ht2 hrow p1 p2 hx q0 q1
                  go_wp2_with fail
                  refine HG.out.mono ?_
                  rintro e w7 ⟨rfl, h7⟩
                  obtain ⟨_, _, tb3, e3, ht3⟩ := HTAB.out w7 h7
                  obtain ⟨Ar3, cr3, e4, hrow3⟩ := ht3 k HKL.out
                  obtain ⟨gr3, eA3, q0, q1⟩ := hrow3 m HML.out
                  subst eA3
                  rw [HX9.out] at q0 q1
                  rw [HN.out] at e4
                  rw [HL.out] at e3
                  have K7 := Lib.hid h7
                  have u1 := World.block_lt_of_cell? w7 _ e3
                  have u2 := World.block_lt_of_cell? w7 _ e4
                  have u3 := World.block_lt_of_cell? w7 _ q0
                  have KE := Lib.hid (fun n => (h7.below (below_alloc w7 (.cells #[.int .i64 x.lb, .int .i32 x.v] 35))).below (below_drewN (Below.refl _ _) n))
                  have r1 : (x.lb == x.lb) = true := beq_self_eq_true _
                  have r1' : (x.v == x.v) = true := beq_self_eq_true _
                  clear h7 ht3 hrow3 e1 e2
                  go_wp2_with fail
                  go_quiet (fail)
                  go_wp2_with fail
                  go_roundw
                  case rel => exact ⟨m + 1, by omega, by go_num, KE.out _⟩
                  case measure => simp [intOf]; omega
                · obtain rfl : n = m := by omega
                  clear hK2 ht2 hrow
                  go_wp2_with fail
                  go_roundw
                  case rel => exact ⟨k + 1, by omega, by go_num, HK2.out⟩
                  case measure => simp [intOf]; omega
            · obtain ⟨L, hL⟩ : ∃ L, Ls.length = L := ⟨_, rfl⟩
              rw [hL] at c1 hkl hk
              obtain rfl : L = k := by omega
              have HF : Hid (Below w.heap.size w wr) := Lib.hid HK.out.bl
              clear hL
              go_wp2_with fail
              go_ret
              exact ⟨rfl, HF.out⟩

/- The claim. -/

set_option maxRecDepth 100000 in
theorem lifted (os : Os) (started : os.Started) (H : Type) (enc : TypeId × Value → H) :
    ReturnsInHanded {} Try.checked os 3 .any (Rows.arenaPlaysSpec.pre6 enc Try.prog Try.f3 Rows.arenaPlaysRow.domain false) (Rows.arenaPlaysSpec.post enc Try.prog Try.f3 false true false false) := by
  refine returnsInHanded_of_change (C := Try.checked) ownKnobs started (by kernel_rfl) Try.func3
    (ChangeSpec.witness6 (enc := enc) (C := Try.checked) false ⟨#[], #[.slice none 0 0, .slice none 0 0], []⟩ 8 (by kernel_rfl) (by kernel_rfl) (by kernel_rfl) (by kernel_rfl)) ?_
  intro W base args ds gs before hval hW _ _
  refine law_contract rfl rfl (fun ds h => by match ds, h with | [d1, d2], _ => rfl) (by decide +kernel) hW ?_
  obtain ⟨p, q, hA0, _⟩ := hW
  have hA : DataW.TrodAll enc Try.prog W 0 (fun _ => true) true Try.f3.params.toList args.toList ds p := hA0
  have hval' : ∀ (j : Nat) t v, Try.f3.params[j]? = some t → args[j]? = some v → Value.okWide Try.prog W .any base t v := hval
  rw [Try.params3] at hA hval'
  obtain ⟨v0, vs0, d0, ds0, p0, q0, hargs, rfl, rfl, h0, r0⟩ := trodAll_cons hA
  obtain ⟨v1, vs1, d1, ds1, p1, q1, rfl, rfl, rfl, h1, r1⟩ := trodAll_cons r0
  obtain ⟨rfl, rfl, rfl⟩ := trodAll_nil r1
  obtain rfl : args = #[v0, v1] := by cases args; simp_all
  obtain ⟨l0, h0, m0, x0⟩ := open_list (hval' 0 _ v0 rfl rfl) h0
  obtain ⟨l1, h1, m1⟩ := open_rowsS [.u8, .u8, .u8, .u8, .i32, .i32] Try.underlying23 Try.underlying31 (by kernel_rfl) (by kernel_rfl) (by kernel_rfl) (by decide) (hval' 1 _ v1 rfl rfl) h1
  exact walk v0 l0 v1 l1 W h0 m0 x0 h1 m1

theorem proved : Rows.ArenaPlaysSaid :=
  OpenClaim.holds_of_wide 3 Try.f3 rfl rfl rfl rfl rfl rfl rfl ⟨rfl, rfl, rfl, rfl, rfl⟩ rfl rfl rfl rfl rfl (by kernel_rfl) Try.func3 (by kernel_rfl)
    (of_decide_eq_true (by kernel_rfl)) (by unfold Func.isWrapper; first | (rw [if_pos (by decide +kernel)]; kernel_rfl) | (rw [if_neg (by decide +kernel)]; exact ⟨rfl, rfl⟩))
    (fun os started H enc _ => lifted os started H enc)

end Go.Proofs.Ytboelofkbhgmfaa.arenaPlays
