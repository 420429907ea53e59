/- Least of Upper, Greatest of Lower, by the program's lattice. -/
import Derived.Test.YtidjohhnggpibaaPow
import Derived.Test.YtidjohhnggpibaaRegion
import Derived.Deep.CutRange
import Derived.Deep.DeepCutAuto
import Derived.BigQuiet
namespace Go.Proofs.Ytidjohhnggpibaa
open Go.RowKit

theorem upperT_len (T : List (List Bool)) (a b : Int) : (upperT T a b).length ≤ T.length := by
  unfold upperT
  split
  · rw [nats_length]; exact upK_length _ _ _ _
  · simp
theorem lowerT_len (T : List (List Bool)) (a b : Int) : (lowerT T a b).length ≤ T.length := by
  unfold lowerT
  split
  · rw [nats_length]; exact upK_length _ _ _ _
  · simp
theorem known_list {val : Nat → Value} {sp : List Nat} {i : Nat} {v : Value} {w w' : World} {L : List Int} (h : Reg.Known val (fun _ v w => IntsV w w.heap.size v L) sp i v w) (hb : Below w.heap.size w w') :
    Reg.Known val (fun _ v w => IntsV w w.heap.size v L) sp i v w' := ⟨h.plain, fun e => (h.other e).later hb⟩

/-- What stays while a bound is asked for: the lattice's first field, and the table that it holds. -/
structure HoldL (w0 : World) (g : Nat) (v : Value) (T : List (List Bool)) (k : Nat) (w : World) : Prop where
  tab : TabV w w.heap.size v T
  c : w.cell? ⟨g, 0, none⟩ = some v
  lt : g < w.heap.size
  b : Below w0.heap.size w0 w
theorem HoldL.step {w0 w w' : World} {g : Nat} {v : Value} {T : List (List Bool)} {k k' : Nat} (h : HoldL w0 g v T k w) (hb : Below w.heap.size w w') : HoldL w0 g v T k' w' :=
  ⟨h.tab.later hb, (hb.cell (p := ⟨g, 0, none⟩) h.lt).trans h.c, Nat.lt_of_lt_of_le h.lt hb.size, nextB h.b hb⟩
theorem HoldL.drew {w0 w : World} {g : Nat} {v : Value} {T : List (List Bool)} {k : Nat} (h : HoldL w0 g v T k w) : HoldL w0 g v T k w.drew := h.step (Below.refl _ _).drew

def lu39Val (g : Nat) (v : Value) (x y : Int) (r : Nat) (s : Bool) : Nat → Value
  | 0 => .pointer (some ⟨g, 0, none⟩)
  | 1 => .pointer (some ⟨g, 0, none⟩)
  | 2 => .pointer (some ⟨g, 0, none⟩)
  | 3 => v
  | 4 => .pointer (some ⟨g, 0, none⟩)
  | 5 => .pointer (some ⟨g, 0, none⟩)
  | 6 => .pointer (some ⟨g, 0, none⟩)
  | 7 => v
  | 8 => .int .i64 x
  | 9 => .int .i64 y
  | 11 => .tuple #[.int .i64 (r : Int), .bool s]
  | 12 => .int .i64 (r : Int)
  | 13 => .bool s
  | 14 => .int .i64 (r : Int)
  | 15 => .bool s
  | _ => undef

def gl40Val (g : Nat) (v : Value) (x y : Int) (r : Nat) (s : Bool) : Nat → Value
  | 0 => .pointer (some ⟨g, 0, none⟩)
  | 1 => .pointer (some ⟨g, 0, none⟩)
  | 2 => .pointer (some ⟨g, 0, none⟩)
  | 3 => v
  | 4 => .pointer (some ⟨g, 0, none⟩)
  | 5 => .pointer (some ⟨g, 0, none⟩)
  | 6 => .pointer (some ⟨g, 0, none⟩)
  | 7 => v
  | 8 => .int .i64 x
  | 9 => .int .i64 y
  | 11 => .tuple #[.int .i64 (r : Int), .bool s]
  | 12 => .int .i64 (r : Int)
  | 13 => .bool s
  | 14 => .int .i64 (r : Int)
  | 15 => .bool s
  | _ => undef


set_option maxHeartbeats 4000000 in
theorem leastUpper_any {g : Nat} {v : Value} {T : List (List Bool)} (x y : Int) (w : World) (hn : T.length ≤ 1000) (hc : w.cell? ⟨g, 0, none⟩ = some v) (hg : g < w.heap.size) (hT : TabV w w.heap.size v T) :
    Calls Try.prog 39 #[.pointer (some ⟨g, 0, none⟩), .int .i64 x, .int .i64 y] w (Found w (leastT T (upperT T x y))) := by
  obtain ⟨L, hL⟩ : ∃ L, upperT T x y = L := ⟨_, rfl⟩
  obtain ⟨o, ho⟩ : ∃ o, leastT T L = o := ⟨_, rfl⟩
  obtain ⟨r, hr⟩ : ∃ r : Nat, o.getD 0 = r := ⟨_, rfl⟩
  obtain ⟨s, hs⟩ : ∃ s, o.isSome = s := ⟨_, rfl⟩
  have HA := Lib.hid (show ansZ o = .tuple #[.int .i64 (r : Int), .bool s] by unfold ansZ; rw [hr, hs])
  have HL := Lib.hid (show L.length ≤ 1000 by rw [← hL]; exact Nat.le_trans (upperT_len T x y) hn)
  have HHO := Lib.hid (show HoldL w g v T 0 w from ⟨hT, hc, hg, Below.refl _ _⟩)
  have HU := Lib.hid hL; clear hL hc hg hT hr hs hn
  have HO := Lib.hid ho
  rw [HU.out, ho]
  clear ho
  go_enter Try.func39, Try.ntmps39
  go_upto_region 1 with (fail)
  refine Reg.wp_facts_sl [8, 9, 10, 11, 12, 13, 14, 15, 16, 17, 18, 19, 20, 21, 6, 7] rfl [] [[], [(0, 8)], [(1, 9)], [(2, 10)], [], [(4, 12)], [(5, 13)], [(6, 14)], [], [], [(7, 15), (8, 16), (9, 17)], [(3, 11), (10, 18)], [(11, 19)], [(11, 19)], [(12, 20)], [(13, 21)]] [(14, 6), (15, 7)] (Reg.Known (lu39Val g v x y r s) (fun _ v w => IntsV w w.heap.size v L) [10]) (HoldL w g v T) (by kernel_rfl) (by kernel_rfl) ?start ?steps ?finish
  case start => exact HHO.out.drew
  case steps =>
    refine Reg.Steps.zip ?_ ?_
    · refine Reg.step_go rfl ?_
      intro a wi ki hf hd hS hc K hK
      have f0 : a.tmps.getD 0 undef = .pointer (some ⟨g, 0, none⟩) := hf.same 0 rfl
      clear hf hd hc
      have hK0 := Lib.hid hK; clear hK
      have hS0 := Lib.hid hS; clear hS
      go_simp
      exact hK0.out _ _ (Reg.Known.mk_val rfl rfl) (fun _ _ h => h) hS0.out
    refine Reg.Steps.zip ?_ ?_
    · refine Reg.step_go rfl ?_
      intro a wi ki hf hd hS hc K hK
      have e8 : a.tmps.getD 8 undef = .pointer (some ⟨g, 0, none⟩) := hd.1.plain rfl
      clear hf hd hc
      have hK0 := Lib.hid hK; clear hK
      have hS0 := Lib.hid hS; clear hS
      go_simp
      exact hK0.out _ _ (Reg.Known.mk_val rfl rfl) (fun _ _ h => h) hS0.out
    refine Reg.Steps.zip ?_ ?_
    · refine Reg.step_go rfl ?_
      intro a wi ki hf hd hS hc K hK
      have e9 : a.tmps.getD 9 undef = .pointer (some ⟨g, 0, none⟩) := hd.1.plain rfl
      clear hf hd hc
      have hK0 := Lib.hid hK; clear hK
      have hS0 := Lib.hid hS; clear hS
      go_simp
      exact hK0.out _ _ (Reg.Known.mk_val rfl rfl) (fun _ _ h => h) hS0.out
    refine Reg.Steps.zip ?_ ?_
    · refine Reg.step_go rfl ?_
      intro a wi ki hf hd hS hc K hK
      have e10 : a.tmps.getD 10 undef = .pointer (some ⟨g, 0, none⟩) := hd.1.plain rfl
      clear hf hd hc
      have cc := hS.c
      have hK0 := Lib.hid hK; clear hK
      have hS0 := Lib.hid hS; clear hS
      go_simp
      exact hK0.out _ _ (Reg.Known.mk_val rfl rfl) (fun _ _ h => h) hS0.out
    refine Reg.Steps.zip ?_ ?_
    · refine Reg.step_go rfl ?_
      intro a wi ki hf hd hS hc K hK
      have f0 : a.tmps.getD 0 undef = .pointer (some ⟨g, 0, none⟩) := hf.same 0 rfl
      clear hf hd hc
      have hK0 := Lib.hid hK; clear hK
      have hS0 := Lib.hid hS; clear hS
      go_simp
      exact hK0.out _ _ (Reg.Known.mk_val rfl rfl) (fun _ _ h => h) hS0.out
    refine Reg.Steps.zip ?_ ?_
    · refine Reg.step_go rfl ?_
      intro a wi ki hf hd hS hc K hK
      have e12 : a.tmps.getD 12 undef = .pointer (some ⟨g, 0, none⟩) := hd.1.plain rfl
      clear hf hd hc
      have hK0 := Lib.hid hK; clear hK
      have hS0 := Lib.hid hS; clear hS
      go_simp
      exact hK0.out _ _ (Reg.Known.mk_val rfl rfl) (fun _ _ h => h) hS0.out
    refine Reg.Steps.zip ?_ ?_
    · refine Reg.step_go rfl ?_
      intro a wi ki hf hd hS hc K hK
      have e13 : a.tmps.getD 13 undef = .pointer (some ⟨g, 0, none⟩) := hd.1.plain rfl
      clear hf hd hc
      have hK0 := Lib.hid hK; clear hK
      have hS0 := Lib.hid hS; clear hS
      go_simp
      exact hK0.out _ _ (Reg.Known.mk_val rfl rfl) (fun _ _ h => h) hS0.out
    refine Reg.Steps.zip ?_ ?_
    · refine Reg.step_go rfl ?_
      intro a wi ki hf hd hS hc K hK
      have e14 : a.tmps.getD 14 undef = .pointer (some ⟨g, 0, none⟩) := hd.1.plain rfl
      clear hf hd hc
      have cc := hS.c
      have hK0 := Lib.hid hK; clear hK
      have hS0 := Lib.hid hS; clear hS
      go_simp
      exact hK0.out _ _ (Reg.Known.mk_val rfl rfl) (fun _ _ h => h) hS0.out
    refine Reg.Steps.zip ?_ ?_
    · refine Reg.step_go rfl ?_
      intro a wi ki hf hd hS hc K hK
      have f1 : a.tmps.getD 1 undef = .int .i64 x := hf.same 1 rfl
      clear hf hd hc
      have hK0 := Lib.hid hK; clear hK
      have hS0 := Lib.hid hS; clear hS
      go_simp
      exact hK0.out _ _ (Reg.Known.mk_val rfl rfl) (fun _ _ h => h) hS0.out
    refine Reg.Steps.zip ?_ ?_
    · refine Reg.step_go rfl ?_
      intro a wi ki hf hd hS hc K hK
      have f2 : a.tmps.getD 2 undef = .int .i64 y := hf.same 2 rfl
      clear hf hd hc
      have hK0 := Lib.hid hK; clear hK
      have hS0 := Lib.hid hS; clear hS
      go_simp
      exact hK0.out _ _ (Reg.Known.mk_val rfl rfl) (fun _ _ h => h) hS0.out
    refine Reg.Steps.zip ?_ ?_
    · refine Reg.step_go rfl ?_
      intro a wi ki hf hd hS hc K hK
      have e15 : a.tmps.getD 15 undef = v := hd.1.plain rfl
      have e16 : a.tmps.getD 16 undef = .int .i64 x := hd.2.1.plain rfl
      have e17 : a.tmps.getD 17 undef = .int .i64 y := hd.2.2.1.plain rfl
      clear hf hd
      have HS := Lib.hid hS; clear hS
      have hK0 := Lib.hid hK; clear hK hc
      go_simp
      refine (upper_any _ HS.out.tab).mono ?_
      rw [HU.out]
      rintro e wA ⟨v', rfl, hv, hbA⟩
      exact hK0.out _ _ (Reg.Known.mk_other rfl hv) (fun i u h => known_list h hbA) (HS.out.step hbA)
    refine Reg.Steps.zip ?_ ?_
    · refine Reg.step_go rfl ?_
      intro a wi ki hf hd hS hc K hK
      have e11 : a.tmps.getD 11 undef = v := hd.1.plain rfl
      have x18 := hd.2.1.other rfl
      clear hf hd
      have y18 : IntsV wi wi.heap.size (a.tmps.getD 18 undef) L := x18
      clear x18
      obtain ⟨A18, c18, e18, h18⟩ := y18
      have H18 := Lib.hid h18; clear h18
      have HS := Lib.hid hS; clear hS
      have hK0 := Lib.hid hK; clear hK hc
      go_simp
      refine (least_any _ HS.out.tab ⟨A18, c18, rfl, H18.out⟩ HL.out).mono ?_
      rw [HO.out]
      rintro e wA ⟨rfl, hbA⟩
      rw [show ansZ o = .tuple #[.int .i64 (r : Int), .bool s] from HA.out]
      exact hK0.out _ _ (Reg.Known.mk_val rfl rfl) (fun i u h => known_list h hbA) (HS.out.step hbA)
    refine Reg.Steps.zip ?_ ?_
    · refine Reg.step_go rfl ?_
      intro a wi ki hf hd hS hc K hK
      have e19 : a.tmps.getD 19 undef = .tuple #[.int .i64 (r : Int), .bool s] := hd.1.plain rfl
      clear hf hd hc
      have hK0 := Lib.hid hK; clear hK
      have hS0 := Lib.hid hS; clear hS
      go_simp
      exact hK0.out _ _ (Reg.Known.mk_val rfl rfl) (fun _ _ h => h) hS0.out
    refine Reg.Steps.zip ?_ ?_
    · refine Reg.step_go rfl ?_
      intro a wi ki hf hd hS hc K hK
      have e19 : a.tmps.getD 19 undef = .tuple #[.int .i64 (r : Int), .bool s] := hd.1.plain rfl
      clear hf hd hc
      have hK0 := Lib.hid hK; clear hK
      have hS0 := Lib.hid hS; clear hS
      go_simp
      exact hK0.out _ _ (Reg.Known.mk_val rfl rfl) (fun _ _ h => h) hS0.out
    refine Reg.Steps.zip ?_ ?_
    · refine Reg.step_go rfl ?_
      intro a wi ki hf hd hS hc K hK
      have e20 : a.tmps.getD 20 undef = .int .i64 (r : Int) := hd.1.plain rfl
      clear hf hd hc
      have hK0 := Lib.hid hK; clear hK
      have hS0 := Lib.hid hS; clear hS
      go_simp
      exact hK0.out _ _ (Reg.Known.mk_val rfl rfl) (fun _ _ h => h) hS0.out
    refine Reg.Steps.zip ?_ ?_
    · refine Reg.step_go rfl ?_
      intro a wi ki hf hd hS hc K hK
      have e21 : a.tmps.getD 21 undef = .bool s := hd.1.plain rfl
      clear hf hd hc
      have hK0 := Lib.hid hK; clear hK
      have hS0 := Lib.hid hS; clear hS
      go_simp
      exact hK0.out _ _ (Reg.Known.mk_val rfl rfl) (fun _ _ h => h) hS0.out
    exact Reg.Steps.nil
  case finish =>
    intro a w8 hf hd hS
    obtain ⟨u, hu⟩ : ∃ u : Nat → Value, u = fun s => a.tmps.getD s undef := ⟨_, rfl⟩
    have e6 : u 6 = .int .i64 (r : Int) := by rw [hu]; exact hd.1.plain rfl
    have e7 : u 7 = .bool s := by rw [hu]; exact hd.2.1.plain rfl
    rw [hf.eq, ← hu]
    clear hf hu hd
    have HS8 := Lib.hid hS.b; clear hS
    simp [Reg.filled, e6, e7]
    clear e6 e7
    go_wp2_with fail
    go_ret2
    exact ⟨by rw [HA.out]; rfl, HS8.out⟩

set_option maxHeartbeats 4000000 in
theorem greatestLower_any {g : Nat} {v : Value} {T : List (List Bool)} (x y : Int) (w : World) (hn : T.length ≤ 1000) (hc : w.cell? ⟨g, 0, none⟩ = some v) (hg : g < w.heap.size) (hT : TabV w w.heap.size v T) :
    Calls Try.prog 40 #[.pointer (some ⟨g, 0, none⟩), .int .i64 x, .int .i64 y] w (Found w (greatestT T (lowerT T x y))) := by
  obtain ⟨L, hL⟩ : ∃ L, lowerT T x y = L := ⟨_, rfl⟩
  obtain ⟨o, ho⟩ : ∃ o, greatestT T L = o := ⟨_, rfl⟩
  obtain ⟨r, hr⟩ : ∃ r : Nat, o.getD 0 = r := ⟨_, rfl⟩
  obtain ⟨s, hs⟩ : ∃ s, o.isSome = s := ⟨_, rfl⟩
  have HA := Lib.hid (show ansZ o = .tuple #[.int .i64 (r : Int), .bool s] by unfold ansZ; rw [hr, hs])
  have HL := Lib.hid (show L.length ≤ 1000 by rw [← hL]; exact Nat.le_trans (lowerT_len T x y) hn)
  have HHO := Lib.hid (show HoldL w g v T 0 w from ⟨hT, hc, hg, Below.refl _ _⟩)
  have HU := Lib.hid hL; clear hL hc hg hT hr hs hn
  have HO := Lib.hid ho
  rw [HU.out, ho]
  clear ho
  go_enter Try.func40, Try.ntmps40
  go_upto_region 1 with (fail)
  refine Reg.wp_facts_sl [8, 9, 10, 11, 12, 13, 14, 15, 16, 17, 18, 19, 20, 21, 6, 7] rfl [] [[], [(0, 8)], [(1, 9)], [(2, 10)], [], [(4, 12)], [(5, 13)], [(6, 14)], [], [], [(7, 15), (8, 16), (9, 17)], [(3, 11), (10, 18)], [(11, 19)], [(11, 19)], [(12, 20)], [(13, 21)]] [(14, 6), (15, 7)] (Reg.Known (gl40Val g v x y r s) (fun _ v w => IntsV w w.heap.size v L) [10]) (HoldL w g v T) (by kernel_rfl) (by kernel_rfl) ?start ?steps ?finish
  case start => exact HHO.out.drew
  case steps =>
    refine Reg.Steps.zip ?_ ?_
    · refine Reg.step_go rfl ?_
      intro a wi ki hf hd hS hc K hK
      have f0 : a.tmps.getD 0 undef = .pointer (some ⟨g, 0, none⟩) := hf.same 0 rfl
      clear hf hd hc
      have hK0 := Lib.hid hK; clear hK
      have hS0 := Lib.hid hS; clear hS
      go_simp
      exact hK0.out _ _ (Reg.Known.mk_val rfl rfl) (fun _ _ h => h) hS0.out
    refine Reg.Steps.zip ?_ ?_
    · refine Reg.step_go rfl ?_
      intro a wi ki hf hd hS hc K hK
      have e8 : a.tmps.getD 8 undef = .pointer (some ⟨g, 0, none⟩) := hd.1.plain rfl
      clear hf hd hc
      have hK0 := Lib.hid hK; clear hK
      have hS0 := Lib.hid hS; clear hS
      go_simp
      exact hK0.out _ _ (Reg.Known.mk_val rfl rfl) (fun _ _ h => h) hS0.out
    refine Reg.Steps.zip ?_ ?_
    · refine Reg.step_go rfl ?_
      intro a wi ki hf hd hS hc K hK
      have e9 : a.tmps.getD 9 undef = .pointer (some ⟨g, 0, none⟩) := hd.1.plain rfl
      clear hf hd hc
      have hK0 := Lib.hid hK; clear hK
      have hS0 := Lib.hid hS; clear hS
      go_simp
      exact hK0.out _ _ (Reg.Known.mk_val rfl rfl) (fun _ _ h => h) hS0.out
    refine Reg.Steps.zip ?_ ?_
    · refine Reg.step_go rfl ?_
      intro a wi ki hf hd hS hc K hK
      have e10 : a.tmps.getD 10 undef = .pointer (some ⟨g, 0, none⟩) := hd.1.plain rfl
      clear hf hd hc
      have cc := hS.c
      have hK0 := Lib.hid hK; clear hK
      have hS0 := Lib.hid hS; clear hS
      go_simp
      exact hK0.out _ _ (Reg.Known.mk_val rfl rfl) (fun _ _ h => h) hS0.out
    refine Reg.Steps.zip ?_ ?_
    · refine Reg.step_go rfl ?_
      intro a wi ki hf hd hS hc K hK
      have f0 : a.tmps.getD 0 undef = .pointer (some ⟨g, 0, none⟩) := hf.same 0 rfl
      clear hf hd hc
      have hK0 := Lib.hid hK; clear hK
      have hS0 := Lib.hid hS; clear hS
      go_simp
      exact hK0.out _ _ (Reg.Known.mk_val rfl rfl) (fun _ _ h => h) hS0.out
    refine Reg.Steps.zip ?_ ?_
    · refine Reg.step_go rfl ?_
      intro a wi ki hf hd hS hc K hK
      have e12 : a.tmps.getD 12 undef = .pointer (some ⟨g, 0, none⟩) := hd.1.plain rfl
      clear hf hd hc
      have hK0 := Lib.hid hK; clear hK
      have hS0 := Lib.hid hS; clear hS
      go_simp
      exact hK0.out _ _ (Reg.Known.mk_val rfl rfl) (fun _ _ h => h) hS0.out
    refine Reg.Steps.zip ?_ ?_
    · refine Reg.step_go rfl ?_
      intro a wi ki hf hd hS hc K hK
      have e13 : a.tmps.getD 13 undef = .pointer (some ⟨g, 0, none⟩) := hd.1.plain rfl
      clear hf hd hc
      have hK0 := Lib.hid hK; clear hK
      have hS0 := Lib.hid hS; clear hS
      go_simp
      exact hK0.out _ _ (Reg.Known.mk_val rfl rfl) (fun _ _ h => h) hS0.out
    refine Reg.Steps.zip ?_ ?_
    · refine Reg.step_go rfl ?_
      intro a wi ki hf hd hS hc K hK
      have e14 : a.tmps.getD 14 undef = .pointer (some ⟨g, 0, none⟩) := hd.1.plain rfl
      clear hf hd hc
      have cc := hS.c
      have hK0 := Lib.hid hK; clear hK
      have hS0 := Lib.hid hS; clear hS
      go_simp
      exact hK0.out _ _ (Reg.Known.mk_val rfl rfl) (fun _ _ h => h) hS0.out
    refine Reg.Steps.zip ?_ ?_
    · refine Reg.step_go rfl ?_
      intro a wi ki hf hd hS hc K hK
      have f1 : a.tmps.getD 1 undef = .int .i64 x := hf.same 1 rfl
      clear hf hd hc
      have hK0 := Lib.hid hK; clear hK
      have hS0 := Lib.hid hS; clear hS
      go_simp
      exact hK0.out _ _ (Reg.Known.mk_val rfl rfl) (fun _ _ h => h) hS0.out
    refine Reg.Steps.zip ?_ ?_
    · refine Reg.step_go rfl ?_
      intro a wi ki hf hd hS hc K hK
      have f2 : a.tmps.getD 2 undef = .int .i64 y := hf.same 2 rfl
      clear hf hd hc
      have hK0 := Lib.hid hK; clear hK
      have hS0 := Lib.hid hS; clear hS
      go_simp
      exact hK0.out _ _ (Reg.Known.mk_val rfl rfl) (fun _ _ h => h) hS0.out
    refine Reg.Steps.zip ?_ ?_
    · refine Reg.step_go rfl ?_
      intro a wi ki hf hd hS hc K hK
      have e15 : a.tmps.getD 15 undef = v := hd.1.plain rfl
      have e16 : a.tmps.getD 16 undef = .int .i64 x := hd.2.1.plain rfl
      have e17 : a.tmps.getD 17 undef = .int .i64 y := hd.2.2.1.plain rfl
      clear hf hd
      have HS := Lib.hid hS; clear hS
      have hK0 := Lib.hid hK; clear hK hc
      go_simp
      refine (lower_any _ HS.out.tab).mono ?_
      rw [HU.out]
      rintro e wA ⟨v', rfl, hv, hbA⟩
      exact hK0.out _ _ (Reg.Known.mk_other rfl hv) (fun i u h => known_list h hbA) (HS.out.step hbA)
    refine Reg.Steps.zip ?_ ?_
    · refine Reg.step_go rfl ?_
      intro a wi ki hf hd hS hc K hK
      have e11 : a.tmps.getD 11 undef = v := hd.1.plain rfl
      have x18 := hd.2.1.other rfl
      clear hf hd
      have y18 : IntsV wi wi.heap.size (a.tmps.getD 18 undef) L := x18
      clear x18
      obtain ⟨A18, c18, e18, h18⟩ := y18
      have H18 := Lib.hid h18; clear h18
      have HS := Lib.hid hS; clear hS
      have hK0 := Lib.hid hK; clear hK hc
      go_simp
      refine (greatest_any _ HS.out.tab ⟨A18, c18, rfl, H18.out⟩ HL.out).mono ?_
      rw [HO.out]
      rintro e wA ⟨rfl, hbA⟩
      rw [show ansZ o = .tuple #[.int .i64 (r : Int), .bool s] from HA.out]
      exact hK0.out _ _ (Reg.Known.mk_val rfl rfl) (fun i u h => known_list h hbA) (HS.out.step hbA)
    refine Reg.Steps.zip ?_ ?_
    · refine Reg.step_go rfl ?_
      intro a wi ki hf hd hS hc K hK
      have e19 : a.tmps.getD 19 undef = .tuple #[.int .i64 (r : Int), .bool s] := hd.1.plain rfl
      clear hf hd hc
      have hK0 := Lib.hid hK; clear hK
      have hS0 := Lib.hid hS; clear hS
      go_simp
      exact hK0.out _ _ (Reg.Known.mk_val rfl rfl) (fun _ _ h => h) hS0.out
    refine Reg.Steps.zip ?_ ?_
    · refine Reg.step_go rfl ?_
      intro a wi ki hf hd hS hc K hK
      have e19 : a.tmps.getD 19 undef = .tuple #[.int .i64 (r : Int), .bool s] := hd.1.plain rfl
      clear hf hd hc
      have hK0 := Lib.hid hK; clear hK
      have hS0 := Lib.hid hS; clear hS
      go_simp
      exact hK0.out _ _ (Reg.Known.mk_val rfl rfl) (fun _ _ h => h) hS0.out
    refine Reg.Steps.zip ?_ ?_
    · refine Reg.step_go rfl ?_
      intro a wi ki hf hd hS hc K hK
      have e20 : a.tmps.getD 20 undef = .int .i64 (r : Int) := hd.1.plain rfl
      clear hf hd hc
      have hK0 := Lib.hid hK; clear hK
      have hS0 := Lib.hid hS; clear hS
      go_simp
      exact hK0.out _ _ (Reg.Known.mk_val rfl rfl) (fun _ _ h => h) hS0.out
    refine Reg.Steps.zip ?_ ?_
    · refine Reg.step_go rfl ?_
      intro a wi ki hf hd hS hc K hK
      have e21 : a.tmps.getD 21 undef = .bool s := hd.1.plain rfl
      clear hf hd hc
      have hK0 := Lib.hid hK; clear hK
      have hS0 := Lib.hid hS; clear hS
      go_simp
      exact hK0.out _ _ (Reg.Known.mk_val rfl rfl) (fun _ _ h => h) hS0.out
    exact Reg.Steps.nil
  case finish =>
    intro a w8 hf hd hS
    obtain ⟨u, hu⟩ : ∃ u : Nat → Value, u = fun s => a.tmps.getD s undef := ⟨_, rfl⟩
    have e6 : u 6 = .int .i64 (r : Int) := by rw [hu]; exact hd.1.plain rfl
    have e7 : u 7 = .bool s := by rw [hu]; exact hd.2.1.plain rfl
    rw [hf.eq, ← hu]
    clear hf hu hd
    have HS8 := Lib.hid hS.b; clear hS
    simp [Reg.filled, e6, e7]
    clear e6 e7
    go_wp2_with fail
    go_ret2
    exact ⟨by rw [HA.out]; rfl, HS8.out⟩

end Go.Proofs.Ytidjohhnggpibaa
