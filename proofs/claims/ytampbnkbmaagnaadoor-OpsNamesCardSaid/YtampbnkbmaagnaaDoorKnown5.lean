/- The laws' few known answers. -/
import Derived.Test.YtampbnkbmaagnaaDoorFind
import Derived.Test.YtampbnkbmaagnaaDoorLaid5
namespace Go.Proofs.YtampbnkbmaagnaaDoor
open Go.RowKit

theorem find_lit {s : ByteArray} {n : Int} {b : Bool} (w : World) (hs : s.size ≤ maxLen) (hN : NamesIn w) (hn : ((findN s : Nat) : Int) = n) (hb : (findN s != 0) = b) :
    Calls Tryd.prog 19 #[.string s] w fun e w' => e = .returned (.tuple #[.int .i64 n, .bool b]) ∧ Below w.heap.size w w' := by
  rw [← hn, ← hb]; exact find_any s hs w hN
theorem name_lit {op : Int} {s : ByteArray} (w : World) (hN : NamesIn w) (h : nameA op = s) : Calls Tryd.prog 17 #[.int .i64 op] w fun e w' => e = .returned (.string s) ∧ w' = w := by
  rw [← h]; exact name_any op w hN
theorem known_lit {op : Int} {b : Bool} (w : World) (h : knownB op = b) : Calls Tryd.prog 7 #[.int .i64 op] w fun e w' => e = .returned (.bool b) ∧ w' = w := by
  rw [← h]; exact known_any op w
theorem refKnown_lit {op : Int} {b : Bool} (w : World) (h : knownB op = b) : Calls Tryd.prog 8 #[.int .i64 op] w fun e w' => e = .returned (.bool b) ∧ w' = w := by
  rw [← h]; exact refKnown_any op w
theorem arg_lit {op z : Int} (w : World) (h : argZ op = z) : Calls Tryd.prog 9 #[.int .i64 op] w fun e w' => e = .returned (.int .i64 z) ∧ Below w.heap.size w w' := by
  rw [← h]; exact arg_any op w
theorem pops_lit {op z : Int} (w : World) (h : popsZ op = z) : Calls Tryd.prog 11 #[.int .i64 op] w fun e w' => e = .returned (.int .i64 z) ∧ Below w.heap.size w w' := by
  rw [← h]; exact pops_any op w
theorem pushes_lit {op z : Int} (w : World) (h : pushesZ op = z) : Calls Tryd.prog 13 #[.int .i64 op] w fun e w' => e = .returned (.int .i64 z) ∧ Below w.heap.size w w' := by
  rw [← h]; exact pushes_any op w
theorem ends_lit {op : Int} {b : Bool} (w : World) (h : endsB op = b) : Calls Tryd.prog 15 #[.int .i64 op] w fun e w' => e = .returned (.bool b) ∧ w' = w := by
  rw [← h]; exact ends_any op w
/-- One more call behind a Below. -/
theorem nextW {w a b : World} (h : Below w.heap.size w a) (h2 : Below a.heap.size a b) : Below w.heap.size w b := h.trans (h2.mono h.size)

set_option maxHeartbeats 8000000 in
theorem known5_any (w : World) (hN : NamesIn w) : Calls Tryd.prog 6 #[] w fun e w' => e = .returned (.bool true) ∧ Below w.heap.size w w' := by
  have HN := Lib.hid hN; clear hN
  go_enter Tryd.func6, Tryd.ntmps6
  go_wp2_with fail
  refine (find_lit (n := 11) (b := true) w (by decide) HN.out (by decide +kernel) (by decide +kernel)).mono ?_
  rintro e w1 ⟨rfl, hb⟩
  have HN1 := Lib.hid (HN.out.below hb); have B1 := Lib.hid hb; clear hb
  go_wp2_with fail
  refine (find_lit (n := 0) (b := false) w1 (by decide) HN1.out (by decide +kernel) (by decide +kernel)).mono ?_
  rintro e w2 ⟨rfl, hb⟩
  have HN2 := Lib.hid (HN1.out.below hb); have B2 := Lib.hid (nextW B1.out hb); clear hb B1 HN1 HN
  go_wp2_with fail
  refine (known_lit (b := true) w2 (by decide)).mono ?_
  rintro e w' ⟨rfl, rfl⟩
  go_wp2_with fail
  refine (known_lit (b := false) w' (by decide)).mono ?_
  rintro e w2 ⟨rfl, rfl⟩
  go_wp2_with fail
  refine (arg_lit (z := 5) w2 (by decide)).mono ?_
  rintro e w3 ⟨rfl, hb⟩
  have HN3 := Lib.hid (HN2.out.below hb); have B3 := Lib.hid (nextW B2.out hb); clear hb B2 HN2
  go_wp2_with fail
  refine (pops_lit (z := 2) w3 (by decide)).mono ?_
  rintro e w4 ⟨rfl, hb⟩
  have HN4 := Lib.hid (HN3.out.below hb); have B4 := Lib.hid (nextW B3.out hb); clear hb B3 HN3
  go_wp2_with fail
  refine (pushes_lit (z := 2) w4 (by decide)).mono ?_
  rintro e w5 ⟨rfl, hb⟩
  have HN5 := Lib.hid (HN4.out.below hb); have B5 := Lib.hid (nextW B4.out hb); clear hb B4 HN4
  go_wp2_with fail
  refine (ends_lit (b := true) w5 (by decide)).mono ?_
  rintro e w' ⟨rfl, rfl⟩
  go_wp2_with fail
  refine (name_lit (s := ⟨#[112, 117, 115, 104]⟩) w' HN5.out (by decide +kernel)).mono ?_
  rintro e w5 ⟨rfl, rfl⟩
  go_wp2_with fail
  go_ret
  exact ⟨rfl, B5.out⟩

end Go.Proofs.YtampbnkbmaagnaaDoor
