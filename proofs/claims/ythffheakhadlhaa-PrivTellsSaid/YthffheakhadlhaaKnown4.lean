/- The walk of known (law 4). -/
import Derived.Test.YthffheakhadlhaaSet
import Derived.Test.YthffheakhadlhaaBits
namespace Go.Proofs.Ythffheakhadlhaa
open Go.RowKit

theorem IntsV.new (w : World) (l : List Int) : IntsV (w.alloc (.cells (i64s l).toArray 3)) (w.alloc (.cells (i64s l).toArray 3)).heap.size (.slice (some ⟨w.heap.size, 0, none⟩) l.length l.length) l :=
  ⟨_, l.length, rfl, (lies_new w (i64s l) 3).more (by simp)⟩
theorem has_lit (p n : Nat) {z : Bool} (w : World) (hp : p < 4294967296) (hn : n < 4294967296) (hz : hasB p n = z) :
    Calls Try.prog 8 #[.int .u32 p, .int .u32 n] w fun e w' => e = .returned (.bool z) ∧ w = w' := by
  subst hz; exact has_any p n w hp hn
theorem right_lit (p : Nat) {z : Bool} (w : World) (hp : p < 4294967296) (hz : decide (p < 65536) = z) :
    Calls Try.prog 6 #[.int .u32 p] w fun e w' => e = .returned (.bool z) ∧ w = w' := by
  subst hz; exact right_any p w hp
theorem of_lit {B : Nat} {lv : Value} {l : List Int} (p : Nat) (w : World) (hl : IntsV w B lv l) (hm : l.length ≤ 1000) (hp : ofS l = p) :
    Calls Try.prog 10 #[lv] w fun e w' => e = .returned (.int .u32 (p : Nat)) ∧ w = w' := by
  subst hp; exact of_any w hl hm

set_option maxHeartbeats 4000000 in
theorem known_any (w : World) : Calls Try.prog 5 #[] w fun e w' => e = .returned (.bool true) ∧ Below w.heap.size w w' := by
  go_enter Try.func5, Try.ntmps5
  go_wp2_with fail
  refine (list_any 5 w (by decide)).mono ?_
  rintro e w1 ⟨v, rfl, hv, hb⟩
  rw [show nats (ones 5) = [0, 2] from by decide +kernel] at hv
  obtain ⟨A, c, rfl, hL⟩ := hv
  obtain ⟨b, off, rfl, hlt, c1⟩ := lie_int hL (k := 1) (by decide)
  have B1 := Lib.hid hb; clear hb
  obtain ⟨w2, hw2⟩ : ∃ w2, w2 = w1.alloc (.cells #[.int .i64 0, .int .i64 2, .int .i64 99] 3) := ⟨_, rfl⟩
  have hb2 : Below w1.heap.size w1 w2 := by rw [hw2]; exact below_alloc _ _
  have c2 : w2.cell? ⟨b, off + 1, none⟩ = some (.int .i64 2) := (hb2.cell (p := ⟨b, off + 1, none⟩) hlt).trans c1
  have B2 := Lib.hid (nextB B1.out hb2)
  have HI := Lib.hid (show IntsV w2 w2.heap.size (.slice (some ⟨w1.heap.size, 0, none⟩) 3 3) [0, 2, 99] by rw [hw2]; exact IntsV.new w1 [0, 2, 99])
  clear hL c1 hlt hb2
  go_wp2_with fail
  rw [← hw2]
  clear hw2
  refine (of_lit 5 w2 HI.out (by decide) (by decide +kernel)).mono ?_
  rintro e w' ⟨rfl, rfl⟩
  go_wp2_with fail
  refine (has_lit 5 4 (z := true) _ (by decide) (by decide) (by decide +kernel)).mono ?_
  rintro e w' ⟨rfl, rfl⟩
  go_wp2_with fail
  refine (has_lit 5 2 (z := false) _ (by decide) (by decide) (by decide +kernel)).mono ?_
  rintro e w' ⟨rfl, rfl⟩
  go_wp2_with fail
  refine (right_lit 65535 (z := true) _ (by decide) (by decide +kernel)).mono ?_
  rintro e w' ⟨rfl, rfl⟩
  go_wp2_with fail
  refine (right_lit 65536 (z := false) _ (by decide) (by decide +kernel)).mono ?_
  rintro e w' ⟨rfl, rfl⟩
  go_wp2_with fail
  go_ret
  exact ⟨rfl, B2.out⟩

end Go.Proofs.Ythffheakhadlhaa
