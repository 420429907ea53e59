/- The contracts of package table and of the reference for any list, the empty one too. -/
import Derived.Test.YtnelaeafjejjgaaRef18
import Derived.Test.YtnelaeafjejjgaaAll18
import Derived.Test.YtnelaeafjejjgaaMk18
namespace Go.Proofs.Ytnelaeafjejjgaa
set_option maxRecDepth 100000
open Go.RowKit

def atE (l : List Int) (R : Nat) : Int := if l.length = 0 then -1 else atN l R
def slE (l : List Int) (c : Int) (F T : Nat) : Nat := if l.length = 0 then 0 else cntR l c T - cntR l c F
theorem atE_any {B : Nat} {v : Value} {l : List Int} (r : Int) (R : Nat) (w : World) (h : CapV w B v l) (hm : l.length ≤ 1000) (hr : Rnd r R) (hR : R ≤ 2000000) :
    Calls Try.prog 37 #[v, .int .i64 r] w fun e w' => e = .returned (.int .i64 (atE l R)) ∧ Drw w w' := by
  rcases Nat.eq_zero_or_pos l.length with h0 | h0
  · obtain rfl := List.eq_nil_of_length_eq_zero h0
    exact at18_nil r w h.ints
  · rw [show atE l R = atN l R from if_neg (by omega)]
    exact at18_any r R w h.ints h0 hm hr (by omega)
theorem refAtE_any {B : Nat} {v : Value} {l : List Int} (r : Int) (R : Nat) (w : World) (h : CapV w B v l) (hm : l.length ≤ 1000) (hr : Rnd r R) (hR : R ≤ 2000000) :
    Calls Try.prog 38 #[v, .int .i64 r] w fun e w' => e = .returned (.int .i64 (atE l R)) ∧ Drw w w' := by
  rcases Nat.eq_zero_or_pos l.length with h0 | h0
  · obtain rfl := List.eq_nil_of_length_eq_zero h0
    exact refAt18_nil r w h.ints
  · rw [show atE l R = atN l R from if_neg (by omega)]
    exact refAt18_any r R w h.ints h0 hm hr (by omega)
theorem slE_any {B : Nat} {v : Value} {l : List Int} (c f t : Int) (F T : Nat) (w : World) (h : CapV w B v l) (hm : l.length ≤ 1000) (hf : Rnd f F) (hF : F ≤ 2000000) (ht : Rnd t T) (hT : T ≤ 2000000) :
    Calls Try.prog 41 #[v, .int .i64 c, .int .i64 f, .int .i64 t] w fun e w' => e = .returned (.int .i64 (slE l c F T : Nat)) ∧ Drw w w' := by
  rcases Nat.eq_zero_or_pos l.length with h0 | h0
  · obtain rfl := List.eq_nil_of_length_eq_zero h0
    exact slots18_nil c f t w h.ints
  · rw [show slE l c F T = cntR l c T - cntR l c F from if_neg (by omega)]
    exact slots18_any c f t F T w h h0 hm hf (by omega) ht (by omega)
theorem refSlE_any {B : Nat} {v : Value} {l : List Int} (c f t : Int) (F T : Nat) (w : World) (h : CapV w B v l) (hm : l.length ≤ 1000) (hf : Rnd f F) (hF : F ≤ 2000000) (ht : Rnd t T) (hT : T ≤ 2000000) :
    Calls Try.prog 42 #[v, .int .i64 c, .int .i64 f, .int .i64 t] w fun e w' => e = .returned (.int .i64 (slE l c F T : Nat)) ∧ Drw w w' := by
  rcases Nat.eq_zero_or_pos l.length with h0 | h0
  · obtain rfl := List.eq_nil_of_length_eq_zero h0
    exact refSlots18_nil c f t F T w h.ints hf ht
  · rw [show slE l c F T = cntR l c T - cntR l c F from if_neg (by omega)]
    exact refSlots18_any c f t F T w h.ints h0 hm hf (by omega) ht (by omega)

/-- A number held between -5 and 2^20. -/
theorem clamp (r : Int) : ∃ g f : Int, ∃ F : Nat, (if r < -5 then -5 else r) = g ∧ (if 1048576 < g then 1048576 else g) = f ∧ Rnd f F ∧ F ≤ 1048576 := by
  refine ⟨_, _, _, rfl, rfl, rnd_of _, ?_⟩
  split <;> omega
/-- One of two. -/
theorem two_ints {w : World} {b : Nat} {x y : Int} (h0 : w.cell? ⟨b, 0, none⟩ = some (.int .i64 x)) (h1 : w.cell? ⟨b, 1, none⟩ = some (.int .i64 y)) {j : Nat} (hj : j < 2) :
    ∃ z, w.cell? ⟨b, j, none⟩ = some (.int .i64 z) := by
  rcases (by omega : j = 0 ∨ j = 1) with rfl | rfl
  · exact ⟨x, h0⟩
  · exact ⟨y, h1⟩
theorem two_lists {w : World} {b B : Nat} {u v : Value} {L T : List Int} (h0 : w.cell? ⟨b, 0, none⟩ = some u) (h1 : w.cell? ⟨b, 1, none⟩ = some v) (hu : CapV w B u L) (hv : CapV w B v T) (hL : L.length ≤ 80) (hT : T.length ≤ 80) {j : Nat} (hj : j < 2) :
    ∃ z X, w.cell? ⟨b, j, none⟩ = some z ∧ CapV w B z X ∧ X.length ≤ 80 := by
  rcases (by omega : j = 0 ∨ j = 1) with rfl | rfl
  · exact ⟨u, L, h0, hu, hL⟩
  · exact ⟨v, T, h1, hv, hT⟩

end Go.Proofs.Ytnelaeafjejjgaa
