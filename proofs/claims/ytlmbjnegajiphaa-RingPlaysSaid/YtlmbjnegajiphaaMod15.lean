/- A ring of slots as a list, plain. -/
import Derived.Test.YtlmbjnegajiphaaRows
namespace Go.Proofs.Ytlmbjnegajiphaa
set_option maxRecDepth 100000

section
variable {X : Type}
/-- What the slots from the top on hold, cnt of them. -/
def ringL (C : Nat → X) (R top cnt : Nat) : List X := (List.range cnt).map fun n => C ((top + n) % R)
def upd (C : Nat → X) (i : Nat) (x : X) : Nat → X := fun k => if k = i then x else C k
theorem upd_self (C : Nat → X) (i : Nat) (x : X) : upd C i x i = x := if_pos rfl
theorem upd_ne (C : Nat → X) {i k : Nat} (x : X) (h : k ≠ i) : upd C i x k = C k := if_neg h
theorem upd_map (C : Nat → X) (R i : Nat) (x : X) : ((List.range R).map C).set i x = (List.range R).map (upd C i x) := by
  apply List.ext_getElem
  · simp
  · intro k h1 h2
    rw [List.getElem_set]
    simp only [List.getElem_map, List.getElem_range]
    by_cases e : i = k
    · subst e; rw [if_pos rfl, upd_self]
    · rw [if_neg e, upd_ne C x (Ne.symm e)]
theorem mod_ne {R a b : Nat} (hab : a < b) (hb : b < a + R) : b % R ≠ a % R := fun e => by
  have h := Nat.sub_mod_eq_zero_of_mod_eq e
  rw [Nat.mod_eq_of_lt (by omega)] at h
  omega
theorem ringL_length (C : Nat → X) (R top cnt : Nat) : (ringL C R top cnt).length = cnt := by simp [ringL]
theorem ringL_snoc (C : Nat → X) (R top cnt : Nat) : ringL C R top (cnt + 1) = ringL C R top cnt ++ [C ((top + cnt) % R)] := by simp [ringL, List.range_succ]
theorem ringL_cons (C : Nat → X) (R top cnt : Nat) (ht : top < R) : ringL C R top (cnt + 1) = C top :: ringL C R ((top + 1) % R) cnt := by
  unfold ringL
  rw [List.range_succ_eq_map, List.map_cons, List.map_map, Nat.add_zero, Nat.mod_eq_of_lt ht]
  congr 1
  apply List.map_congr_left
  intro n _
  simp only [Function.comp]
  congr 1
  rw [Nat.mod_add_mod]
  congr 1
  omega
theorem ringL_same {C D : Nat → X} {R top cnt : Nat} (h : ∀ n, n < cnt → C ((top + n) % R) = D ((top + n) % R)) : ringL C R top cnt = ringL D R top cnt := by
  unfold ringL
  apply List.map_congr_left
  intro n hn
  exact h n (List.mem_range.1 hn)
theorem ring_push (C : Nat → X) {R top cnt : Nat} (x : X) (h : cnt < R) : ringL (upd C ((top + cnt) % R) x) R top (cnt + 1) = ringL C R top cnt ++ [x] := by
  rw [ringL_snoc, upd_self]
  congr 1
  exact ringL_same fun n hn => upd_ne _ _ (mod_ne (a := top + n) (b := top + cnt) (by omega) (by omega)).symm
theorem ring_pop (C : Nat → X) {R top cnt : Nat} (z : X) (h : cnt < R) : ringL (upd C ((top + cnt) % R) z) R top cnt = ringL C R top cnt :=
  ringL_same fun n hn => upd_ne _ _ (mod_ne (a := top + n) (b := top + cnt) (by omega) (by omega)).symm
theorem ring_steal (C : Nat → X) {R top cnt : Nat} (z : X) (ht : top < R) (h : cnt < R) : ringL (upd C top z) R ((top + 1) % R) cnt = ringL C R ((top + 1) % R) cnt :=
  ringL_same fun n hn => upd_ne _ _ (by
    rw [Nat.mod_add_mod]
    intro e
    have := mod_ne (R := R) (a := top) (b := top + 1 + n) (by omega) (by omega)
    rw [Nat.mod_eq_of_lt ht] at this
    exact this e)
end

end Go.Proofs.Ytlmbjnegajiphaa
