/- Code that ends at its second instruction, whatever stands behind; as plain functions. -/
import Derived.Test.YtjnlgmjcabbaaaaLine8
import Derived.Test.YtjnlgmjcabbaaaaSeat8
namespace Go.Proofs.Ytjnlgmjcabbaaaa
set_option maxRecDepth 100000
open Go.RowKit

def tailI (p : Nat × Nat) : Int × Int := ((seatOp p.1 : Nat), if 1 < argZ (seatOp p.1 : Nat) then 0 else seatArg p.1 p.2)
def ef (e : Int) (L : List (Nat × Nat)) : CodeL := [(1, 1), (e, 0)] ++ L.map tailI
theorem ef_length (e : Int) (L : List (Nat × Nat)) : (ef e L).length = L.length + 2 := by simp [ef]
theorem tail_i32 (p : Nat × Nat) : I32 (tailI p).2 := by
  unfold tailI
  show I32 (if _ then _ else _)
  split
  · exact i32_zero
  · exact seat_range _ _
theorem ef_i32 {e : Int} (L : List (Nat × Nat)) : ∀ x ∈ ef e L, I32 x.2 := by
  intro x hx
  unfold ef at hx
  rcases List.mem_append.1 hx with hx | hx
  · simp at hx; rcases hx with rfl | rfl
    · exact ⟨by decide, by decide⟩
    · exact i32_zero
  · obtain ⟨p, _, rfl⟩ := List.mem_map.1 hx
    exact tail_i32 p
theorem tail_right (p : Nat × Nat) : rightB (tailI p).1 (tailI p).2 = true := by
  unfold tailI
  show rightB (seatOp p.1 : Nat) (if _ then _ else _) = true
  split
  · rename_i h
    have hk : knownB (seatOp p.1 : Nat) = true := (knownB_iff _).2 (by unfold seatOp; omega)
    unfold rightB; rw [hk, if_neg (by omega)]; rfl
  · exact seat_right p.1 p.2
theorem tail_bound (p : Nat × Nat) (n : Int) (hn : 0 < n) : ¬ boundZ n 1 1 1 (argZ (tailI p).1) ≤ (tailI p).2 := by
  have hr := argZ_range (seatOp p.1 : Nat)
  unfold tailI
  show ¬ boundZ n 1 1 1 (argZ (seatOp p.1 : Nat)) ≤ (if _ then _ else _)
  split
  · rename_i h
    unfold boundZ
    split
    · omega
    · split
      · omega
      · split
        · omega
        · split
          · omega
          · split <;> omega
  · rename_i h
    have : boundZ n 1 1 1 (argZ (seatOp p.1 : Nat)) = 9223372036854775807 := by
      unfold boundZ
      rw [if_neg (by omega), if_neg (by omega), if_neg (by omega), if_neg (by omega), if_neg (by omega)]
    rw [this]
    have := seat_range p.1 p.2
    unfold I32 at this
    omega
theorem ef_valid (e : Int) (L : List (Nat × Nat)) (he : e = 25 ∨ e = 26) : invalidO (ef e L) 1 1 1 = none := by
  unfold invalidO
  refine firstO_all _ _ (fun j _ hj => ?_)
  match j, hj with
  | 0, _ => rfl
  | 1, _ => rcases he with rfl | rfl <;> rfl
  | j + 2, hj =>
    have hj2 : j < L.length := by rw [ef_length] at hj; omega
    have hg : (ef e L).getD (j + 2) (0, 0) = tailI (L[j]) := by
      unfold ef
      rw [List.getD_eq_getElem?_getD, List.getElem?_append_right (by simp)]
      simp [hj2]
    unfold badI cop carg
    rw [hg, tail_right, decide_eq_false (tail_bound _ _ (by rw [ef_length]; omega))]; rfl
def depE (j : Nat) : Int := if j = 0 then 0 else 1
theorem ef_all (e : Int) (L : List (Nat × Nat)) (he : e = 25 ∨ e = 26) (hl : L.length ≤ 20) : funcZ (ef e L) 1 1 1 = (0, 0) ∧ (depthsZ (ef e L)).length = L.length + 2 ∧
    (depthsZ (ef e L)).getD 0 0 = 0 ∧ (depthsZ (ef e L)).getD 1 0 = 1 ∧ ∀ i, 2 ≤ i → i < L.length + 2 → (depthsZ (ef e L)).getD i 0 = -1 := by
  have hlen := ef_length e L
  have hs : Straight (ef e L) depE 1 := by
    intro j hj
    obtain rfl : j = 0 := by omega
    have c0 : cop (ef e L) 0 = 1 := rfl
    refine ⟨by omega, rfl, ?_, ?_, by decide⟩
    · rw [c0]; decide +kernel
    · rw [c0]; decide +kernel
  obtain ⟨s, h1, h2⟩ := St.run (f := ef e L) (dep := depE) (by omega) rfl 1 (by omega) hs
  have c1 : cop (ef e L) 1 = e := rfl
  have hn : nextL (ef e L) 1 = [] := by unfold nextL; rw [c1]; rcases he with rfl | rfl <;> rfl
  have h3 := h1.ends (by omega) hn (by rw [c1]; rcases he with rfl | rfl <;> decide +kernel) (by rw [c1]; rcases he with rfl | rfl <;> decide +kernel)
  have hff := h2.trans h3
  have hb := bad_none h1 hff
  have hD : depthsZ (ef e L) = s.D := by
    unfold depthsZ
    rw [if_pos ?_, hff]
    have hv : invalidO (ef e L) 9223372036854775807 9223372036854775807 9223372036854775807 = none := by
      unfold invalidO
      refine firstO_all _ _ (fun j h5 h6 => ?_)
      have h7 := firstO_none _ _ _ (ef_valid e L he) j h5 h6
      unfold badI at h7 ⊢
      rw [Bool.or_eq_false_iff, decide_eq_false_iff_not] at h7 ⊢
      refine ⟨h7.1, ?_⟩
      have h8 := h7.2
      unfold boundZ at h8 ⊢
      have hi := (ef_i32 (e := e) L)
      by_cases z2 : argZ (cop (ef e L) j) = 2
      · rw [if_pos z2] at h8 ⊢; exact h8
      · rw [if_neg z2] at h8 ⊢
        by_cases z3 : argZ (cop (ef e L) j) = 3
        · rw [if_pos z3] at h8 ⊢; exact h8
        · rw [if_neg z3] at h8 ⊢
          have hc : carg (ef e L) j < 9223372036854775807 := by
            have hj : j < (ef e L).length := by omega
            have := hi ((ef e L)[j]) (List.getElem_mem hj)
            unfold carg
            rw [List.getD_eq_getElem?_getD, List.getElem?_eq_getElem hj]
            unfold I32 at this
            show ((ef e L)[j]).2 < _
            omega
          split <;> (try split) <;> (try split) <;> omega
    rw [funcZ_of' (by omega) (by omega) hv, hb]; rfl
  refine ⟨by rw [funcZ_of' (by omega) (by omega) (ef_valid e L he), hb]; rfl, by rw [hD, h1.dl, hlen], ?_, ?_, fun i h5 h6 => ?_⟩
  · rw [hD, h1.d 0 (by omega), if_pos (by omega)]; rfl
  · rw [hD, h1.d 1 (by omega), if_pos (by omega)]; rfl
  · rw [hD, h1.d i (by omega), if_neg (by omega)]
where
  funcZ_of' {f : CodeL} {fs ls gs : Int} (h1 : f.length ≤ 512) (h2 : 0 < f.length) (h3 : invalidO f fs ls gs = none) : funcZ f fs ls gs = resZ none (badO f) := by
    unfold funcZ; rw [if_neg (by omega), if_neg (by omega), h3]

end Go.Proofs.Ytjnlgmjcabbaaaa
