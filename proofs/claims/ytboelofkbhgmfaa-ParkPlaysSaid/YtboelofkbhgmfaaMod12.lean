/- What a store of things by label answers, as plain functions. -/
import Derived.Test.YtboelofkbhgmfaaIdent
namespace Go.Proofs.Ytboelofkbhgmfaa
set_option maxRecDepth 100000

section
variable {X Y : Type}
def cntZ (Ls : List (List X)) (p : Int) : Nat := if 0 ≤ p ∧ p < Ls.length then (Ls.getD p.toNat []).length else 0
def quoZ (qs : List Int) (p : Int) : Int := if 0 ≤ p ∧ p < qs.length then qs.getD p.toNat 0 else 0
def mkB (qs : List Int) (Ls : List (List X)) (p : Int) : Bool := decide (0 ≤ p) && decide (p < Ls.length) && decide ((cntZ Ls p : Int) < quoZ qs p)
def mkId (qs : List Int) (Ls : List (List X)) (p : Int) : Int := if mkB qs Ls p then p * 65536 + cntZ Ls p else 0
def mkL (qs : List Int) (Ls : List (List X)) (p : Int) (x : X) : List (List X) := if mkB qs Ls p then Ls.set p.toNat (Ls.getD p.toNat [] ++ [x]) else Ls
def isIn (Ls : List (List X)) (id : Int) : Bool := validB id Ls.length && decide (numberZ id < (cntZ Ls (labelZ id) : Int))
def itmZ (Ls : List (List X)) (id : Int) (d : X) : X := if isIn Ls id then (Ls.getD (labelZ id).toNat []).getD (numberZ id).toNat d else d
def setZ (Ls : List (List X)) (id : Int) (f : X → X) : List (List X) := if isIn Ls id then Ls.set (labelZ id).toNat ((Ls.getD (labelZ id).toNat []).modify (numberZ id).toNat f) else Ls

variable {qs : List Int} {Ls : List (List X)} {p id : Int}
theorem cntZ_in {k : Nat} (h : k < Ls.length) : cntZ Ls (k : Int) = Ls[k].length := by
  unfold cntZ; rw [if_pos (by omega)]; simp [h]
theorem cntZ_lo (h : p < 0) : cntZ Ls p = 0 := if_neg (by omega)
theorem cntZ_hi (h : (Ls.length : Int) ≤ p) : cntZ Ls p = 0 := if_neg (by omega)
theorem quoZ_in {k : Nat} (h : k < qs.length) : quoZ qs (k : Int) = qs[k] := by
  unfold quoZ; rw [if_pos (by omega)]; simp [h]
theorem quoZ_out (h : p < 0 ∨ (qs.length : Int) ≤ p) : quoZ qs p = 0 := if_neg (by omega)
theorem mkB_in {k : Nat} (h : k < Ls.length) (hq : qs.length = Ls.length) : mkB qs Ls (k : Int) = decide ((Ls[k].length : Int) < qs[k]'(by omega)) := by
  unfold mkB; rw [cntZ_in h, quoZ_in (by omega)]; simp [h]
theorem mkB_out (h : p < 0 ∨ (Ls.length : Int) ≤ p) : mkB qs Ls p = false := by
  unfold mkB
  rcases h with h | h
  · rw [decide_eq_false (by omega : ¬ 0 ≤ p)]; rfl
  · rw [decide_eq_false (by omega : ¬ p < (Ls.length : Int))]; simp
theorem mkB_yes (h : mkB qs Ls p = true) (hq : qs.length = Ls.length) : ∃ k : Nat, p = k ∧ ∃ hk : k < Ls.length, (Ls[k].length : Int) < qs[k]'(by omega) := by
  by_cases h1 : p < 0 ∨ (Ls.length : Int) ≤ p
  · rw [mkB_out h1] at h; cases h
  · refine ⟨p.toNat, by omega, by omega, ?_⟩
    have hk : p.toNat < Ls.length := by omega
    rw [show p = ((p.toNat : Nat) : Int) from by omega, mkB_in hk hq] at h
    simpa using h
theorem mkId_no (h : mkB qs Ls p = false) : mkId qs Ls p = 0 := by unfold mkId; rw [h]; rfl
theorem mkL_no (h : mkB qs Ls p = false) (x : X) : mkL qs Ls p x = Ls := by unfold mkL; rw [h]; rfl
theorem mkId_in {k : Nat} (h : mkB qs Ls (k : Int) = true) (hk : k < Ls.length) : mkId qs Ls (k : Int) = (k : Int) * 65536 + (Ls[k].length : Nat) := by
  unfold mkId; rw [h, if_pos rfl, cntZ_in hk]
theorem mkL_in {k : Nat} (h : mkB qs Ls (k : Int) = true) (hk : k < Ls.length) (x : X) : mkL qs Ls (k : Int) x = Ls.set k (Ls[k] ++ [x]) := by
  unfold mkL; rw [h, if_pos rfl]; simp [hk]
theorem mkL_length (x : X) : (mkL qs Ls p x).length = Ls.length := by unfold mkL; split <;> simp
theorem setZ_length (f : X → X) : (setZ Ls id f).length = Ls.length := by unfold setZ; split <;> simp
theorem setZ_no (h : isIn Ls id = false) (f : X → X) : setZ Ls id f = Ls := by unfold setZ; rw [h]; rfl
theorem itmZ_no (h : isIn Ls id = false) (d : X) : itmZ Ls id d = d := by unfold itmZ; rw [h]; rfl
/-- Whether a thing is there, and where. -/
theorem isIn_cases (Ls : List (List X)) (id : Int) (hn : Ls.length ≤ 16) :
    (validB id Ls.length = false ∧ isIn Ls id = false) ∨
    ∃ k : Nat, labelZ id = k ∧ ∃ hk : k < Ls.length, ∃ j : Nat, numberZ id = j ∧ j < 65536 ∧ validB id Ls.length = true ∧
      ((Ls[k].length ≤ j ∧ isIn Ls id = false) ∨ ∃ hj : j < Ls[k].length, isIn Ls id = true ∧ (∀ d, itmZ Ls id d = Ls[k][j]) ∧ ∀ f, setZ Ls id f = Ls.set k (Ls[k].set j (f Ls[k][j]))) := by
  cases hv : validB id Ls.length with
  | false => exact .inl ⟨rfl, by unfold isIn; rw [hv]; rfl⟩
  | true =>
    right
    have hv' := hv
    unfold validB at hv'
    simp only [Bool.and_eq_true, decide_eq_true_eq] at hv'
    obtain ⟨h0, h1⟩ := hv'
    rw [show min (Ls.length : Int) 16 = (Ls.length : Int) from by omega] at h1
    have e1 := labelZ_pos h0
    have e2 := numberZ_pos h0
    have hk0 : 0 ≤ labelZ id := by rw [e1]; omega
    have hk : (labelZ id).toNat < Ls.length := by omega
    have hlk : labelZ id = ((labelZ id).toNat : Int) := by omega
    have hj0 : 0 ≤ numberZ id ∧ numberZ id < 65536 := by rw [e2]; omega
    refine ⟨(labelZ id).toNat, hlk, hk, (numberZ id).toNat, by omega, by omega, rfl, ?_⟩
    have hc : cntZ Ls (labelZ id) = Ls[(labelZ id).toNat].length := by
      have := cntZ_in hk
      rwa [← hlk] at this
    by_cases hj : (numberZ id).toNat < Ls[(labelZ id).toNat].length
    · right
      have hi : isIn Ls id = true := by
        unfold isIn; rw [hv, hc, decide_eq_true (by omega)]; rfl
      refine ⟨hj, hi, fun d => ?_, fun f => ?_⟩
      · unfold itmZ
        rw [if_pos hi]
        simp [hk, hj]
      · unfold setZ
        rw [if_pos hi]
        have e : Ls.getD (labelZ id).toNat [] = Ls[(labelZ id).toNat] := by simp [hk]
        rw [e]
        congr 1
        apply List.ext_getElem?
        intro i
        rw [List.getElem?_modify, List.getElem?_set]
        by_cases hi2 : (numberZ id).toNat = i
        · subst hi2; simp [hj]
        · simp [hi2]
    · left
      refine ⟨by omega, ?_⟩
      unfold isIn; rw [hv, hc, decide_eq_false (by omega)]; rfl
/-- A quota, as the nearest number that one may be. -/
def clampZ (q : Int) : Int := min (max q 0) 4096
def quotasZ (l : List Int) : List Int := (l.take 16).map clampZ
theorem clampZ_bd (q : Int) : 0 ≤ clampZ q ∧ clampZ q ≤ 4096 := by unfold clampZ; omega
/-- What a store is bound to. -/
structure Bnd (qs : List Int) (Ls : List (List X)) : Prop where
  n : Ls.length ≤ 16
  q : qs.length = Ls.length
  hi : ∀ q ∈ qs, 0 ≤ q ∧ q ≤ 4096
  le : ∀ k (h : k < Ls.length), Ls[k].length ≤ 4096
theorem Bnd.mk' (h : Bnd qs Ls) (x : X) : Bnd qs (mkL qs Ls p x) := by
  cases hb : mkB qs Ls p with
  | false => rw [mkL_no hb]; exact h
  | true =>
    obtain ⟨k, rfl, hk, hlt⟩ := mkB_yes hb h.q
    rw [mkL_in hb hk]
    refine ⟨by simpa using h.n, by simpa using h.q, h.hi, fun j hj => ?_⟩
    rw [List.getElem_set]
    split
    · have := h.hi _ (List.getElem_mem (by rw [h.q]; exact hk : k < qs.length))
      simp; omega
    · exact h.le j (by simpa using hj)
theorem Bnd.set' (h : Bnd qs Ls) (f : X → X) : Bnd qs (setZ Ls id f) := by
  rcases isIn_cases Ls id h.n with ⟨_, h2⟩ | ⟨k, _, hk, j, _, _, _, h2⟩
  · rw [setZ_no h2]; exact h
  · rcases h2 with ⟨_, h2⟩ | ⟨hj, _, _, h3⟩
    · rw [setZ_no h2]; exact h
    · rw [h3]
      refine ⟨by simpa using h.n, by simpa using h.q, h.hi, fun i hi => ?_⟩
      rw [List.getElem_set]
      split
      · simpa using h.le k hk
      · exact h.le i (by simpa using hi)
theorem Bnd.new (l : List Int) : Bnd (quotasZ l) (List.replicate (min l.length 16) ([] : List X)) :=
  ⟨by simp; omega, by simp [quotasZ]; omega, fun q hq => by obtain ⟨x, _, rfl⟩ := List.mem_map.1 hq; exact clampZ_bd x, fun k h => by simp⟩
end

end Go.Proofs.Ytboelofkbhgmfaa
