/- Those who wait for a list of futures: plain facts for the laws on parks. -/
import Derived.Test.YtboelofkbhgmfaaKn20
namespace Go.Proofs.Ytboelofkbhgmfaa
set_option maxRecDepth 100000
open Go.RowKit

/-- Those who wait: k of them. -/
def mW (k : Nat) : List (TK × Int) := (List.range k).map fun j : Nat => (idT (j : Int), (j : Int))
theorem mW_len (k : Nat) : (mW k).length = k := by simp [mW]
theorem mW_succ (k : Nat) : mW (k + 1) = mW k ++ [(idT (k : Int), (k : Int))] := by simp [mW, List.range_succ]
theorem mW_bd (k : Nat) (hk : k ≤ 1000) : ∀ x ∈ mW k, -2147483648 ≤ x.2 ∧ x.2 ≤ 2147483647 := by
  intro x hx
  obtain ⟨j, hj, rfl⟩ := List.mem_map.1 hx
  have := List.mem_range.1 hj
  show -2147483648 ≤ (j : Int) ∧ (j : Int) ≤ 2147483647
  omega
theorem mk_16 (L : List FutX) (hl : L.length < 16) (x : FutX) : mkB [16] [L] 0 = true ∧ mkId [16] [L] 0 = (L.length : Nat) ∧ mkL [16] [L] 0 x = [L ++ [x]] := by
  have h0 : mkB [16] [L] 0 = true := by simp [mkB, cntZ, quoZ]; omega
  exact ⟨h0, by unfold mkId; rw [h0]; simp [cntZ], by unfold mkL; rw [h0]; simp⟩
/-- One list of futures, i of them; i tasks wait. -/
def NbK (w wr : World) (a f i : Nat) : Prop := ∃ L : List FutX, L.length = i ∧ PfK w wr a f [16] [L] (mW i)
theorem set_one (L : List FutX) (id : Int) (f : FutX → FutX) : ∃ L', endL [L] id f = [L'] ∧ L'.length = L.length := by
  unfold endL setZ
  split
  · split
    · generalize (labelZ id).toNat = p
      match p with
      | 0 => exact ⟨_, rfl, by simp⟩
      | p + 1 => exact ⟨L, rfl, rfl⟩
    · exact ⟨L, rfl, rfl⟩
  · exact ⟨L, rfl, rfl⟩
theorem part_len {X : Type} (p : X → Bool) (l : List X) : (l.filter p).length + (l.filter fun x => !p x).length = l.length := by
  induction l with
  | nil => rfl
  | cons x l ih => cases h : p x <;> simp [List.filter_cons, h] <;> omega

theorem sy_no {Ls : List (List FutX)} {M : List (TK × Int)} : ∀ x ∈ syP Ls M, setB Ls x.2 = false := by
  intro x hx
  have := (List.mem_filter.1 hx).2
  simpa using this
theorem wk_none {Ls : List (List FutX)} {M : List (TK × Int)} (h : ∀ x ∈ M, setB Ls x.2 = false) : wkP Ls M = [] ∧ syP Ls M = M := by
  unfold wkP syP
  refine ⟨?_, List.filter_eq_self.2 fun x hx => by simp [h x hx]⟩
  rw [List.filter_eq_nil_iff.2 fun x hx => by simp [h x hx]]; rfl
theorem sizes {Ls : List (List FutX)} {M : List (TK × Int)} {L1 L2 : List SlotX} {n : Nat} (e1 : L1.map Prod.fst = wkP Ls (M.take n)) (e2 : L2.map Prod.fst = (M.drop n).map Prod.fst) (hn : n ≤ M.length) :
    L1.length + (syP Ls (M.take n)).length = n ∧ L2.length = M.length - n := by
  have h1 : L1.length = (wkP Ls (M.take n)).length := by rw [← e1, List.length_map]
  have h2 := part_len (fun x => setB Ls x.2) (M.take n)
  rw [List.length_take] at h2
  have h3 := congrArg List.length e2
  rw [List.length_map, List.length_map, List.length_drop] at h3
  unfold wkP at h1
  rw [List.length_map] at h1
  unfold syP
  omega

end Go.Proofs.Ytboelofkbhgmfaa
