/- What holds of the flow all along: each instruction is listed at most once. -/
import Derived.Test.YtjnlgmjcabbaaaaNext8
namespace Go.Proofs.Ytjnlgmjcabbaaaa
set_option maxRecDepth 100000
open Go.RowKit

def cnt : List Int → Nat
  | [] => 0
  | x :: r => (if x = -1 then 1 else 0) + cnt r
theorem cnt_set : ∀ (l : List Int) (i : Nat) (d : Int), i < l.length → l.getD i 0 = -1 → d ≠ -1 → cnt (l.set i d) + 1 = cnt l
  | [], i, d, h, _, _ => by simp at h
  | x :: r, 0, d, _, h, hd => by
    have hx : x = -1 := h
    show (if d = -1 then 1 else 0) + cnt r + 1 = (if x = -1 then 1 else 0) + cnt r
    rw [if_neg hd, if_pos hx]; omega
  | x :: r, i + 1, d, h, hx, hd => by
    have := cnt_set r i d (by simpa using h) hx hd
    show (if x = -1 then 1 else 0) + cnt (r.set i d) + 1 = (if x = -1 then 1 else 0) + cnt r
    omega
theorem cnt_all (n : Nat) : cnt (List.replicate n (-1)) = n := by
  induction n with
  | zero => rfl
  | succ n ih => show (if (-1 : Int) = -1 then 1 else 0) + cnt (List.replicate n (-1)) = n + 1; rw [ih]; simp; omega

structure Okf (n : Nat) (s : Fl) : Prop where
  dl : s.D.length = n
  bl : s.Bd.length = n
  kl : ∀ k ∈ s.K, k < n
  ct : s.K.length + cnt s.D = n
  rg : ∀ d ∈ s.D, -1 ≤ d ∧ d ≤ 32
theorem Okf.start (n : Nat) : Okf n (startF n) := ⟨by simp [startF], by simp [startF], by simp [startF], by simp [startF, cnt_all], by
  intro d hd
  have := List.eq_of_mem_replicate hd
  omega⟩
theorem Okf.reach {n : Nat} {s : Fl} (h : Okf n s) (fr t : Nat) (d : Int) (ht : t ≤ n) (hd : 0 ≤ d ∧ d ≤ 32) : Okf n (reachF n s fr t d) := by
  unfold reachF
  split
  · exact ⟨h.dl, by simpa using h.bl, h.kl, h.ct, h.rg⟩
  · rename_i h1
    split
    · rename_i h2
      refine ⟨by simpa using h.dl, h.bl, ?_, ?_, ?_⟩
      · intro k hk
        rcases List.mem_append.1 hk with hk | hk
        · exact h.kl k hk
        · have : k = t := by simpa using hk
          omega
      · have := cnt_set s.D t d (by rw [h.dl]; omega) h2 (by omega)
        have := h.ct
        simp only [List.length_append, List.length_singleton]
        omega
      · intro x hx
        rcases List.mem_or_eq_of_mem_set hx with hx | hx
        · exact h.rg x hx
        · omega
    · split
      · exact h
      · exact ⟨h.dl, by simpa using h.bl, h.kl, h.ct, h.rg⟩
theorem Okf.bad {n : Nat} {s : Fl} (h : Okf n s) (k : Nat) : Okf n { s with Bd := s.Bd.set k true } := ⟨h.dl, by simpa using h.bl, h.kl, h.ct, h.rg⟩
theorem Okf.at {n : Nat} {s : Fl} (h : Okf n s) (k : Nat) : -1 ≤ s.D.getD k 0 ∧ s.D.getD k 0 ≤ 32 := by
  rw [List.getD_eq_getElem?_getD]
  cases hk : s.D[k]? with
  | none => simp
  | some x => exact h.rg x (List.mem_of_getElem? hk)
theorem Okf.le {n : Nat} {s : Fl} (h : Okf n s) : s.K.length ≤ n := by have := h.ct; omega

/-- Code that may be followed: where its jumps lead. -/
def Leads (f : CodeL) : Prop := ∀ k, k < f.length → cop f k = 10 ∨ cop f k = 11 → 0 ≤ carg f k ∧ carg f k < f.length
theorem next_le {f : CodeL} (h : Leads f) {k : Nat} (hk : k < f.length) : ∀ t ∈ nextL f k, t ≤ f.length := by
  intro t ht
  unfold nextL at ht
  split at ht
  · cases ht
  · split at ht
    · rename_i h10
      have := h k hk (.inl h10)
      have : t = (carg f k).toNat := by simpa using ht
      omega
    · split at ht
      · rename_i h11
        have := h k hk (.inr h11)
        have : t = k + 1 ∨ t = (carg f k).toNat := by simpa using ht
        omega
      · have : t = k + 1 := by simpa using ht
        omega
theorem run_end (f : CodeL) (m i : Nat) (s : Fl) (h : ¬ i < s.K.length) : runF f m i s = s := by
  cases m with
  | zero => rfl
  | succ m => show (if i < s.K.length then _ else s) = s; rw [if_neg h]
theorem run_step (f : CodeL) (m i : Nat) (s : Fl) (h : i < s.K.length) : runF f (m + 1) i s = runF f m (i + 1) (stepF f s (s.K.getD i 0)) := by
  show (if i < s.K.length then _ else s) = _; rw [if_pos h]

end Go.Proofs.Ytjnlgmjcabbaaaa
