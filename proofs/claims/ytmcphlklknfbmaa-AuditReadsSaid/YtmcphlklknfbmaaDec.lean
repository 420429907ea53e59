/- Plain facts about reading numbers: what a reader makes of a list of bytes. Nothing here speaks of the program. -/
import Derived.Test.YtmcphlklknfbmaaEnc
namespace Go.Proofs.Ytmcphlklknfbmaa
set_option maxRecDepth 100000
open Go

def IsBytes (l : List Int) : Prop := ∀ u ∈ l, 0 ≤ u ∧ u ≤ 255

theorem IsBytes.drop {l : List Int} (h : IsBytes l) (k : Nat) : IsBytes (l.drop k) := fun u hu => h u (List.mem_of_mem_drop hu)
theorem IsBytes.append {l m : List Int} (h : IsBytes l) (k : IsBytes m) : IsBytes (l ++ m) := fun u hu => (List.mem_append.1 hu).elim (h u) (k u)

theorem encAt_bytes (x k : Nat) : IsBytes (encAt x k) := by
  induction k with
  | zero => intro u hu; simp [encAt] at hu; subst hu; omega
  | succ k ih =>
    intro u hu
    simp only [encAt, List.mem_cons] at hu
    rcases hu with rfl | hu
    · omega
    · exact ih u hu
theorem enc_bytes (x : Nat) : IsBytes (enc x) := encAt_bytes x _

/-- The number that stands at the beginning of a list, after i bytes that made n: its value, its size, and the error. -/
def decFrom (i n : Nat) : List Int → Nat × Nat × Int
  | [] => (0, 0, 21)
  | c :: r => if (i = 0 ∧ c = 128) ∨ 144115188075855871 < n then (0, 0, 20)
      else if c < 128 then (n * 128 + c.toNat % 128, i + 1, 0)
      else decFrom (i + 1) (n * 128 + c.toNat % 128) r

theorem decFrom_lt (l : List Int) : ∀ i n, (decFrom i n l).1 < 18446744073709551616 := by
  induction l with
  | nil => intro i n; simp [decFrom]
  | cons c r ih =>
    intro i n
    unfold decFrom
    split
    · simp
    · split
      · simp only; omega
      · exact ih _ _

theorem decFrom_size (l : List Int) : ∀ i n, (decFrom i n l).2.2 = 0 → i < (decFrom i n l).2.1 ∧ (decFrom i n l).2.1 ≤ i + l.length := by
  induction l with
  | nil => intro i n h; simp [decFrom] at h
  | cons c r ih =>
    intro i n
    unfold decFrom
    split
    · intro h; simp at h
    · split
      · intro _; simp
      · intro h
        have := ih _ _ h
        simp only [List.length_cons]; omega

theorem decFrom_err (l : List Int) : ∀ i n, (decFrom i n l).2.2 = 0 ∨ ((decFrom i n l).2.2 = 20 ∨ (decFrom i n l).2.2 = 21) ∧ (decFrom i n l).1 = 0 ∧ (decFrom i n l).2.1 = 0 := by
  induction l with
  | nil => intro i n; simp [decFrom]
  | cons c r ih =>
    intro i n
    unfold decFrom
    split
    · simp
    · split
      · simp
      · exact ih _ _

/-- A reader's state: what is left, and the error. -/
abbrev RS := List Int × Int

/-- What a look for a number answers, and what is left. -/
def numR (most : Nat) (st : RS) : Nat × RS :=
  if st.2 ≠ 0 then (0, st)
  else if (decFrom 0 0 st.1).2.2 ≠ 0 then (0, [], (decFrom 0 0 st.1).2.2)
  else if most < (decFrom 0 0 st.1).1 then (0, [], 22)
  else ((decFrom 0 0 st.1).1, st.1.drop (decFrom 0 0 st.1).2.1, 0)

/-- What a look for a lump answers, and what is left. -/
def lumpR (most : Int) (st : RS) : List Int × RS :=
  let a := numR (max most 0).toNat st
  if a.2.2 ≠ 0 then ([], a.2)
  else if a.2.1.length < a.1 then ([], [], 21)
  else (a.2.1.take a.1, a.2.1.drop a.1, 0)

end Go.Proofs.Ytmcphlklknfbmaa
