/- Which code may run, as plain functions of lists: the first instruction that may not stand there, the flow, the first bad one. -/
import Derived.Test.YtjnlgmjcabbaaaaIns8
namespace Go.Proofs.Ytjnlgmjcabbaaaa
set_option maxRecDepth 100000
open Go.RowKit

/-- A function's code: operations and arguments. -/
abbrev CodeL := List (Int × Int)
def cop (f : CodeL) (k : Nat) : Int := (f.getD k (0, 0)).1
def carg (f : CodeL) (k : Nat) : Int := (f.getD k (0, 0)).2
/-- What lies in memory of it. -/
def flat (f : CodeL) : List Value := f.flatMap fun p => [.int .i64 p.1, .int .i32 p.2]
def RowI (w : World) (B : Nat) (v : Value) (f : CodeL) : Prop := ∃ A c, v = .slice A f.length c ∧ Lies w B A (flat f) ∧ ∀ p ∈ f, I32 p.2

theorem flat_length (f : CodeL) : (flat f).length = f.length * 2 := by
  unfold flat
  induction f with
  | nil => rfl
  | cons p r ih => rw [List.flatMap_cons, List.length_append, ih]; simp; omega
theorem flat_at : ∀ (f : CodeL) (k : Nat), k < f.length → (flat f)[k * 2]? = some (.int .i64 (cop f k)) ∧ (flat f)[k * 2 + 1]? = some (.int .i32 (carg f k))
  | [], k, h => by simp at h
  | p :: r, 0, _ => ⟨rfl, rfl⟩
  | p :: r, k + 1, h => by
    have := flat_at r k (by simpa using h)
    have e : flat (p :: r) = .int .i64 p.1 :: .int .i32 p.2 :: flat r := rfl
    rw [e, show (k + 1) * 2 = k * 2 + 1 + 1 from by omega]
    exact this
theorem RowI.cells {w : World} {B : Nat} {v : Value} {f : CodeL} (h : RowI w B v f) {k : Nat} (hk : k < f.length) :
    ∃ b off c, v = .slice (some ⟨b, off, none⟩) f.length c ∧ b < B ∧ w.cell? ⟨b, off + k * 2, none⟩ = some (.int .i64 (cop f k)) ∧ w.cell? ⟨b, off + k * 2 + 1, none⟩ = some (.int .i32 (carg f k)) := by
  obtain ⟨A, c, rfl, hl, _⟩ := h
  obtain ⟨b, off, rfl, hb, hc⟩ := hl (by rw [flat_length]; omega)
  obtain ⟨h1, h2⟩ := flat_at f k hk
  exact ⟨b, off, c, rfl, hb, hc _ _ h1, by have := hc _ _ h2; rwa [← Nat.add_assoc] at this⟩
theorem RowI.below {w w' : World} {B : Nat} {v : Value} {f : CodeL} (h : RowI w B v f) (hb : Below B w w') : RowI w' B v f := by
  obtain ⟨A, c, e, hl, hi⟩ := h
  exact ⟨A, c, e, hl.below hb, hi⟩
theorem RowI.more {w : World} {B B' : Nat} {v : Value} {f : CodeL} (h : RowI w B v f) (hb : B ≤ B') : RowI w B' v f := by
  obtain ⟨A, c, e, hl, hi⟩ := h
  exact ⟨A, c, e, hl.more hb, hi⟩
theorem RowI.later {w w' : World} {v : Value} {f : CodeL} (h : RowI w w.heap.size v f) (hb : Below w.heap.size w w') : RowI w' w'.heap.size v f := (h.below hb).more hb.size
theorem RowI.arg {w : World} {B : Nat} {v : Value} {f : CodeL} (h : RowI w B v f) {k : Nat} (hk : k < f.length) : I32 (carg f k) := by
  obtain ⟨A, c, e, hl, hi⟩ := h
  unfold carg
  rw [List.getD_eq_getElem?_getD, List.getElem?_eq_getElem hk]
  exact hi _ (List.getElem_mem hk)

/-- The first from k on, among m, that holds. -/
def firstO (hz : Nat → Bool) : Nat → Nat → Option Nat
  | _, 0 => none
  | k, m + 1 => if hz k then some k else firstO hz (k + 1) m
theorem firstO_lt (hz : Nat → Bool) : ∀ (m k j : Nat), firstO hz k m = some j → k ≤ j ∧ j < k + m ∧ hz j = true
  | 0, k, j, h => by cases h
  | m + 1, k, j, h => by
    unfold firstO at h
    split at h
    · rename_i hk; injection h with h; subst h; exact ⟨Nat.le_refl _, by omega, hk⟩
    · have := firstO_lt hz m (k + 1) j h; exact ⟨by omega, by omega, this.2.2⟩
theorem firstO_none (hz : Nat → Bool) : ∀ (m k : Nat), firstO hz k m = none → ∀ j, k ≤ j → j < k + m → hz j = false
  | 0, k, _, j, h1, h2 => by omega
  | m + 1, k, h, j, h1, h2 => by
    unfold firstO at h
    split at h
    · cases h
    · rename_i hk
      rcases Nat.eq_or_lt_of_le h1 with rfl | h3
      · simpa using hk
      · exact firstO_none hz m (k + 1) h j h3 (by omega)

/-- What an argument must be less than, by its kind. -/
def boundZ (places funcs labels gates z : Int) : Int := if z = 2 then places else if z = 3 then 4 else if z = 4 then labels else if z = 5 then funcs else if z = 6 then gates else 9223372036854775807
def badI (f : CodeL) (funcs labels gates : Int) (k : Nat) : Bool := !(rightB (cop f k) (carg f k)) || decide (boundZ f.length funcs labels gates (argZ (cop f k)) ≤ carg f k)
def invalidO (f : CodeL) (funcs labels gates : Int) : Option Nat := firstO (badI f funcs labels gates) 0 f.length

structure Fl where
  D : List Int
  Bd : List Bool
  K : List Nat

def reachF (n : Nat) (s : Fl) (fr to : Nat) (d : Int) : Fl :=
  if to = n then { s with Bd := s.Bd.set fr true }
  else if s.D.getD to 0 = -1 then { s with D := s.D.set to d, K := s.K ++ [to] }
  else if s.D.getD to 0 = d then s
  else { s with Bd := s.Bd.set to true }
def nextL (f : CodeL) (k : Nat) : List Nat :=
  if endsB (cop f k) then [] else if cop f k = 10 then [(carg f k).toNat] else if cop f k = 11 then [k + 1, (carg f k).toNat] else [k + 1]
def leftZ (f : CodeL) (s : Fl) (k : Nat) : Int := s.D.getD k 0 - popsZ (cop f k)
def depthZ (f : CodeL) (s : Fl) (k : Nat) : Int := leftZ f s k + pushesZ (cop f k)
def fitsB (f : CodeL) (s : Fl) (k : Nat) : Bool := decide (0 ≤ leftZ f s k) && decide (depthZ f s k ≤ 32)
def stepF (f : CodeL) (s : Fl) (k : Nat) : Fl :=
  if fitsB f s k then (nextL f k).foldl (fun r t => reachF f.length r k t (depthZ f s k)) s else { s with Bd := s.Bd.set k true }
def runF (f : CodeL) : Nat → Nat → Fl → Fl
  | 0, _, s => s
  | m + 1, i, s => if i < s.K.length then runF f m (i + 1) (stepF f s (s.K.getD i 0)) else s
def startF (n : Nat) : Fl := ⟨List.replicate n (-1), List.replicate n false, []⟩
def followF (f : CodeL) : Fl := runF f f.length 0 (reachF f.length (startF f.length) 0 0 0)
def badO (f : CodeL) : Option Nat := firstO (fun k => (followF f).Bd.getD k false) 0 f.length
/-- The answer: the first invalid, or else the first bad one. -/
def resZ (a b : Option Nat) : Int × Int :=
  match a with
  | some k => ((k : Int), 24)
  | none => match b with
    | some k => ((k : Int), 24)
    | none => (0, 0)
def funcZ (f : CodeL) (funcs labels gates : Int) : Int × Int :=
  if 512 < f.length then (0, 22) else if f.length = 0 then (0, 24) else resZ (invalidO f funcs labels gates) (badO f)
def depthsZ (f : CodeL) : List Int := if (funcZ f 9223372036854775807 9223372036854775807 9223372036854775807).2 = 0 then (followF f).D else []

end Go.Proofs.Ytjnlgmjcabbaaaa
