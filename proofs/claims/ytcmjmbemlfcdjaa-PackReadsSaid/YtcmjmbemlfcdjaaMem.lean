/- What memory holds: a slice of bytes, a reader. -/
import Derived.Test.YtcmjmbemlfcdjaaRows
import Derived.Test.YtcmjmbemlfcdjaaDec
import Derived.WalkKit
import Derived.WalkLawsBesides
import Derived.Lib.Hide
import Derived.Outline
import Derived.Deep.DeepMust
import Derived.Maps.AppendAt
import Derived.OwnWalk
namespace Go.Proofs.Ytcmjmbemlfcdjaa
open Go.RowKit

theorem info_byte : (Try.prog.info? 5).map (fun i => (i.zero, i.size, i.bytes)) = some (some (.int .u8 0), 1, 1) := by kernel_rfl

/-- From the place A on, in blocks below B, the cells hold xs. -/
def Lies (w : World) (B : Nat) (A : Option Addr) (xs : List Value) : Prop :=
  0 < xs.length → ∃ b off, A = some ⟨b, off, none⟩ ∧ b < B ∧ ∀ j u, xs[j]? = some u → w.cell? ⟨b, off + j, none⟩ = some u

def u8s (l : List Int) : List Value := l.map (Value.int .u8)
theorem u8s_length (l : List Int) : (u8s l).length = l.length := by simp [u8s]
theorem u8s_get {l : List Int} {k : Nat} (h : k < l.length) : (u8s l)[k]? = some (.int .u8 l[k]) := by simp [u8s, h]

section
variable {w w' : World} {B : Nat} {A : Option Addr} {xs : List Value}

theorem Lies.nil : Lies w B A [] := fun h => absurd h (by simp)
theorem Lies.keep (h : Lies w B A xs) (hk : ∀ b o, b < B → w'.cell? ⟨b, o, none⟩ = w.cell? ⟨b, o, none⟩) : Lies w' B A xs := fun hn => by
  obtain ⟨b, off, e, hb, hc⟩ := h hn
  exact ⟨b, off, e, hb, fun j u hu => (hk b _ hb).trans (hc j u hu)⟩
theorem Lies.below (h : Lies w B A xs) (hb : Below B w w') : Lies w' B A xs := h.keep fun b o hlt => hb.cell (p := ⟨b, o, none⟩) hlt
theorem Lies.more {B' : Nat} (h : Lies w B A xs) (hB : B ≤ B') : Lies w B' A xs := fun hn => by
  obtain ⟨b, off, e, hb, hc⟩ := h hn
  exact ⟨b, off, e, by omega, hc⟩
theorem Lies.take (h : Lies w B A xs) (k : Nat) : Lies w B A (xs.take k) := fun hn => by
  obtain ⟨b, off, e, hb, hc⟩ := h (by rw [List.length_take] at hn; omega)
  refine ⟨b, off, e, hb, fun j u hu => hc j u ?_⟩
  rw [List.getElem?_take] at hu
  split at hu
  · exact hu
  · cases hu
theorem Lies.drop (h : Lies w B A xs) (k : Nat) : Lies w B (A.map (·.add k)) (xs.drop k) := fun hn => by
  obtain ⟨b, off, rfl, hb, hc⟩ := h (by rw [List.length_drop] at hn; omega)
  refine ⟨b, off + k, ?_, hb, fun j u hu => ?_⟩
  · simp [Addr.add]
  · rw [Nat.add_assoc]; exact hc _ _ (by rw [← hu, List.getElem?_drop])
theorem Lies.cell (h : Lies w B A xs) {k : Nat} (hk : k < xs.length) : ∃ b off, A = some ⟨b, off, none⟩ ∧ b < B ∧ w.cell? ⟨b, off + k, none⟩ = some xs[k] := by
  obtain ⟨b, off, e, hb, hc⟩ := h (by omega)
  exact ⟨b, off, e, hb, hc k _ (List.getElem?_eq_getElem hk)⟩
end

/-- A slice that the call owns lies in memory. -/
theorem Lies.of_own {w : World} {base e : Nat} {v : Value} {n : Nat} {xs : List Value} (h : w.ownsRow base e 1 v n xs) :
    ∃ A c, v = .slice A n c ∧ n ≤ c ∧ c ≤ maxLen ∧ xs.length = n ∧ Lies w w.heap.size A xs ∧ (∀ b off, A = some ⟨b, off, none⟩ → base ≤ b ∧ b < w.heap.size) := by
  rcases h.2 with ⟨rfl, rfl⟩ | ⟨g, cap, cur, rfl, hb, hg, hn, hm, _, _⟩
  · refine ⟨none, 0, rfl, Nat.le_refl _, Nat.zero_le _, by simpa using h.1, ?_, fun b off e => by cases e⟩
    have : xs = [] := List.eq_nil_of_length_eq_zero (by simpa using h.1)
    subst this; exact Lies.nil
  · have hlt := (Array.getElem?_eq_some_iff.1 hg).1
    refine ⟨_, cap, rfl, hn, hm, by simpa using h.1, fun hn' => ⟨g, 0, rfl, hlt, fun j u hu => ?_⟩, fun b off e => ?_⟩
    · have := h.cells (g := g) rfl j u hu
      have e : (⟨g, 0, none⟩ : Addr).add j = ⟨g, 0 + j, none⟩ := by unfold Addr.add; split <;> simp_all
      rw [e] at this; exact this
    · injection e with e; injection e with e1 _; subst e1; exact ⟨hb, hlt⟩

/-- A reader: the block g of type t holds what is left (in blocks below B) and the error. -/
structure Rd (w : World) (B g t : Nat) (st : RS) : Prop where
  le : B ≤ g
  blk : ∃ A c, w.heap[g]? = some (.cells #[.slice A st.1.length c, .int .i64 st.2] t (0, 0)) ∧ st.1.length ≤ c ∧ c ≤ maxLen ∧ Lies w B A (u8s st.1)
  bytes : IsBytes st.1

theorem Rd.lt {w : World} {B g t : Nat} {st : RS} (h : Rd w B g t st) : g < w.heap.size := by
  obtain ⟨A, c, hg, _⟩ := h.blk
  exact (Array.getElem?_eq_some_iff.1 hg).1

theorem Rd.keep {w w' : World} {B g t : Nat} {st : RS} {row : Option Nat} (h : Rd w B g t st) (hg : w.grownBy w' row) (hne : some g ≠ row) (hr : ∀ k, row = some k → B ≤ k) : Rd w' B g t st := by
  obtain ⟨A, c, hb, h1, h2, h3⟩ := h.blk
  have hlt := h.lt
  have hle := h.le
  refine ⟨h.le, ⟨A, c, (hg.block g h.lt hne).trans hb, h1, h2, h3.keep fun b o hlt => World.cell?_of_block (hg.block b (by omega) (fun e => by have := hr b e.symm; omega))⟩, h.bytes⟩

theorem grown_setCell {w w' : World} {g : Nat} (h : w.grownBy w' (some g)) (i : Nat) (v : Value) : w.grownBy (w'.setCell ⟨g, i, none⟩ v) (some g) :=
  ⟨h.os, h.tape, h.output, by simpa [World.setCell] using h.size, fun k hk hne => by
    rw [← h.block k hk hne]
    simp only [World.setCell, Array.getElem?_modify]
    rw [if_neg (fun e => hne (by rw [← e]))]⟩
theorem grown_refl (w : World) (row : Option Nat) : w.grownBy w row := ⟨rfl, rfl, rfl, Nat.le_refl _, fun _ _ _ => rfl⟩
theorem grown_below {w w' w'' : World} {row : Option Nat} (h : w.grownBy w' row) (k : Below w.heap.size w' w'') : w.grownBy w'' row :=
  ⟨k.os.trans h.os, k.tape.trans h.tape, k.output.trans h.output, Nat.le_trans h.size k.size, fun i hi hne => (k.block i hi).trans (h.block i hi hne)⟩
theorem grown_trans {w w' w'' : World} {row : Option Nat} (h : w.grownBy w' row) (k : w'.grownBy w'' row) : w.grownBy w'' row :=
  ⟨k.os.trans h.os, k.tape.trans h.tape, k.output.trans h.output, Nat.le_trans h.size k.size, fun i hi hne => (k.block i (Nat.lt_of_lt_of_le hi h.size) hne).trans (h.block i hi hne)⟩
theorem below_of_grown {w w' : World} {B g : Nat} (h : w.grownBy w' (some g)) (hB : B ≤ g) (hle : B ≤ w.heap.size) : Below B w w' :=
  ⟨h.os, h.tape, h.output, h.size, fun k hk => h.block k (by omega) (fun e => by injection e; omega)⟩

/-- The cells of a reader's block. -/
theorem cell_blk {w : World} {g t : Nat} {cs : Array Value} (h : w.heap[g]? = some (.cells cs t (0, 0))) (i : Nat) : w.cell? ⟨g, i, none⟩ = cs[i]? := cell_of_row w g i cs t (0, 0) h
theorem frozen_blk {w : World} {g t : Nat} {cs : Array Value} (h : w.heap[g]? = some (.cells cs t (0, 0))) (i : Nat) : w.frozen? ⟨g, i, none⟩ = false := by
  simp [World.frozen?, h]
theorem set_blk {w : World} {g t : Nat} {cs : Array Value} (h : w.heap[g]? = some (.cells cs t (0, 0))) (i : Nat) (u : Value) : (w.setCell ⟨g, i, none⟩ u).heap[g]? = some (.cells (cs.setIfInBounds i u) t (0, 0)) := by
  simp [World.setCell, Array.getElem?_modify, h]

end Go.Proofs.Ytcmjmbemlfcdjaa
