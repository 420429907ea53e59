/- What memory holds: a slice of bytes, a reader. -/
import Derived.Test.YtmcphlklknfbmaaGrid
import Derived.Test.YtmcphlklknfbmaaDec
import Derived.WalkKit
import Derived.WalkLawsBesides
import Derived.Lib.Hide
import Derived.Outline
import Derived.Deep.DeepMust
import Derived.Maps.AppendAt
import Derived.OwnWalk
namespace Go.Proofs.Ytmcphlklknfbmaa
set_option maxRecDepth 100000
open Go.RowKit

theorem info_byte : (Try.prog.info? 5).map (fun i => (i.zero, i.size, i.bytes)) = some (some (.int .u8 0), 1, 1) := by kernel_rfl


def u8s (l : List Int) : List Value := l.map (Value.int .u8)
theorem u8s_length (l : List Int) : (u8s l).length = l.length := by simp [u8s]
theorem u8s_get {l : List Int} {k : Nat} (h : k < l.length) : (u8s l)[k]? = some (.int .u8 l[k]) := by simp [u8s, h]

section
variable {w w' : World} {B : Nat} {A : Option Addr} {xs : List Value}

theorem Lies.take (h : Lies w B A xs) (k : Nat) : Lies w B A (xs.take k) := fun hn => by
  obtain ⟨b, off, e, hb, hc⟩ := h (by rw [List.length_take] at hn; omega)
  refine ⟨b, off, e, hb, fun j u hu => hc j u ?_⟩
  rw [List.getElem?_take] at hu
  split at hu
  · exact hu
  · cases hu
theorem Lies.drop (h : Lies w B A xs) (k : Nat) : Lies w B (A.map (·.add k)) (xs.drop k) := fun hn => by
  obtain ⟨b, off, rfl, hb, hc⟩ := h (by rw [List.length_drop] at hn; omega)
  refine ⟨b, off + k, ?_, hb, fun j u hu => ?_⟩
  · simp [Addr.add]
  · rw [Nat.add_assoc]; exact hc _ _ (by rw [← hu, List.getElem?_drop])
end


/-- A reader: the block g of type t holds what is left (in blocks below B) and the error. -/
structure Rd (w : World) (B g t : Nat) (st : RS) : Prop where
  le : B ≤ g
  blk : ∃ A c, w.heap[g]? = some (.cells #[.slice A st.1.length c, .int .i64 st.2] t (0, 0)) ∧ st.1.length ≤ c ∧ c ≤ maxLen ∧ Lies w B A (u8s st.1)
  bytes : IsBytes st.1

theorem Rd.lt {w : World} {B g t : Nat} {st : RS} (h : Rd w B g t st) : g < w.heap.size := by
  obtain ⟨A, c, hg, _⟩ := h.blk
  exact (Array.getElem?_eq_some_iff.1 hg).1

theorem Rd.keep {w w' : World} {B g t : Nat} {st : RS} {row : Option Nat} (h : Rd w B g t st) (hg : w.grownBy w' row) (hne : some g ≠ row) (hr : ∀ k, row = some k → B ≤ k) : Rd w' B g t st := by
  obtain ⟨A, c, hb, h1, h2, h3⟩ := h.blk
  have hlt := h.lt
  have hle := h.le
  refine ⟨h.le, ⟨A, c, (hg.block g h.lt hne).trans hb, h1, h2, h3.keep fun b o hlt => World.cell?_of_block (hg.block b (by omega) (fun e => by have := hr b e.symm; omega))⟩, h.bytes⟩

theorem grown_setCell {w w' : World} {g : Nat} (h : w.grownBy w' (some g)) (i : Nat) (v : Value) : w.grownBy (w'.setCell ⟨g, i, none⟩ v) (some g) :=
  ⟨h.os, h.tape, h.output, by simpa [World.setCell] using h.size, fun k hk hne => by
    rw [← h.block k hk hne]
    simp only [World.setCell, Array.getElem?_modify]
    rw [if_neg (fun e => hne (by rw [← e]))]⟩
theorem grown_refl (w : World) (row : Option Nat) : w.grownBy w row := ⟨rfl, rfl, rfl, Nat.le_refl _, fun _ _ _ => rfl⟩
theorem grown_below {w w' w'' : World} {row : Option Nat} (h : w.grownBy w' row) (k : Below w.heap.size w' w'') : w.grownBy w'' row :=
  ⟨k.os.trans h.os, k.tape.trans h.tape, k.output.trans h.output, Nat.le_trans h.size k.size, fun i hi hne => (k.block i hi).trans (h.block i hi hne)⟩
theorem grown_trans {w w' w'' : World} {row : Option Nat} (h : w.grownBy w' row) (k : w'.grownBy w'' row) : w.grownBy w'' row :=
  ⟨k.os.trans h.os, k.tape.trans h.tape, k.output.trans h.output, Nat.le_trans h.size k.size, fun i hi hne => (k.block i (Nat.lt_of_lt_of_le hi h.size) hne).trans (h.block i hi hne)⟩
theorem below_of_grown {w w' : World} {B g : Nat} (h : w.grownBy w' (some g)) (hB : B ≤ g) (hle : B ≤ w.heap.size) : Below B w w' :=
  ⟨h.os, h.tape, h.output, h.size, fun k hk => h.block k (by omega) (fun e => by injection e; omega)⟩


theorem Rd.below {w w' : World} {B g t : Nat} {st : RS} (h : Rd w B g t st) (hb : Below w.heap.size w w') : Rd w' B g t st :=
  h.keep (row := none) ⟨hb.os, hb.tape, hb.output, hb.size, fun k hk _ => hb.block k hk⟩ (by simp) (fun k hk => by cases hk)
theorem lies_mark (w : World) (cs : List Value) (t : Nat) (m : Nat × Nat) : Lies (w.alloc (.cells cs.toArray t m)) (w.heap.size + 1) (some ⟨w.heap.size, 0, none⟩) cs := fun _ =>
  ⟨w.heap.size, 0, rfl, Nat.lt_succ_self _, fun j u hu => by
    have h : (w.alloc (.cells cs.toArray t m)).heap[w.heap.size]? = some (.cells cs.toArray t m) := heap_alloc_new w _
    rw [cell_of_row _ _ _ _ _ _ h]; simpa using hu⟩

end Go.Proofs.Ytmcphlklknfbmaa
