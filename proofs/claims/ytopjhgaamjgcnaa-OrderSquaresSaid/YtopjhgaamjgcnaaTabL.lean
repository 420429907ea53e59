/- Tables that a call makes of rows of any lengths. -/
import Derived.Test.YtopjhgaamjgcnaaKnw
import Derived.Laws.MakeOwn
namespace Go.Proofs.Ytopjhgaamjgcnaa
open Go.RowKit

/-- A row in a block of its own, from base on. -/
def OwnRw (w : World) (base : Nat) (r : Rw) : Prop := ∃ (g : Nat) (cur : Array Value), r.A = some ⟨g, 0, none⟩ ∧ base ≤ g ∧ w.heap[g]? = some (.cells cur 4 (0, 0)) ∧ ∀ (i : Nat) (u : Value), (bls r.l)[i]? = some u → cur[i]? = some u
structure TabL (w : World) (base : Nat) (v : Value) (n : Nat) (rs : List Rw) : Prop where
  own : w.ownsRow base 28 1 v n (rs.map Rw.hdr)
  rows : ∀ r ∈ rs, OwnRw w base r
section
variable {w w' : World} {base n : Nat} {v : Value} {rs : List Rw}
theorem OwnRw.below {r : Rw} (h : OwnRw w base r) (hb : Below w.heap.size w w') : OwnRw w' base r := by
  obtain ⟨g, cur, e, hg, hh, hc⟩ := h
  exact ⟨g, cur, e, hg, (hb.block g (Array.getElem?_eq_some_iff.1 hh).1).trans hh, hc⟩
theorem OwnRw.grown {r : Rw} {b0 m : Nat} {v : Value} {xs : List Value} (h : OwnRw w base r) (ho : w.ownsRow b0 28 1 v m xs) (hg : w.grownBy w' v.ownBlock) : OwnRw w' base r := by
  obtain ⟨g, cur, e, hlo, hh, hc⟩ := h
  refine ⟨g, cur, e, hlo, (hg.block g (Array.getElem?_eq_some_iff.1 hh).1 fun e => ?_).trans hh, hc⟩
  rcases ho.2 with ⟨rfl, _⟩ | ⟨g', cap, cur', rfl, _, hh', _⟩
  · simp [Value.ownBlock] at e
  · have e' : g = g' := by simpa [Value.ownBlock] using e
    subst e'
    rw [hh] at hh'
    injection hh' with hh'
    injection hh' with _ ht
    exact absurd ht (by decide)
theorem TabL.below (h : TabL w base v n rs) (hb : Below w.heap.size w w') : TabL w' base v n rs := ⟨own_below h.own hb, fun r hr => (h.rows r hr).below hb⟩
theorem TabL.none_ (w : World) (base : Nat) : TabL w base (.slice none 0 0) 0 [] := ⟨World.ownsRow_nil _ _ _ _, fun _ h => by cases h⟩
theorem TabL.snoc (h : TabL w base v n rs) {v' : Value} {r : Rw} (ho : w'.ownsRow base 28 1 v' (n + 1) (rs.map Rw.hdr ++ [r.hdr])) (hg : w.grownBy w' v.ownBlock) (hr : OwnRw w base r) : TabL w' base v' (n + 1) (rs ++ [r]) :=
  ⟨by simpa using ho, fun x hx => by
    rcases List.mem_append.1 hx with hx | hx
    · exact (h.rows x hx).grown h.own hg
    · simp at hx; subst hx; exact hr.grown h.own hg⟩
theorem TabL.tab (h : TabL w base v n rs) : TabV w w.heap.size v (rowsOf rs) := by
  obtain ⟨A, c, rfl, _, _, hl, hL, _⟩ := Lies.of_own h.own
  refine ⟨A, c, rs, by rw [← hl]; simp, rfl, hL, fun r hr _ => ?_⟩
  obtain ⟨g, cur, e, _, hh, hc⟩ := h.rows r hr
  exact ⟨g, 0, e, (Array.getElem?_eq_some_iff.1 hh).1, fun i u hu => by rw [Nat.zero_add, cell_blk hh]; exact hc i u hu⟩
end

/-- make of so many bools. -/
def falses (y : Nat) : Array Value := madeCells #[.bool false] y
theorem falses_get {y i : Nat} {u : Value} (h : (bls (List.replicate y false))[i]? = some u) : (falses y)[i]? = some u := by
  have hi : i < y := by
    have := (List.getElem?_eq_some_iff.1 h).1; simpa [bls] using this
  have hu : u = .bool false := by
    rw [show bls (List.replicate y false) = List.replicate y (.bool false) from by simp [bls]] at h
    simp [hi] at h
    exact h.symm
  subst hu
  simp [falses, madeCells, hi, Nat.mod_one]
theorem run_make_bools (w : World) (y : Nat) (hy : y ≤ 1000) :
    (Instr.makeSlice 28 (.int .i64 (y : Int)) (.int .i64 (y : Int))).run Try.prog w = .ok (.slice (some ⟨w.heap.size, 0, none⟩) y y) (w.alloc (.cells (falses y) 4)) := by
  obtain ⟨i0, hi, hz0, hz1, hz2⟩ := info_parts inf_bool
  have h := run_make (w := w) (P := Try.prog) 28 4 i0 (.bool false) Try.underlying28 hi hz0 .i64 .i64 (y : Int) (y : Int) (by omega) (Int.le_refl _) (by rw [hz2]; omega) (by omega)
  rw [h, hz1]
  simp [falses, Value.cells]
theorem own_made {w : World} {base y : Nat} (hb : base ≤ w.heap.size) : OwnRw (w.alloc (.cells (falses y) 4)) base ⟨some ⟨w.heap.size, 0, none⟩, y, List.replicate y false⟩ :=
  ⟨w.heap.size, falses y, rfl, hb, heap_alloc_new w _, fun _ _ h => falses_get h⟩

end Go.Proofs.Ytopjhgaamjgcnaa
