/- Lists of numbers with room behind them; own lists of numbers; make of a slice of slices. -/
import Derived.Test.YtboelofkbhgmfaaNums
namespace Go.Proofs.Ytboelofkbhgmfaa
set_option maxRecDepth 100000
open Go.RowKit

/-- The slice v holds the numbers l. -/
def NumV (w : World) (B : Nat) (v : Value) (l : List Int) : Prop := ∃ A c, v = .slice A l.length c ∧ l.length ≤ c ∧ Lies w B A (i64s l)
/-- A list of numbers of the call's own. -/
def OwnI64 (w : World) (base : Nat) (v : Value) (l : List Int) : Prop := w.ownsRow base 3 1 v l.length (i64s l)
section
variable {w w' : World} {B B' : Nat} {v : Value} {l : List Int}
theorem NumV.below (h : NumV w B v l) (hb : Below B w w') : NumV w' B v l := by
  obtain ⟨A, c, e, hn, hl⟩ := h; exact ⟨A, c, e, hn, hl.below hb⟩
theorem NumV.more (h : NumV w B v l) (hB : B ≤ B') : NumV w B' v l := by
  obtain ⟨A, c, e, hn, hl⟩ := h; exact ⟨A, c, e, hn, hl.more hB⟩
theorem NumV.later (h : NumV w w.heap.size v l) (hb : Below w.heap.size w w') : NumV w' w'.heap.size v l := (h.below hb).more hb.size
theorem OwnI64.num {base : Nat} (h : OwnI64 w base v l) : NumV w w.heap.size v l := by
  obtain ⟨A, c, e, hn, _, _, hl, _⟩ := Lies.of_own h
  exact ⟨A, c, e, hn, hl⟩
theorem OwnI64.nil (w : World) (base : Nat) : OwnI64 w base (.slice none 0 0) [] := World.ownsRow_nil w base _ 1
theorem OwnI64.below {base : Nat} (h : OwnI64 w base v l) (hb : Below w.heap.size w w') : OwnI64 w' base v l := own_below h hb
theorem OwnI64.snoc {base : Nat} {l' : List Int} {x : Int} {n : Nat} (hn : n = l.length + 1) (h : w.ownsRow base 3 1 v n (i64s l ++ [.int .i64 x])) (e : l' = l ++ [x]) : OwnI64 w base v l' := by
  subst e hn
  unfold OwnI64
  rw [List.length_append]
  simpa [i64s] using h
end
/-- The nil slices of a made table. -/
def nilR (n : Nat) : List Value := List.replicate n (.slice none 0 0)
theorem madeNil (n : Nat) : madeCells #[.slice none 0 0] n = (nilR n).toArray := by
  apply Array.ext
  · simp [madeCells, nilR]
  · intro i h1 h2
    simp [madeCells, nilR, Nat.mod_one]
theorem run_make_nil {t e bytes : Nat} (ht : Try.prog.underlying t = some (.slice e)) (hinf : (Try.prog.info? e).map (fun i => (i.zero, i.size, i.bytes)) = some (some (.slice none 0 0), 1, bytes)) (hby : bytes ≤ 1000) (w : World) (y : Nat) (hy : y ≤ 1000) :
    (Instr.makeSlice t (.int .i64 (y : Int)) (.int .i64 (y : Int))).run Try.prog w = .ok (.slice (some ⟨w.heap.size, 0, none⟩) y y) (w.alloc (.cells (nilR y).toArray e)) := by
  obtain ⟨i0, hi, hz0, hz1, hz2⟩ := info_parts hinf
  have hmul : y * bytes ≤ 1000 * 1000 := Nat.mul_le_mul hy hby
  have hm2 : ((bytes : Nat) : Int) * (y : Int) ≤ 1000000 := by rw [← Int.natCast_mul, Nat.mul_comm]; omega
  have h := run_make (w := w) (P := Try.prog) t e i0 (.slice none 0 0) ht hi hz0 .i64 .i64 (y : Int) (y : Int) (by omega) (Int.le_refl _) (by rw [hz2]; omega) (by omega)
  rw [h, hz1, Int.toNat_natCast]
  simp only [Value.cells, madeNil, Nat.mul_one]

end Go.Proofs.Ytboelofkbhgmfaa
