/- Tasks with their stacks in memory; lists of tasks of the call's own. -/
import Derived.Test.YtlmbjnegajiphaaOwn
import Derived.Test.YtlmbjnegajiphaaMid
import Derived.Test.YtlmbjnegajiphaaSto12
import Derived.IntWalk
namespace Go.Proofs.Ytlmbjnegajiphaa
set_option maxRecDepth 100000
open Go.RowKit

/-- A slot: a task and its stack's value. -/
abbrev SlotX := TK × Value
def slotA (x : SlotX) : Array Value := taskA x.1 x.2
theorem slotA_size (x : SlotX) : (slotA x).size = 12 := rfl
def zSlot : SlotX := (zT, nilV)
/-- A task's stack lies in blocks of S. -/
def StkV (w : World) (S : Nat → Prop) (x : SlotX) : Prop := ∃ A c, x.2 = .slice A x.1.st.length c ∧ x.1.st.length ≤ c ∧ Lies w w.heap.size A (i32s x.1.st) ∧ ∀ b off, A = some ⟨b, off, none⟩ → S b
theorem StkV.zero (w : World) (S : Nat → Prop) : StkV w S zSlot := ⟨none, 0, rfl, Nat.le_refl _, Lies.nil, fun b off e => by cases e⟩
theorem StkV.keep {w w' : World} {S T S' : Nat → Prop} {x : SlotX} (h : StkV w S x) (hf : Frm T w w') (hd : ∀ i, S i → ¬ T i) (hs : ∀ i, i < w.heap.size → S i → S' i) (hl : ∀ i, S i → i < w.heap.size) : StkV w' S' x := by
  obtain ⟨A, c, e, hc, hL, hS⟩ := h
  exact ⟨A, c, e, hc, lies_keepA hL hf.size fun b off e hb => hf.block b hb (hd b (hS b off e)), fun b off e => hs b (hl b (hS b off e)) (hS b off e)⟩
theorem StkV.v {w : World} {S : Nat → Prop} {x : SlotX} (h : StkV w S x) : I32V w w.heap.size x.2 x.1.st := by
  obtain ⟨A, c, e, hc, hL, _⟩ := h; exact ⟨A, c, e, hc, hL⟩
theorem inf_task : (Try.prog.info? 51).map (fun i => (i.zero, i.size, i.bytes)) = some (some (.agg #[.int .i32 0, .int .i64 0, .int .i64 0, .slice none 0 0, .int .i32 0, .int .i32 0, .int .i32 0, .int .i32 0, .int .i64 0, .int .i64 0, .int .u32 0, .int .i64 0]), 12, 96) := by kernel_rfl
/-- A list of tasks of the call's own. -/
def OwnT (w : World) (base : Nat) (v : Value) (L : List SlotX) : Prop := w.ownsRow base 51 12 v L.length (rowE slotA L)
theorem OwnT.nil (w : World) (base : Nat) : OwnT w base (.slice none 0 0) [] := World.ownsRow_nil w base _ 12
theorem OwnT.frm {w w' : World} {base : Nat} {v : Value} {L : List SlotX} {T : Nat → Prop} (h : OwnT w base v L) (hf : Frm T w w') (hd : ∀ j, base ≤ j → ¬ T j) : OwnT w' base v L :=
  ownsRow_keep h fun b hb => by
    have h1 := World.ownsRow.lt h b hb
    exact hf.block b h1.2 (hd b h1.1)
theorem rowE_snoc (L : List SlotX) (x : SlotX) : rowE slotA (L ++ [x]) = rowE slotA L ++ (slotA x).toList := by simp [rowE]
theorem OwnT.snoc {w : World} {base n : Nat} {v : Value} {L : List SlotX} {x : SlotX} (hn : n = L.length) (h : w.ownsRow base 51 12 v (n + 1) (rowE slotA L ++ (slotA x).toList)) : OwnT w base v (L ++ [x]) := by
  subst hn
  unfold OwnT
  rw [rowE_snoc, List.length_append]
  exact h
theorem OwnT.shape {w : World} {base : Nat} {v : Value} {L : List SlotX} (h : OwnT w base v L) : ∃ A c, v = .slice A L.length c := by
  rcases h.2 with ⟨h1, h2⟩ | ⟨g, cap, _, hv, _⟩
  · exact ⟨Option.none, 0, by rw [h1, h2]⟩
  · exact ⟨_, cap, hv⟩
theorem load_taskMid {ops : Array Oper} {rest : List Oper} {o : Oper} {a : Act} {w : World} {Q : Exit → Act → World → Prop} (hgd : o.guard = none) (x : Operand) (ho : o.op = .load 51 x) (g off : Nat) (t : TK) (s : Value) (hx : a.eval x = .pointer (some ⟨g, off, none⟩))
    (hg : w.rangeAt g off (taskA t s).toList) (h : wpList Try.prog ops Q rest (a.put o.dst (taskV t s)) w) : wpList Try.prog ops Q (o :: rest) a w :=
  wpList_load_mid hgd _ x ho g off hx (taskA t s).toList _ hg Try.underlying51 rfl info_task h
theorem StkV.nil (w : World) (T : Nat → Prop) {t : TK} (ht : t.st = []) : StkV w T (t, nilV) := ⟨none, 0, by simp [ht, nilV], by simp [ht], by rw [ht]; exact Lies.nil, fun b off e => by cases e⟩
/-- A task of which only the id is set. -/
def idT (n : Int) : TK := { zT with id := n }

end Go.Proofs.Ytlmbjnegajiphaa
