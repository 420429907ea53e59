/- Lists of numbers in memory, for any law: cells, lists that grow, two lists that are the same. -/
import Derived.Test.YtmcphlklknfbmaaApd
namespace Go.Proofs.Ytmcphlklknfbmaa
set_option maxRecDepth 100000
open Go.RowKit

theorem lie_int {w : World} {B : Nat} {A : Option Addr} {l : List Int} (h : Lies w B A (i64s l)) {k : Nat} (hk : k < l.length) :
    ∃ b off, A = some ⟨b, off, none⟩ ∧ b < B ∧ w.cell? ⟨b, off + k, none⟩ = some (.int .i64 l[k]) := by
  obtain ⟨b, off, e, hb, hc⟩ := h.cell (k := k) (by simpa [i64s] using hk)
  exact ⟨b, off, e, hb, by rw [hc]; simp [i64s]⟩
theorem take_all {α : Type} {p : α → Bool} {l : List α} {k : Nat} (hk : k < l.length) (h : (l.take k).all p = true) (e : p l[k] = true) : (l.take (k + 1)).all p = true := by
  rw [List.take_succ_eq_append_getElem hk, List.all_append, h]
  simp [e]
theorem all_no {α : Type} {p : α → Bool} {l : List α} {k : Nat} (hk : k < l.length) (e : p l[k] = false) : l.all p = false := by
  cases hb : l.all p with
  | false => rfl
  | true => rw [List.all_eq_true.1 hb _ (List.getElem_mem hk)] at e; cases e
theorem all_end {α : Type} {p : α → Bool} {l : List α} {k : Nat} (hk : k = l.length) (h : (l.take k).all p = true) : l.all p = true := by
  subst hk; rwa [List.take_length] at h
def nats (l : List Nat) : List Int := l.map fun n : Nat => (n : Int)
theorem nats_length (l : List Nat) : (nats l).length = l.length := by simp [nats]
theorem nats_get {l : List Nat} {k : Nat} (h : k < (nats l).length) : (nats l)[k] = ((l[k]'(by simpa [nats] using h) : Nat) : Int) := by simp [nats]
theorem nats_append (l m : List Nat) : nats (l ++ m) = nats l ++ nats m := by simp [nats]
theorem lie_nat {w : World} {B : Nat} {A : Option Addr} {l : List Nat} (h : Lies w B A (i64s (nats l))) {k : Nat} (hk : k < l.length) :
    ∃ b off, A = some ⟨b, off, none⟩ ∧ b < B ∧ w.cell? ⟨b, off + k, none⟩ = some (.int .i64 (l[k] : Nat)) := by
  obtain ⟨b, off, e, hb, hc⟩ := lie_int h (k := k) (by simpa [nats] using hk)
  exact ⟨b, off, e, hb, by rw [hc, nats_get]⟩
theorem below_drewN {B : Nat} {a w : World} (h : Below B a w) (n : Nat) : Below B a (w.drewN n) := ⟨h.os, h.tape, h.output, h.size, h.block⟩
def intsB (a b : List Int) : Bool := decide (a = b)
theorem ints_no {a b : List Int} {k : Nat} (ha : k < a.length) (hb : k < b.length) (h : a[k] ≠ b[k]) : intsB a b = false := by
  simp only [intsB, decide_eq_false_iff_not]
  rintro rfl
  exact h rfl
theorem ints_len {a b : List Int} (h : a.length ≠ b.length) : intsB a b = false := by
  simp only [intsB, decide_eq_false_iff_not]
  rintro rfl
  exact h rfl
theorem ints_yes {a b : List Int} (h : a.length = b.length) (hp : ∀ j (ha : j < a.length) (hb : j < b.length), a[j] = b[j]) : intsB a b = true := by
  simp only [intsB, decide_eq_true_eq]
  exact List.ext_getElem h hp
theorem IntsV.lit (w : World) (a b : Int) : IntsV (w.alloc (.cells #[.int .i64 a, .int .i64 b] 3)) (w.alloc (.cells #[.int .i64 a, .int .i64 b] 3)).heap.size (.slice (some ⟨w.heap.size, 0, none⟩) 2 2) [a, b] :=
  ⟨_, 2, rfl, (lies_new w (i64s [a, b]) 3).more (by simp)⟩
theorem TabV.later {w w' : World} {v : Value} {T : List (List Bool)} (h : TabV w w.heap.size v T) (hb : Below w.heap.size w w') : TabV w' w'.heap.size v T := (h.below hb).more hb.size
theorem IntsV.later {w w' : World} {v : Value} {l : List Int} (h : IntsV w w.heap.size v l) (hb : Below w.heap.size w w') : IntsV w' w'.heap.size v l := (h.below hb).more hb.size
theorem nextB {w w1 w2 : World} (h : Below w.heap.size w w1) (k : Below w1.heap.size w1 w2) : Below w.heap.size w w2 := h.trans (k.mono h.size)

end Go.Proofs.Ytmcphlklknfbmaa
