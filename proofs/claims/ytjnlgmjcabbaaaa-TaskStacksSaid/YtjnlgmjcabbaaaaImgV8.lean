/- Code and images in memory. (Cut out of Img8.) -/
import Derived.Test.YtjnlgmjcabbaaaaModel8
namespace Go.Proofs.Ytjnlgmjcabbaaaa
set_option maxRecDepth 100000
open Go.RowKit

theorem RowI.fresh (w : World) (f : CodeL) (hI : ∀ p ∈ f, I32 p.2) : RowI (w.alloc (.cells (flat f).toArray 32)) (w.alloc (.cells (flat f).toArray 32)).heap.size (.slice (some ⟨w.heap.size, 0, none⟩) f.length f.length) f :=
  ⟨_, f.length, rfl, (lies_new w (flat f) 32).more (by simp), hI⟩
theorem RowI.of_own {w : World} {base : Nat} {v : Value} {f : CodeL} (h : w.ownsRow base 32 2 v f.length (flat f)) (hI : ∀ p ∈ f, I32 p.2) : RowI w w.heap.size v f := by
  rcases h.2 with ⟨rfl, h0⟩ | ⟨g, cap, cur, e, hb, hg, hn, hm, _, _⟩
  · have : f = [] := List.eq_nil_of_length_eq_zero h0
    subst this
    exact ⟨none, 0, rfl, Lies.nil, hI⟩
  · subst e
    have hlt := (Array.getElem?_eq_some_iff.1 hg).1
    refine ⟨_, cap, rfl, fun _ => ⟨g, 0, rfl, hlt, fun j u hu => ?_⟩, hI⟩
    have := h.cells (g := g) rfl j u hu
    have e : (⟨g, 0, none⟩ : Addr).add j = ⟨g, 0 + j, none⟩ := by unfold Addr.add; split <;> simp_all
    rw [e] at this; exact this

/-- An image in memory. -/
def ImgV (w : World) (B : Nat) (v : Value) (I : List CodeL) : Prop :=
  ∃ (A : Option Addr) (c : Nat) (vs : List Value), v = .slice A I.length c ∧ vs.length = I.length ∧ Lies w B A vs ∧ ∀ (k : Nat) (x : Value) (f : CodeL), vs[k]? = some x → I[k]? = some f → RowI w B x f ∧ f.length ≤ 100000
theorem ImgV.below {w w' : World} {B : Nat} {v : Value} {I : List CodeL} (h : ImgV w B v I) (hb : Below B w w') : ImgV w' B v I := by
  obtain ⟨A, c, vs, h1, h2, h3, h4⟩ := h
  exact ⟨A, c, vs, h1, h2, h3.below hb, fun k x f hx hf => ⟨(h4 k x f hx hf).1.below hb, (h4 k x f hx hf).2⟩⟩
theorem ImgV.more {w : World} {B B' : Nat} {v : Value} {I : List CodeL} (h : ImgV w B v I) (hB : B ≤ B') : ImgV w B' v I := by
  obtain ⟨A, c, vs, h1, h2, h3, h4⟩ := h
  exact ⟨A, c, vs, h1, h2, h3.more hB, fun k x f hx hf => ⟨(h4 k x f hx hf).1.more hB, (h4 k x f hx hf).2⟩⟩
theorem ImgV.later {w w' : World} {v : Value} {I : List CodeL} (h : ImgV w w.heap.size v I) (hb : Below w.heap.size w w') : ImgV w' w'.heap.size v I := (h.below hb).more hb.size
theorem ImgV.row {w : World} {B : Nat} {v : Value} {I : List CodeL} (h : ImgV w B v I) {k : Nat} (hk : k < I.length) :
    ∃ b off c x, v = .slice (some ⟨b, off, none⟩) I.length c ∧ b < B ∧ w.cell? ⟨b, off + k, none⟩ = some x ∧ RowI w B x (I.getD k []) ∧ (I.getD k []).length ≤ 100000 := by
  obtain ⟨A, c, vs, rfl, h2, h3, h4⟩ := h
  obtain ⟨b, off, rfl, hb, hc⟩ := h3.cell (k := k) (by omega)
  refine ⟨b, off, c, _, rfl, hb, hc, ?_⟩
  have := h4 k _ (I.getD k []) (List.getElem?_eq_getElem (by omega)) (by rw [List.getD_eq_getElem?_getD, List.getElem?_eq_getElem hk]; rfl)
  exact this

end Go.Proofs.Ytjnlgmjcabbaaaa
