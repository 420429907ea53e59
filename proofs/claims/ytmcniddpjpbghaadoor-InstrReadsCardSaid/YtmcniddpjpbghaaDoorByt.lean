/- Bytes that a call has made out of a string; one of them set; an own slice of bytes, one of them set. -/
import Derived.Test.YtmcniddpjpbghaaDoorTextI
import Derived.Test.YtmcniddpjpbghaaDoorMem
import Derived.Test.YtmcniddpjpbghaaDoorApp
import Derived.Laws.IdiomStrings
import Derived.Laws.Concat
import Derived.Laws.OwnMore
import Derived.Laws.BitsAllLaws
import Derived.Deep.AppendLies
namespace Go.Proofs.YtmcniddpjpbghaaDoor
set_option maxRecDepth 100000
open Go.RowKit

/-- Block B of w begins with the bytes l. -/
def Bytes (w : World) (B : Nat) (l : List UInt8) : Prop := B < w.heap.size ∧ ∀ j (hj : j < l.length), w.cell? ⟨B, j, none⟩ = some (.int .u8 (l[j].toNat : Int))
section
variable {w w' : World} {B m : Nat} {l : List UInt8}
theorem Bytes.conv (h : Bytes w B l) (cap : Nat) : (convert 24 9 (.slice (some ⟨B, 0, none⟩) l.length cap)).run Tryd.prog w = .ok (.string ⟨l.toArray⟩) w :=
  run_convert_bytes_back w _ _ _ ⟨B, 0, none⟩ cap l Tryd.underlying24 Tryd.underlying5 Tryd.underlying9 fun j hj => by
    have e : (⟨B, 0, none⟩ : Addr).add j = ⟨B, j, none⟩ := by have h2 : (⟨B, 0, none⟩ : Addr).add j = ⟨B, 0 + j, none⟩ := by { unfold Addr.add; split <;> simp_all }; rwa [Nat.zero_add] at h2
    rw [e]; exact h.2 j hj
theorem Bytes.below (h : Bytes w B l) (hb : Below w.heap.size w w') : Bytes w' B l :=
  ⟨Nat.lt_of_lt_of_le h.1 hb.size, fun j hj => (hb.cell (p := ⟨B, j, none⟩) h.1).trans (h.2 j hj)⟩
theorem Bytes.drewN (h : Bytes w B l) (n : Nat) : Bytes (w.drewN n) B l := h.below (below_drewN (Below.refl _ _) n)
theorem bytes_new (w : World) (s : ByteArray) (cap t : Nat) (fr : Nat × Nat) : Bytes (w.alloc (.cells (bytesRow s cap) t fr)) w.heap.size s.data.toList := by
  refine ⟨(Array.getElem?_eq_some_iff.1 (heap_alloc_new w _)).1, fun j hj => ?_⟩
  rw [World.cell?_alloc_mark, bytesRow_at s cap j (by simpa using hj)]
  simp
theorem Bytes.set (h : Bytes w B l) (hm : m < l.length) (c : Nat) (hc : c ≤ 255) : Bytes (w.setCell ⟨B, m, none⟩ (.int .u8 c)) B (l.set m (UInt8.ofNat c)) := by
  refine ⟨by simpa [World.setCell] using h.1, fun j hj => ?_⟩
  rw [List.length_set] at hj
  by_cases e : m = j
  · subst e
    rw [World.cell?_setCell_same _ _ _ (h.2 m hm)]
    have : (UInt8.ofNat c).toNat = c := by simp; omega
    simp [this]
  · rw [World.cell?_setCell_other _ _ _ _ (by intro x; injection x with _ x; exact e x), h.2 j hj]
    simp [e]
end

theorem u8s_set (l : List Int) (m : Nat) (z : Int) : (u8s l).set m (.int .u8 z) = u8s (l.set m z) := by unfold u8s; rw [List.map_set]
theorem IsBytes.set {l : List Int} (h : IsBytes l) (m : Nat) {z : Int} (hz : 0 ≤ z ∧ z ≤ 255) : IsBytes (l.set m z) := fun u hu => by
  rcases List.mem_or_eq_of_mem_set hu with hu | rfl
  · exact h u hu
  · exact hz
/-- A byte with some of its bits turned. -/
theorem xor_byte {x : Int} {c : Nat} (hx : 0 ≤ x ∧ x ≤ 255) (hc : c ≤ 255) : 0 ≤ bits .xor .u8 x c ∧ bits .xor .u8 x c ≤ 255 := by
  rw [Go.u8_xor x c (by omega) (by omega) (by omega) (by omega)]
  have : x.toNat ^^^ (c : Int).toNat < 2 ^ 8 := Nat.xor_lt_two_pow (by omega) (by omega)
  omega

/-- An own slice of bytes with elements: its block; a byte of it set. -/
theorem own_block {w : World} {base : Nat} {v : Value} {l : List Int} (h : w.ownsRow base 5 1 v l.length (u8s l)) (hn : 0 < l.length) :
    ∃ g cap, v = .slice (some ⟨g, 0, none⟩) l.length cap ∧ base ≤ g ∧ g < w.heap.size := h.form hn
theorem own_byte {w : World} {base g cap m : Nat} {l : List Int} (h : w.ownsRow base 5 1 (.slice (some ⟨g, 0, none⟩) l.length cap) l.length (u8s l)) (hm : m < l.length) :
    w.cell? ⟨g, m, none⟩ = some (.int .u8 l[m]) := by
  rw [h.cellAt m (by omega)]; exact u8s_get hm
theorem own_byte_set {w : World} {base g cap m : Nat} {l : List Int} {z : Int} (h : w.ownsRow base 5 1 (.slice (some ⟨g, 0, none⟩) l.length cap) l.length (u8s l)) :
    (w.setCell ⟨g, m, none⟩ (.int .u8 z)).ownsRow base 5 1 (.slice (some ⟨g, 0, none⟩) l.length cap) (l.set m z).length (u8s (l.set m z)) := by
  have := (h.stored m (.int .u8 z)).1
  rw [u8s_set] at this
  rw [List.length_set]; exact this

end Go.Proofs.YtmcniddpjpbghaaDoor
