/- Package ring in memory: its predicate; New, Len, Room, slot, leaveBottom, leaveTop, Push, remove, Pop, Steal. -/
import Derived.Test.YtlmbjnegajiphaaMod15
import Derived.Test.YtlmbjnegajiphaaStk
import Derived.Test.YtlmbjnegajiphaaOwn
import Derived.Test.YtlmbjnegajiphaaMid
import Derived.Test.YtlmbjnegajiphaaSto12
import Derived.IntWalk
import Derived.Deep.QuietTactic
import Derived.BigQuiet
namespace Go.Proofs.Ytlmbjnegajiphaa
set_option maxRecDepth 100000
open Go.RowKit

/-- The ring: block a its struct, sb its slots; K the blocks of the stacks. -/
structure RgK (w : World) (K : Nat → Prop) (a sb R top cnt : Nat) (C : Nat → SlotX) : Prop where
  blk : w.heap[a]? = some (.cells #[.slice (some ⟨sb, 0, none⟩) R R, .int .i64 top, .int .i64 cnt] 120 (0, 0))
  slo : w.heap[sb]? = some (.cells (rowE slotA ((List.range R).map C)).toArray 51 (0, 0))
  st : ∀ k, k < R → StkV w K (C k) ∧ (C k).1.st.length ≤ 100000
  r1 : 1 ≤ R ∧ R ≤ 64
  tp : top < R
  ct : cnt ≤ R
  ne : a ≠ sb
  nk : ¬ K a ∧ ¬ K sb
  lt : ∀ i, K i → i < w.heap.size
/-- All its blocks. -/
def RgS (K : Nat → Prop) (a sb : Nat) : Nat → Prop := fun i => K i ∨ i = a ∨ i = sb
section
variable {w w' : World} {K K' T : Nat → Prop} {a sb R top cnt : Nat} {C : Nat → SlotX}
theorem RgK.lts (h : RgK w K a sb R top cnt C) : ∀ i, RgS K a sb i → i < w.heap.size := by
  rintro i (h1 | rfl | rfl)
  · exact h.lt i h1
  · exact (Array.getElem?_eq_some_iff.1 h.blk).1
  · exact (Array.getElem?_eq_some_iff.1 h.slo).1
theorem RgK.keep (h : RgK w K a sb R top cnt C) (hf : Frm T w w') (hd : ∀ i, RgS K a sb i → ¬ T i) : RgK w' K a sb R top cnt C :=
  ⟨(hf.block a (h.lts a (.inr (.inl rfl))) (hd a (.inr (.inl rfl)))).trans h.blk, (hf.block sb (h.lts sb (.inr (.inr rfl))) (hd sb (.inr (.inr rfl)))).trans h.slo,
    fun k hk => ⟨(h.st k hk).1.keep hf (fun i hi => hd i (.inl hi)) (fun _ _ h => h) h.lt, (h.st k hk).2⟩, h.r1, h.tp, h.ct, h.ne, h.nk, fun i hi => Nat.lt_of_lt_of_le (h.lt i hi) hf.size⟩
theorem RgK.below (h : RgK w K a sb R top cnt C) (hb : Below w.heap.size w w') : RgK w' K a sb R top cnt C := h.keep (T := fun _ => False) (Frm.of_below hb) fun _ _ => id
theorem rowE_slots (C : Nat → SlotX) (R : Nat) : (rowE slotA ((List.range R).map C)).length = R * 12 := by rw [rowE_length slotA_size]; simp
/-- The cells of a slot. -/
theorem RgK.range (h : RgK w K a sb R top cnt C) {k : Nat} (hk : k < R) : w.rangeAt sb (k * 12) (slotA (C k)).toList := fun j u hu => by
  have hx : ((List.range R).map C)[k]? = some (C k) := by simp [hk]
  have h1 := rowE_get slotA_size hx (j := j) (u := u) (by simpa using hu)
  rw [cell_blk h.slo]
  simpa using h1
theorem slots_set (C : Nat → SlotX) {R k : Nat} (hk : k < R) (x : SlotX) : (rowE slotA ((List.range R).map C)).take (k * 12) ++ (slotA x).toList ++ (rowE slotA ((List.range R).map C)).drop (k * 12 + 12) = rowE slotA ((List.range R).map (upd C k x)) := by
  have hl := rowE_slots C R
  have hg : ∀ (D : Nat → SlotX) i, i < R * 12 → (rowE slotA ((List.range R).map D))[i]? = (slotA (D (i / 12)))[i % 12]? := fun D i hi => by
    have hx : ((List.range R).map D)[i / 12]? = some (D (i / 12)) := by
      have hlt : i / 12 < R := by omega
      rw [List.getElem?_map, List.getElem?_range hlt]; rfl
    have hj : (slotA (D (i / 12)))[i % 12]? = some ((slotA (D (i / 12)))[i % 12]'(by rw [slotA_size]; omega)) := by
      rw [Array.getElem?_eq_getElem]
    have h1 := rowE_get slotA_size hx hj
    rw [show i / 12 * 12 + i % 12 = i from by omega] at h1
    rw [h1, hj]
  apply List.ext_getElem?
  intro i
  have hs : (slotA x).toList.length = 12 := by simp [slotA_size]
  by_cases hi : i < R * 12
  · rw [hg _ i hi]
    by_cases h1 : i < k * 12
    · rw [List.append_assoc, List.getElem?_append_left (by rw [List.length_take, hl]; omega), List.getElem?_take, if_pos h1, hg C i hi, upd_ne C x (by omega)]
    · by_cases h2 : i < k * 12 + 12
      · rw [List.append_assoc, List.getElem?_append_right (by rw [List.length_take, hl]; omega), List.getElem?_append_left (by rw [List.length_take, hl, hs]; omega), List.length_take, hl,
          show i / 12 = k from by omega, upd_self, show min (k * 12) (R * 12) = k * 12 from by omega, show i - k * 12 = i % 12 from by omega]
        simp
      · rw [List.getElem?_append_right (by simp [hs, hl]; omega), List.getElem?_drop, List.length_append, List.length_take, hl, hs, show min (k * 12) (R * 12) = k * 12 from by omega,
          show k * 12 + 12 + (i - (k * 12 + 12)) = i from by omega, hg C i hi, upd_ne C x (by omega)]
  · rw [List.getElem?_eq_none (by simp [hs, hl]; omega), List.getElem?_eq_none (by rw [rowE_slots]; omega)]
end

end Go.Proofs.Ytlmbjnegajiphaa
