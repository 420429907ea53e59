/- The reference's ring. -/
import Derived.Test.YtlmbjnegajiphaaRgv15
import Derived.Test.YtlmbjnegajiphaaSal
namespace Go.Proofs.Ytlmbjnegajiphaa
set_option maxRecDepth 100000
open Go.RowKit

theorem inf_ringR : (Try.prog.info? 74).map (fun i => (i.zero, i.size, i.bytes)) = some (some (.agg #[.int .i64 0, .slice none 0 0]), 2, 32) := by kernel_rfl
/-- The reference's ring: block b its struct; the tasks L lie behind A, in blocks of S. -/
structure RrK (w : World) (S : Nat → Prop) (b R : Nat) (A : Option Addr) (c : Nat) (L : List SlotX) : Prop where
  blk : w.heap[b]? = some (.cells #[.int .i64 R, .slice A L.length c] 74 (0, 0))
  cap : L.length ≤ c
  at' : (A = none ∧ c = 0 ∧ L = []) ∨ ∃ g off, A = some ⟨g, off, none⟩ ∧ S g ∧ g ≠ b ∧ w.rangeAt g off (rowE slotA L)
  st : ∀ x ∈ L, StkV w (fun i => S i ∧ i ≠ b) x ∧ x.1.st.length ≤ 1000
  bS : S b
  lt : ∀ k, S k → k < w.heap.size
def RrV (w : World) (S : Nat → Prop) (b R : Nat) (M : List TK) : Prop := ∃ A c L, RrK w S b R A c L ∧ L.map Prod.fst = M
theorem range_part {w : World} {g off : Nat} {L : List SlotX} (h : w.rangeAt g off (rowE slotA L)) {j : Nat} (hj : j < L.length) : w.rangeAt g (off + j * 12) (slotA L[j]).toList := fun i u hu => by
  have h1 := rowE_get slotA_size (List.getElem?_eq_getElem hj) (j := i) (u := u) (by simpa using hu)
  have h2 := h _ _ h1
  rwa [← Nat.add_assoc] at h2
theorem rangeAt_frm {w w' : World} {T : Nat → Prop} {g off : Nat} {xs : List Value} (h : w.rangeAt g off xs) (hf : Frm T w w') (hg : ¬ T g) (hlt : g < w.heap.size) : w'.rangeAt g off xs := fun i u hu => by
  have h1 := h i u hu
  rw [hf.cell hlt hg]; exact h1
section
variable {w w' : World} {S T : Nat → Prop} {b R c : Nat} {A : Option Addr} {L : List SlotX} {M : List TK}
theorem RrK.keep (h : RrK w S b R A c L) (hf : Frm T w w') (hd : ∀ i, S i → ¬ T i) : RrK w' S b R A c L :=
  ⟨(hf.block b (h.lt b h.bS) (hd b h.bS)).trans h.blk, h.cap, by
    rcases h.at' with h1 | ⟨g, off, e, hg, hgb, hr⟩
    · exact .inl h1
    · exact .inr ⟨g, off, e, hg, hgb, rangeAt_frm hr hf (hd g hg) (h.lt g hg)⟩,
   fun x hx => ⟨(h.st x hx).1.keep hf (fun i hi => hd i hi.1) (fun _ _ h => h) (fun i hi => h.lt i hi.1), (h.st x hx).2⟩, h.bS, fun k hk => Nat.lt_of_lt_of_le (h.lt k hk) hf.size⟩
theorem RrK.below (h : RrK w S b R A c L) (hb : Below w.heap.size w w') : RrK w' S b R A c L := h.keep (T := fun _ => False) (Frm.of_below hb) fun _ _ => id
/-- What is left, when a part of the list is gone. -/
theorem RrK.cut (h : RrK w S b R A c L) {A' : Option Addr} {c' n m : Nat} {w' : World} (hf : Frm (fun i => i = b) w w') (hblk : w'.heap[b]? = some (.cells #[.int .i64 R, .slice A' m c'] 74 (0, 0)))
    (hm : ((L.drop n).take m).length = m) (hc : m ≤ c') (hA : (A' = none ∧ c' = 0 ∧ m = 0) ∨ ∃ g off, A = some ⟨g, off, none⟩ ∧ (A' = some ⟨g, off + n * 12, none⟩ ∨ m = 0 ∧ A' = some ⟨g, off, none⟩)) : RrK w' S b R A' c' ((L.drop n).take m) := by
  refine ⟨by rw [hm]; exact hblk, by rw [hm]; exact hc, ?_, fun x hx => ?_, h.bS, fun k hk => Nat.lt_of_lt_of_le (h.lt k hk) hf.size⟩
  · rcases hA with ⟨e1, e2, e3⟩ | ⟨g, off, e1, e2⟩
    · exact .inl ⟨e1, e2, by apply List.eq_nil_of_length_eq_zero; omega⟩
    · rcases h.at' with ⟨k1, _⟩ | ⟨g', off', e3, hg, hgb, hr⟩
      · rw [e1] at k1; cases k1
      · rw [e1] at e3
        have hgg : g = g' ∧ off = off' := by injection e3 with e3; injection e3 with e3 e4; exact ⟨e3, e4⟩
        obtain ⟨rfl, rfl⟩ := hgg
        rcases e2 with e2 | ⟨e2, e4⟩
        · refine .inr ⟨g, off + n * 12, e2, hg, hgb, fun i u hu => ?_⟩
          have hl := rowE_length slotA_size ((L.drop n).take m)
          have hi : i < m * 12 := by have := (List.getElem?_eq_some_iff.1 hu).1; rw [hl, hm] at this; exact this
          rw [hf.cell (h.lt g hg) hgb]
          have hlen : n + m ≤ L.length := by
            rw [List.length_take, List.length_drop] at hm
            omega
          have hj : i / 12 < m := by omega
          have h3 : ((L.drop n).take m)[i / 12]? = some (L[n + i / 12]'(by omega)) := by
            rw [List.getElem?_take, if_pos hj, List.getElem?_drop]; exact List.getElem?_eq_getElem _
          have h4 : (slotA (L[n + i / 12]'(by omega)))[i % 12]? = some u := by
            have h5 : (slotA (L[n + i / 12]'(by omega)))[i % 12]? = some ((slotA (L[n + i / 12]'(by omega)))[i % 12]'(by rw [slotA_size]; omega)) := Array.getElem?_eq_getElem _
            have h6 := rowE_get slotA_size h3 h5
            rw [show i / 12 * 12 + i % 12 = i from by omega, hu] at h6
            rw [h5, h6]
          have h5 := hr _ _ (rowE_get slotA_size (List.getElem?_eq_getElem (by omega : n + i / 12 < L.length)) h4)
          rw [show off + n * 12 + i = off + ((n + i / 12) * 12 + i % 12) from by omega]
          exact h5
        · refine .inr ⟨g, off, e4, hg, hgb, fun i u hu => ?_⟩
          have : (L.drop n).take m = [] := by apply List.eq_nil_of_length_eq_zero; omega
          rw [this] at hu; simp [rowE] at hu
  · have hx' : x ∈ L := List.mem_of_mem_drop (List.mem_of_mem_take hx)
    obtain ⟨h1, h2⟩ := h.st x hx'
    exact ⟨h1.keep hf (fun i hi e => hi.2 e) (fun _ _ h => h) (fun i hi => h.lt i hi.1), h2⟩
end

end Go.Proofs.Ytlmbjnegajiphaa
