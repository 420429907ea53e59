/- A store of things by label in memory: its struct, its quotas, its table of rows, each row's things. -/
import Derived.Test.YtmcphlklknfbmaaStp
import Derived.Test.YtmcphlklknfbmaaApn8
namespace Go.Proofs.Ytmcphlklknfbmaa
set_option maxRecDepth 100000
open Go.RowKit

/-- The cells of a row of things, each of which takes sz cells. -/
def rowE {X : Type} (enc : X → Array Value) (l : List X) : List Value := l.flatMap fun x => (enc x).toList
section
variable {X : Type} {enc : X → Array Value} {sz : Nat}
theorem rowE_append (l m : List X) : rowE enc (l ++ m) = rowE enc l ++ rowE enc m := by simp [rowE]
theorem rowE_one (x : X) : rowE enc [x] = (enc x).toList := by simp [rowE]
theorem rowE_cons (x : X) (l : List X) : rowE enc (x :: l) = (enc x).toList ++ rowE enc l := by simp [rowE]
theorem rowE_length (h : ∀ x, (enc x).size = sz) : ∀ l : List X, (rowE enc l).length = l.length * sz
  | [] => by simp [rowE]
  | x :: l => by rw [rowE_cons, List.length_append, rowE_length h l]; simp [h x, Nat.add_mul]; omega
theorem rowE_get (h : ∀ x, (enc x).size = sz) : ∀ {l : List X} {k j : Nat} {x : X} {u : Value} (_ : l[k]? = some x) (_ : (enc x)[j]? = some u), (rowE enc l)[k * sz + j]? = some u
  | [], k, j, x, u, hk, _ => by simp at hk
  | y :: l, 0, j, x, u, hk, hj => by
    obtain rfl : y = x := by simpa using hk
    have hjs := (Array.getElem?_eq_some_iff.1 hj).1
    rw [rowE_cons, Nat.zero_mul, Nat.zero_add, List.getElem?_append_left (by simpa using hjs)]
    simpa using hj
  | y :: l, k + 1, j, x, u, hk, hj => by
    have hy := h y
    rw [rowE_cons, List.getElem?_append_right (by simp [hy, Nat.add_mul]; omega)]
    have e : (k + 1) * sz + j - (enc y).toList.length = k * sz + j := by simp [hy, Nat.add_mul]; omega
    rw [e]
    exact rowE_get h (by simpa using hk) hj
theorem rowE_set (h : ∀ x, (enc x).size = sz) : ∀ {l : List X} {k j : Nat} {x x' : X} {u : Value} (_ : l[k]? = some x) (_ : j < sz) (_ : enc x' = (enc x).setIfInBounds j u), (rowE enc l).set (k * sz + j) u = rowE enc (l.set k x')
  | [], k, j, x, x', u, hk, _, _ => by simp at hk
  | y :: l, 0, j, x, x', u, hk, hj, hx => by
    obtain rfl : y = x := by simpa using hk
    have hy := h y
    rw [rowE_cons, Nat.zero_mul, Nat.zero_add, List.set_append_left _ _ (by simpa [hy] using hj), List.set_cons_zero, rowE_cons, hx]
    simp
  | y :: l, k + 1, j, x, x', u, hk, hj, hx => by
    have hy := h y
    rw [rowE_cons, List.set_append_right _ _ (by simp [hy, Nat.add_mul]; omega), List.set_cons_succ, rowE_cons]
    have e : (k + 1) * sz + j - (enc y).toList.length = k * sz + j := by simp [hy, Nat.add_mul]; omega
    rw [e, rowE_set h (by simpa using hk) hj hx]
end

/-- The store: block gs its struct, tb the table of its rows, vs the rows' slices, qs the quotas, Ls what was made. -/
structure StoK {X : Type} (enc : X → Array Value) (w : World) (S : Nat → Prop) (t e er sz gs : Nat) (qA : Option Addr) (qc tb : Nat) (vs : List Value) (qs : List Int) (Ls : List (List X)) : Prop where
  siz : ∀ x, (enc x).size = sz
  blk : w.heap[gs]? = some (.cells #[.slice qA qs.length qc, .slice (some ⟨tb, 0, none⟩) Ls.length Ls.length] t (0, 0))
  tbl : w.heap[tb]? = some (.cells vs.toArray er (0, 0))
  len : vs.length = Ls.length
  qln : qs.length = Ls.length
  row : ∀ (k : Nat) (v : Value) (l : List X), vs[k]? = some v → Ls[k]? = some l → w.ownsRow 0 e sz v l.length (rowE enc l)
  qv : Lies w w.heap.size qA (i64s qs)
  inS : S gs ∧ S tb
  qS : ∀ b off, qA = some ⟨b, off, none⟩ → S b ∧ b ≠ gs ∧ b ≠ tb
  rS : ∀ v ∈ vs, ∀ b, v.ownBlock = some b → S b ∧ b ≠ gs ∧ b ≠ tb ∧ ∀ off, qA ≠ some ⟨b, off, none⟩
  dif : ∀ (j k : Nat) (u v : Value) (b : Nat), j ≠ k → vs[j]? = some u → vs[k]? = some v → u.ownBlock = some b → v.ownBlock ≠ some b
  ne : gs ≠ tb
  lt : ∀ b, S b → b < w.heap.size

section
variable {w w' : World} {S T : Nat → Prop} {t e er sz gs qc tb : Nat} {qA : Option Addr} {vs : List Value} {qs : List Int} {X : Type} {enc : X → Array Value} {Ls : List (List X)}
theorem ownsRow_keep {base n : Nat} {v : Value} {xs : List Value} (h : w.ownsRow base e sz v n xs) (hk : ∀ b, v.ownBlock = some b → w'.heap[b]? = w.heap[b]?) : w'.ownsRow base e sz v n xs := by
  refine ⟨h.1, ?_⟩
  rcases h.2 with hn | ⟨g, cap, cur, rfl, hb, hgg, rest⟩
  · exact .inl hn
  · exact .inr ⟨g, cap, cur, rfl, hb, (hk g rfl).trans hgg, rest⟩
theorem lies_keepA {B B' : Nat} {A : Option Addr} {xs : List Value} (h : Lies w B A xs) (hB : B ≤ B') (hk : ∀ b off, A = some ⟨b, off, none⟩ → b < B → w'.heap[b]? = w.heap[b]?) : Lies w' B' A xs := fun hn => by
  obtain ⟨b, off, e, hb, hc⟩ := h hn
  exact ⟨b, off, e, by omega, fun j u hu => (World.cell?_of_block (w := w) (hk b off e hb)).trans (hc j u hu)⟩
theorem StoK.keep (h : StoK enc w S t e er sz gs qA qc tb vs qs Ls) (hf : Frm T w w') (hd : ∀ i, S i → ¬ T i) : StoK enc w' S t e er sz gs qA qc tb vs qs Ls := by
  have hk : ∀ b, S b → w'.heap[b]? = w.heap[b]? := fun b hb => hf.block b (h.lt b hb) (hd b hb)
  exact ⟨h.siz, (hk gs h.inS.1).trans h.blk, (hk tb h.inS.2).trans h.tbl, h.len, h.qln,
    fun k v l hv hl => ownsRow_keep (h.row k v l hv hl) fun b hb => hk b (h.rS v (List.mem_of_getElem? hv) b hb).1,
    lies_keepA h.qv hf.size fun b off e _ => hk b (h.qS b off e).1, h.inS, h.qS, h.rS, h.dif, h.ne, fun b hb => Nat.lt_of_lt_of_le (h.lt b hb) hf.size⟩
theorem StoK.below (h : StoK enc w S t e er sz gs qA qc tb vs qs Ls) (hb : Below w.heap.size w w') : StoK enc w' S t e er sz gs qA qc tb vs qs Ls :=
  h.keep (T := fun _ => False) (Frm.of_below hb) fun _ _ => id
theorem StoK.row_at (h : StoK enc w S t e er sz gs qA qc tb vs qs Ls) {k : Nat} (hk : k < Ls.length) :
    ∃ A c, vs[k]? = some (.slice A Ls[k].length c) ∧ w.cell? ⟨tb, k, none⟩ = some (.slice A Ls[k].length c) ∧ w.ownsRow 0 e sz (.slice A Ls[k].length c) Ls[k].length (rowE enc Ls[k]) := by
  have hkv : k < vs.length := by rw [h.len]; exact hk
  have h1 : vs[k]? = some vs[k] := List.getElem?_eq_getElem hkv
  have ho := h.row k _ _ h1 (List.getElem?_eq_getElem hk)
  have hc : w.cell? ⟨tb, k, none⟩ = some vs[k] := by rw [cell_blk h.tbl]; simp
  rcases ho.2 with ⟨e1, e2⟩ | ⟨g, cap, cur, e1, _⟩
  · rw [e1] at h1 hc ho
    exact ⟨none, 0, by rw [h1, e2], by rw [hc, e2], by rw [e2] at ho ⊢; exact ho⟩
  · rw [e1] at h1 hc ho
    exact ⟨_, cap, h1, hc, ho⟩
/-- A cell of a thing. -/
theorem own_itm {A : Option Addr} {n c base : Nat} {l : List X} (ho : w.ownsRow base e sz (.slice A n c) l.length (rowE enc l)) (hs : ∀ x, (enc x).size = sz) {k : Nat} (hk : k < l.length) :
    ∃ g, A = some ⟨g, 0, none⟩ ∧ w.frozen? ⟨g, 0, none⟩ = false ∧ ∀ j u, (enc l[k])[j]? = some u → w.cell? ⟨g, k * sz + j, none⟩ = some u := by
  rcases ho.2 with ⟨_, h0⟩ | ⟨g, cap, cur, e1, _, hg, _⟩
  · omega
  · injection e1 with e1
    refine ⟨g, e1, frozen_blk hg 0, fun j u hu => ?_⟩
    have := ho.cells (g := g) (by rw [e1]; rfl) (k * sz + j) u (rowE_get hs (List.getElem?_eq_getElem hk) hu)
    have ea : (⟨g, 0, none⟩ : Addr).add (k * sz + j) = ⟨g, k * sz + j, none⟩ := by unfold Addr.add; split <;> simp_all
    rwa [ea] at this
/-- Behind a store into a cell of a thing. -/
theorem StoK.set (h : StoK enc w S t e er sz gs qA qc tb vs qs Ls) {k j g n c : Nat} (hk : k < Ls.length) (hj : j < Ls[k].length) {i : Nat} (hi : i < sz) (hv : vs[k]? = some (.slice (some ⟨g, 0, none⟩) n c)) {u : Value} {x' : X} (hx : enc x' = (enc Ls[k][j]).setIfInBounds i u) :
    StoK enc (w.setCell ⟨g, j * sz + i, none⟩ u) S t e er sz gs qA qc tb vs qs (Ls.set k (Ls[k].set j x')) := by
  have hm := List.mem_of_getElem? hv
  obtain ⟨hS, h1, h2, h3⟩ := h.rS _ hm g rfl
  have hset : ∀ b, b ≠ g → (w.setCell ⟨g, j * sz + i, none⟩ u).heap[b]? = w.heap[b]? := fun b hb => Below.heap_setCell _ _ _ _ hb
  refine ⟨h.siz, ?_, (hset tb (Ne.symm h2)).trans h.tbl, by rw [h.len]; simp, by rw [h.qln]; simp, ?_, ?_, h.inS, h.qS, h.rS, h.dif, h.ne, fun b hb => by simpa [World.setCell] using h.lt b hb⟩
  · rw [List.length_set]; exact (hset gs (Ne.symm h1)).trans h.blk
  · intro k' v' l' hv' hl'
    by_cases hkk : k' = k
    · subst hkk
      rw [hv] at hv'
      injection hv' with hv'
      subst hv'
      rw [List.getElem?_set_self (by simpa using hk)] at hl'
      injection hl' with hl'
      subst hl'
      have ho := h.row k' _ _ hv (List.getElem?_eq_getElem hk)
      have hrl := rowE_set h.siz (List.getElem?_eq_getElem hj) hi hx
      refine ⟨?_, ?_⟩
      · rw [← hrl, List.length_set, ho.1]; simp
      rcases ho.2 with ⟨e1, _⟩ | ⟨g', cap, cur, e1, hb, hg, hn, hm2, hcs, htk⟩
      · cases e1
      · injection e1 with e1 e2 e3
        injection e1 with e1
        injection e1 with e1 _
        subst e1
        refine .inr ⟨g, cap, cur.setIfInBounds (j * sz + i) u, by rw [List.length_set, e2, e3], hb, set_blk hg _ u, by simpa using hn, hm2, by simpa using hcs, ?_⟩
        rw [← hrl, ← htk, Array.toList_setIfInBounds, List.length_set, List.take_set]
    · rw [List.getElem?_set_ne (Ne.symm hkk)] at hl'
      exact ownsRow_keep (h.row k' v' l' hv' hl') fun b hb => hset b fun e => h.dif k' k v' _ b hkk hv' hv hb (by rw [e]; rfl)
  · exact lies_keepA h.qv (by simp [World.setCell]) fun b off e _ => hset b fun eb => h3 off (by rw [e, eb])
/-- Behind an append to a row and the store of its slice. -/
theorem StoK.made (h : StoK enc w S t e er sz gs qA qc tb vs qs Ls) {k : Nat} (hk : k < Ls.length) {v v' : Value} (hv : vs[k]? = some v) {x : X} {w1 : World}
    (ho : w1.ownsRow 0 e sz v' (Ls[k].length + 1) (rowE enc Ls[k] ++ (enc x).toList)) (hg : w.grownBy w1 v.ownBlock) (hat : v'.ownBlock = v.ownBlock ∨ ∃ b, v'.ownBlock = some b ∧ w.heap.size ≤ b) :
    ∃ S', StoK enc (w1.setCell ⟨tb, k, none⟩ v') S' t e er sz gs qA qc tb (vs.set k v') qs (Ls.set k (Ls[k] ++ [x])) ∧ Stp S S' w (w1.setCell ⟨tb, k, none⟩ v') := by
  have hvb : ∀ b, v.ownBlock = some b → S b ∧ b ≠ gs ∧ b ≠ tb ∧ ∀ off, qA ≠ some ⟨b, off, none⟩ := h.rS v (List.mem_of_getElem? hv)
  have hkeep : ∀ b, S b → v.ownBlock ≠ some b → w1.heap[b]? = w.heap[b]? := fun b hb hne => hg.block b (h.lt b hb) (fun e => hne e.symm)
  have hset : ∀ b, b ≠ tb → (w1.setCell ⟨tb, k, none⟩ v').heap[b]? = w1.heap[b]? := fun b hb => Below.heap_setCell _ _ _ _ hb
  have hkb : ∀ b, S b → b ≠ tb → v.ownBlock ≠ some b → (w1.setCell ⟨tb, k, none⟩ v').heap[b]? = w.heap[b]? := fun b h1 h2 h3 => (hset b h2).trans (hkeep b h1 h3)
  have hsz1 : (w1.setCell ⟨tb, k, none⟩ v').heap.size = w1.heap.size := by simp [World.setCell]
  have hvlt := ho.lt
  have hkv : k < vs.length := by rw [h.len]; exact hk
  -- what is new of the row's block
  have hnew : ∀ b, v'.ownBlock = some b → (S b ∧ v.ownBlock = some b) ∨ w.heap.size ≤ b := fun b hb => by
    rcases hat with e | ⟨b', e, hb'⟩
    · rw [e] at hb; exact .inl ⟨(hvb b hb).1, hb⟩
    · rw [e] at hb; injection hb with hb; subst hb; exact .inr hb'
  have hnb : ∀ b, v'.ownBlock = some b → b ≠ gs ∧ b ≠ tb ∧ ∀ off, qA ≠ some ⟨b, off, none⟩ := fun b hb => by
    rcases hnew b hb with ⟨_, h2⟩ | h2
    · exact (hvb b h2).2
    · exact ⟨fun e => by have := h.lt gs h.inS.1; omega, fun e => by have := h.lt tb h.inS.2; omega, fun off e => by have := h.lt b (h.qS b off e).1; omega⟩
  have hmem : ∀ u ∈ vs.set k v', u = v' ∨ u ∈ vs := fun u hu => by
    rcases List.mem_or_eq_of_mem_set hu with hu | hu
    · exact .inr hu
    · exact .inl hu
  refine ⟨fun i => S i ∨ v'.ownBlock = some i, ⟨h.siz, ?_, ?_, ?_, ?_, ?_, ?_, ⟨.inl h.inS.1, .inl h.inS.2⟩, ?_, ?_, ?_, h.ne, ?_⟩, ?_⟩
  · rw [List.length_set]
    exact (hkb gs h.inS.1 h.ne (fun e => (hvb gs e).2.1 rfl)).trans h.blk
  · rw [set_blk ((hkeep tb h.inS.2 (fun e => (hvb tb e).2.2.1 rfl)).trans h.tbl) k v']
    simp
  · simp [h.len]
  · simp [h.qln]
  · intro k' u l hu hl
    by_cases hkk : k' = k
    · subst hkk
      rw [List.getElem?_set_self (by simpa using hkv)] at hu
      rw [List.getElem?_set_self (by simpa using hk)] at hl
      injection hu with hu; injection hl with hl
      subst hu; subst hl
      rw [List.length_append, rowE_append, rowE_one]
      exact ownsRow_keep ho fun b hb => hset b (hnb b hb).2.1
    · rw [List.getElem?_set_ne (Ne.symm hkk)] at hl hu
      exact ownsRow_keep (h.row k' u l hu hl) fun b hb => hkb b (h.rS u (List.mem_of_getElem? hu) b hb).1 (h.rS u (List.mem_of_getElem? hu) b hb).2.2.1 (h.dif k' k u v b hkk hu hv hb)
  · refine lies_keepA h.qv (by rw [hsz1]; exact hg.size) fun b off e _ => hkb b (h.qS b off e).1 (h.qS b off e).2.2 (fun e2 => (hvb b e2).2.2.2 off e)
  · intro b off e
    exact ⟨.inl (h.qS b off e).1, (h.qS b off e).2⟩
  · intro u hu b hb
    rcases hmem u hu with rfl | hu
    · exact ⟨.inr hb, hnb b hb⟩
    · exact ⟨.inl (h.rS u hu b hb).1, (h.rS u hu b hb).2⟩
  · have hother : ∀ j u b, j ≠ k → vs[j]? = some u → u.ownBlock = some b → v'.ownBlock ≠ some b := fun j u b hj hu hb e => by
      rcases hnew b e with ⟨_, h2⟩ | h2
      · exact h.dif j k u v b hj hu hv hb h2
      · have := h.lt b (h.rS u (List.mem_of_getElem? hu) b hb).1; omega
    intro j k' u u' b hjk hu hu' hb hb'
    by_cases h1 : j = k
    · subst h1
      rw [List.getElem?_set_self (by simpa using hkv)] at hu
      injection hu with hu
      subst hu
      rw [List.getElem?_set_ne hjk] at hu'
      exact hother k' u' b (Ne.symm hjk) hu' hb' hb
    · rw [List.getElem?_set_ne (Ne.symm h1)] at hu
      by_cases h2 : k' = k
      · subst h2
        rw [List.getElem?_set_self (by simpa using hkv)] at hu'
        injection hu' with hu'
        subst hu'
        exact hother j u b h1 hu hb hb'
      · rw [List.getElem?_set_ne (Ne.symm h2)] at hu'
        exact h.dif j k' u u' b hjk hu hu' hb hb'
  · rintro b (hb | hb)
    · rw [hsz1]; exact Nat.lt_of_lt_of_le (h.lt b hb) hg.size
    · rw [hsz1]; exact (hvlt b hb).2
  · refine ⟨⟨hg.os, hg.tape, hg.output, by rw [hsz1]; exact hg.size, fun b hb hn => ?_⟩, ?_, ?_⟩
    · rw [hset b (fun e => hn (e ▸ h.inS.2))]
      exact hg.block b hb (fun e => hn (hvb b e.symm).1)
    · rintro i hi (h1 | h1)
      · exact h1
      · rcases hnew i h1 with ⟨h2, _⟩ | h2
        · exact h2
        · omega
    · rintro b (hb | hb)
      · rw [hsz1]; exact Nat.lt_of_lt_of_le (h.lt b hb) hg.size
      · rw [hsz1]; exact (hvlt b hb).2
end

end Go.Proofs.Ytmcphlklknfbmaa
