/- The flow of a function in memory: what it holds, and what stays of it behind a store. -/
import Derived.Test.YtjnlgmjcabbaaaaInv8
import Derived.Maps.AppendAt
namespace Go.Proofs.Ytjnlgmjcabbaaaa
set_option maxRecDepth 100000
open Go.RowKit

theorem set_far {w : World} {g k i : Nat} {u : Value} (h : k ≠ g) : (w.setCell ⟨g, i, none⟩ u).heap[k]? = w.heap[k]? := by
  simp [World.setCell, Array.getElem?_modify, h.symm]
theorem below_set {w : World} {lo g i : Nat} (hg : lo ≤ g) (u : Value) : Below lo w (w.setCell ⟨g, i, none⟩ u) :=
  ⟨rfl, rfl, rfl, by simp [World.setCell], fun k hk => set_far (by omega)⟩

structure Dims where
  lo : Nat
  g : Nat
  gb : Nat
  gd : Nat
  n : Nat
  cap : Nat
  cv : Value

/-- Block m.g of w is the flow s; its depths lie in block m.gd, what is bad in m.gb. -/
structure FlowS (w : World) (m : Dims) (s : Fl) (wv : Value) : Prop where
  hd : w.heap[m.g]? = some (.cells #[m.cv, .slice (some ⟨m.gd, 0, none⟩) m.n m.cap, .slice (some ⟨m.gb, 0, none⟩) m.n m.n, wv] 101 (0, 0))
  dep : ∃ cur, w.heap[m.gd]? = some (.cells cur 3 (0, 0)) ∧ ∀ k, k < m.n → cur[k]? = some (.int .i64 (s.D.getD k 0))
  bad : ∃ cur, w.heap[m.gb]? = some (.cells cur 4 (0, 0)) ∧ ∀ k, k < m.n → cur[k]? = some (.bool (s.Bd.getD k false))
  own : w.ownsRow m.lo 3 1 wv s.K.length (i64s (nats s.K))
  apd : wv.ownBlock ≠ some m.gd
  lg : m.lo ≤ m.g ∧ m.lo ≤ m.gb ∧ m.lo ≤ m.gd
  len : s.D.length = m.n ∧ s.Bd.length = m.n

section
variable {w w' : World} {m : Dims} {s : Fl} {wv : Value}
theorem FlowS.lt (h : FlowS w m s wv) : m.g < w.heap.size ∧ m.gd < w.heap.size ∧ m.gb < w.heap.size := by
  obtain ⟨c1, h1, _⟩ := h.dep
  obtain ⟨c2, h2, _⟩ := h.bad
  exact ⟨(Array.getElem?_eq_some_iff.1 h.hd).1, (Array.getElem?_eq_some_iff.1 h1).1, (Array.getElem?_eq_some_iff.1 h2).1⟩
theorem FlowS.ne (h : FlowS w m s wv) : m.g ≠ m.gd ∧ m.g ≠ m.gb ∧ m.gd ≠ m.gb := by
  obtain ⟨c1, h1, _⟩ := h.dep
  obtain ⟨c2, h2, _⟩ := h.bad
  refine ⟨fun e => ?_, fun e => ?_, fun e => ?_⟩
  · have := h.hd; rw [e, h1] at this; injection this with this; injection this with _ e2; exact absurd e2 (by decide)
  · have := h.hd; rw [e, h2] at this; injection this with this; injection this with _ e2; exact absurd e2 (by decide)
  · rw [e, h2] at h1; injection h1 with this; injection this with _ e2; exact absurd e2 (by decide)
theorem FlowS.wne (h : FlowS w m s wv) : wv.ownBlock ≠ some m.g ∧ wv.ownBlock ≠ some m.gb := by
  obtain ⟨c2, h2, _⟩ := h.bad
  rcases h.own.2 with ⟨rfl, _⟩ | ⟨g, cap, cur, rfl, _, hg, _⟩
  · exact ⟨by simp [Value.ownBlock], by simp [Value.ownBlock]⟩
  · refine ⟨fun e => ?_, fun e => ?_⟩
    · obtain rfl : g = m.g := by simpa [Value.ownBlock] using e
      have := h.hd; rw [hg] at this; injection this with this; injection this with _ e2; exact absurd e2 (by decide)
    · obtain rfl : g = m.gb := by simpa [Value.ownBlock] using e
      rw [hg] at h2; injection h2 with this; injection this with _ e2; exact absurd e2 (by decide)
theorem FlowS.c0 (h : FlowS w m s wv) : w.cell? ⟨m.g, 0, none⟩ = some m.cv := cell_blk h.hd 0
theorem FlowS.c1 (h : FlowS w m s wv) : w.cell? ⟨m.g, 1, none⟩ = some (.slice (some ⟨m.gd, 0, none⟩) m.n m.cap) := cell_blk h.hd 1
theorem FlowS.c2 (h : FlowS w m s wv) : w.cell? ⟨m.g, 2, none⟩ = some (.slice (some ⟨m.gb, 0, none⟩) m.n m.n) := cell_blk h.hd 2
theorem FlowS.c3 (h : FlowS w m s wv) : w.cell? ⟨m.g, 3, none⟩ = some wv := cell_blk h.hd 3
theorem FlowS.cd (h : FlowS w m s wv) {k : Nat} (hk : k < m.n) : w.cell? ⟨m.gd, k, none⟩ = some (.int .i64 (s.D.getD k 0)) := by
  obtain ⟨c1, h1, h2⟩ := h.dep; rw [cell_blk h1]; exact h2 k hk
theorem FlowS.cb (h : FlowS w m s wv) {k : Nat} (hk : k < m.n) : w.cell? ⟨m.gb, k, none⟩ = some (.bool (s.Bd.getD k false)) := by
  obtain ⟨c1, h1, h2⟩ := h.bad; rw [cell_blk h1]; exact h2 k hk
theorem FlowS.fd (h : FlowS w m s wv) (k : Nat) : w.frozen? ⟨m.gd, k, none⟩ = false := by
  obtain ⟨c1, h1, h2⟩ := h.dep; exact frozen_blk h1 k
theorem FlowS.fb (h : FlowS w m s wv) (k : Nat) : w.frozen? ⟨m.gb, k, none⟩ = false := by
  obtain ⟨c1, h1, h2⟩ := h.bad; exact frozen_blk h1 k
theorem FlowS.fg (h : FlowS w m s wv) (k : Nat) : w.frozen? ⟨m.g, k, none⟩ = false := frozen_blk h.hd k
theorem FlowS.below (h : FlowS w m s wv) (hb : Below w.heap.size w w') : FlowS w' m s wv := by
  obtain ⟨l1, l2, l3⟩ := h.lt
  obtain ⟨c1, h1, h1'⟩ := h.dep
  obtain ⟨c2, h2, h2'⟩ := h.bad
  exact ⟨(hb.block _ l1).trans h.hd, ⟨c1, (hb.block _ l2).trans h1, h1'⟩, ⟨c2, (hb.block _ l3).trans h2, h2'⟩,
    h.own.kept (row := none) ⟨hb.os, hb.tape, hb.output, hb.size, fun k hk _ => hb.block k hk⟩ (by cases hv : wv.ownBlock <;> simp), h.apd, h.lg, h.len⟩
theorem own_far {lo e sz n g i : Nat} {v u : Value} {xs : List Value} (h : w.ownsRow lo e sz v n xs) (hg : v.ownBlock ≠ some g) : (w.setCell ⟨g, i, none⟩ u).ownsRow lo e sz v n xs :=
  ownsRow_setCell_other h hg u
theorem getD_set_list {α : Type} (l : List α) (i k : Nat) (u z : α) (hk : k < l.length) : (l.set i u).getD k z = if i = k then u else l.getD k z := by
  rw [List.getD_eq_getElem?_getD, List.getD_eq_getElem?_getD, List.getElem?_set]
  split
  · rename_i h; subst h; simp [hk]
  · rfl
theorem FlowS.setD (h : FlowS w m s wv) {i : Nat} (d : Int) (hi : i < m.n) : FlowS (w.setCell ⟨m.gd, i, none⟩ (.int .i64 d)) m { s with D := s.D.set i d } wv := by
  obtain ⟨n1, n2, n3⟩ := h.ne
  obtain ⟨c1, h1, h1'⟩ := h.dep
  obtain ⟨c2, h2, h2'⟩ := h.bad
  refine ⟨(set_far n1).trans h.hd, ⟨_, set_blk h1 i (.int .i64 d), fun k hk => ?_⟩, ⟨c2, (set_far n3.symm).trans h2, h2'⟩, own_far h.own h.apd, h.apd, h.lg, by simpa using h.len⟩
  rw [getD_set_list _ _ _ _ _ (by rw [h.len.1]; exact hk), Array.getElem?_setIfInBounds]
  have := (Array.getElem?_eq_some_iff.1 (h1' k hk)).1
  split
  · rename_i e; subst e; simp [this]
  · exact h1' k hk
theorem FlowS.setB (h : FlowS w m s wv) {i : Nat} (hi : i < m.n) : FlowS (w.setCell ⟨m.gb, i, none⟩ (.bool true)) m { s with Bd := s.Bd.set i true } wv := by
  obtain ⟨n1, n2, n3⟩ := h.ne
  obtain ⟨c1, h1, h1'⟩ := h.dep
  obtain ⟨c2, h2, h2'⟩ := h.bad
  refine ⟨(set_far n2).trans h.hd, ⟨c1, (set_far n3).trans h1, h1'⟩, ⟨_, set_blk h2 i (.bool true), fun k hk => ?_⟩, own_far h.own h.wne.2, h.apd, h.lg, by simpa using h.len⟩
  rw [getD_set_list _ _ _ _ _ (by rw [h.len.2]; exact hk), Array.getElem?_setIfInBounds]
  have := (Array.getElem?_eq_some_iff.1 (h2' k hk)).1
  split
  · rename_i e; subst e; simp [this]
  · exact h2' k hk
/-- The work list has grown by one; the field is stored. -/
theorem FlowS.grow (h : FlowS w m s wv) {t : Nat} {wv' : Value} (ho : w'.ownsRow m.lo 3 1 wv' (s.K.length + 1) (i64s (nats s.K) ++ [.int .i64 (t : Nat)])) (hg : w.grownBy w' wv.ownBlock)
    (hat : wv'.ownBlock = wv.ownBlock ∨ ∃ k, wv'.ownBlock = some k ∧ w.heap.size ≤ k) : FlowS (w'.setCell ⟨m.g, 3, none⟩ wv') m { s with K := s.K ++ [t] } wv' := by
  obtain ⟨l1, l2, l3⟩ := h.lt
  obtain ⟨n1, n2, n3⟩ := h.ne
  obtain ⟨k1, k2⟩ := h.wne
  obtain ⟨c1, h1, h1'⟩ := h.dep
  obtain ⟨c2, h2, h2'⟩ := h.bad
  have e1 : w'.heap[m.g]? = _ := (hg.block _ l1 (fun e => k1 e.symm)).trans h.hd
  have a1 : wv'.ownBlock ≠ some m.g := by
    rcases hat with e | ⟨k, e, hk⟩ <;> rw [e]
    · exact k1
    · intro e; injection e with e; omega
  have a2 : wv'.ownBlock ≠ some m.gd := by
    rcases hat with e | ⟨k, e, hk⟩ <;> rw [e]
    · exact h.apd
    · intro e; injection e with e; omega
  refine ⟨set_blk e1 3 wv', ⟨c1, (set_far n1.symm).trans ((hg.block _ l2 (fun e => h.apd e.symm)).trans h1), h1'⟩, ⟨c2, (set_far n2.symm).trans ((hg.block _ l3 (fun e => k2 e.symm)).trans h2), h2'⟩, own_far ?_ a1, a2, h.lg, h.len⟩
  have e2 : i64s (nats (s.K ++ [t])) = i64s (nats s.K) ++ [.int .i64 (t : Nat)] := by simp [i64s, nats]
  rw [e2, List.length_append]
  exact ho
end

theorem own_succ {w : World} {base e sz k : Nat} {v : Value} {xs : List Value} (h : w.ownsRow base e sz v (k + 1) xs) : ∃ g cap, v = .slice (some ⟨g, 0, none⟩) (k + 1) cap := by
  rcases h.2 with ⟨_, h0⟩ | ⟨g, cap, _, hv, _⟩
  · cases h0
  · exact ⟨g, cap, hv⟩
theorem alloc_grown (w : World) (o : Obj) (row : Option Nat) : w.grownBy (w.alloc o) row := ⟨rfl, rfl, rfl, by simp, fun k hk _ => heap_alloc_old w o hk⟩
/-- append of one element, of one or more cells, that has just been laid down. -/
theorem wpList_append_new {w : World} {ops : Array Oper} {rest : List Oper} {o : Oper} {a : Act} {Q : Exit → Act → World → Prop} (t e : Nat) (z : Value) (size bytes : Nat)
    (ht : Try.prog.underlying t = some (.slice e)) (hinf : (Try.prog.info? e).map (fun i => (i.zero, i.size, i.bytes)) = some (some z, size, bytes)) (hzs : z.cells.size = size) (hsz : 0 < size) (hby : bytes ≤ 1000)
    (hgd : o.guard = none) (s x : Operand)
    (ho : o.op = .call { callee := .builtin .append, args := #[s, x], argTypes := #[t, t] })
    (base : Nat) (v : Value) (n : Nat) (xs : List Value) (cs : Array Value) (news : List Value) (hcs : cs = news.toArray) (hs : a.eval s = v) (hown : w.ownsRow base e size v n xs)
    (hx : a.eval x = .slice (some ⟨w.heap.size, 0, none⟩) 1 1) (hlen : news.length = size) (h1 : ∀ u ∈ news, u.oneCell' = true)
    (hn : n ≤ 999999) (hbase : base ≤ w.heap.size)
    (h : ∀ v' w', w'.ownsRow base e size v' (n + 1) (xs ++ news) → w.grownBy w' v.ownBlock → (v'.ownBlock = v.ownBlock ∨ ∃ k, v'.ownBlock = some k ∧ w.heap.size ≤ k) → wpList Try.prog ops Q rest (a.put o.dst v') w') :
    wpList Try.prog ops Q (o :: rest) a (w.alloc (.cells cs e)) := by
  subst hcs
  obtain ⟨i0, hi, hq⟩ : ∃ i0, Try.prog.info? e = some i0 ∧ (i0.zero, i0.size, i0.bytes) = (some z, size, bytes) := by
    cases hI : Try.prog.info? e with
    | none => rw [hI] at hinf; cases hinf
    | some i0 => rw [hI] at hinf; exact ⟨i0, rfl, by simpa using hinf⟩
  injection hq with hq1 hq2
  injection hq2 with hq2 hq3
  have hmul : (n + 1) * bytes ≤ 1000000 * 1000 := Nat.mul_le_mul (by omega) hby
  have hown2 : (w.alloc (.cells news.toArray e)).ownsRow base e size v n xs := hown.kept (row := none) ⟨rfl, rfl, rfl, by simp, fun k hk _ => heap_alloc_old w _ hk⟩ (by cases hv : v.ownBlock <;> simp)
  refine wpList_append_own_at _ hgd s x t ho base e i0 z size bytes ht hi hq1 hq2 hq3 hzs hsz v n xs hs hown2 ⟨w.heap.size, 0, none⟩ 1 1 news hx (by omega) ?_ h1 (by unfold maxLen; omega) (by omega) (by simp; omega) ?_
  · intro j u hu
    have hc : (w.alloc (.cells news.toArray e)).heap[w.heap.size]? = some (.cells news.toArray e (0, 0)) := heap_alloc_new w _
    have ea : (⟨w.heap.size, 0, none⟩ : Addr).add j = ⟨w.heap.size, 0 + j, none⟩ := by unfold Addr.add; split <;> simp_all
    rw [ea, Nat.zero_add, cell_blk hc]; simpa using hu
  · intro v' w' ho' hg _ hat
    refine h v' w' ho' ((alloc_grown w _ _).trans hg) ?_
    rcases hat with e | e
    · exact .inl e
    · exact .inr ⟨_, e, by simp⟩

end Go.Proofs.Ytjnlgmjcabbaaaa
