/- append of one element, of one or more cells, that has just been laid down. (Cut out of Flow8.) -/
import Derived.Test.YtmcphlklknfbmaaApd
import Derived.Maps.AppendAt
namespace Go.Proofs.Ytmcphlklknfbmaa
set_option maxRecDepth 100000
open Go.RowKit

theorem own_succ {w : World} {base e sz k : Nat} {v : Value} {xs : List Value} (h : w.ownsRow base e sz v (k + 1) xs) : ∃ g cap, v = .slice (some ⟨g, 0, none⟩) (k + 1) cap := by
  rcases h.2 with ⟨_, h0⟩ | ⟨g, cap, _, hv, _⟩
  · cases h0
  · exact ⟨g, cap, hv⟩
theorem alloc_grown (w : World) (o : Obj) (row : Option Nat) : w.grownBy (w.alloc o) row := ⟨rfl, rfl, rfl, by simp, fun k hk _ => heap_alloc_old w o hk⟩
/-- append of one element, of one or more cells, that has just been laid down. -/
theorem wpList_append_new {w : World} {ops : Array Oper} {rest : List Oper} {o : Oper} {a : Act} {Q : Exit → Act → World → Prop} (t e : Nat) (z : Value) (size bytes : Nat)
    (ht : Try.prog.underlying t = some (.slice e)) (hinf : (Try.prog.info? e).map (fun i => (i.zero, i.size, i.bytes)) = some (some z, size, bytes)) (hzs : z.cells.size = size) (hsz : 0 < size) (hby : bytes ≤ 1000)
    (hgd : o.guard = none) (s x : Operand)
    (ho : o.op = .call { callee := .builtin .append, args := #[s, x], argTypes := #[t, t] })
    (base : Nat) (v : Value) (n : Nat) (xs : List Value) (cs : Array Value) (news : List Value) (hcs : cs = news.toArray) (hs : a.eval s = v) (hown : w.ownsRow base e size v n xs)
    (hx : a.eval x = .slice (some ⟨w.heap.size, 0, none⟩) 1 1) (hlen : news.length = size) (h1 : ∀ u ∈ news, u.oneCell' = true)
    (hn : n ≤ 999999) (hbase : base ≤ w.heap.size)
    (h : ∀ v' w', w'.ownsRow base e size v' (n + 1) (xs ++ news) → w.grownBy w' v.ownBlock → (v'.ownBlock = v.ownBlock ∨ ∃ k, v'.ownBlock = some k ∧ w.heap.size ≤ k) → wpList Try.prog ops Q rest (a.put o.dst v') w') :
    wpList Try.prog ops Q (o :: rest) a (w.alloc (.cells cs e)) := by
  subst hcs
  obtain ⟨i0, hi, hq⟩ : ∃ i0, Try.prog.info? e = some i0 ∧ (i0.zero, i0.size, i0.bytes) = (some z, size, bytes) := by
    cases hI : Try.prog.info? e with
    | none => rw [hI] at hinf; cases hinf
    | some i0 => rw [hI] at hinf; exact ⟨i0, rfl, by simpa using hinf⟩
  injection hq with hq1 hq2
  injection hq2 with hq2 hq3
  have hmul : (n + 1) * bytes ≤ 1000000 * 1000 := Nat.mul_le_mul (by omega) hby
  have hown2 : (w.alloc (.cells news.toArray e)).ownsRow base e size v n xs := hown.kept (row := none) ⟨rfl, rfl, rfl, by simp, fun k hk _ => heap_alloc_old w _ hk⟩ (by cases hv : v.ownBlock <;> simp)
  refine wpList_append_own_at _ hgd s x t ho base e i0 z size bytes ht hi hq1 hq2 hq3 hzs hsz v n xs hs hown2 ⟨w.heap.size, 0, none⟩ 1 1 news hx (by omega) ?_ h1 (by unfold maxLen; omega) (by omega) (by simp; omega) ?_
  · intro j u hu
    have hc : (w.alloc (.cells news.toArray e)).heap[w.heap.size]? = some (.cells news.toArray e (0, 0)) := heap_alloc_new w _
    have ea : (⟨w.heap.size, 0, none⟩ : Addr).add j = ⟨w.heap.size, 0 + j, none⟩ := by unfold Addr.add; split <;> simp_all
    rw [ea, Nat.zero_add, cell_blk hc]; simpa using hu
  · intro v' w' ho' hg _ hat
    refine h v' w' ho' ((alloc_grown w _ _).trans hg) ?_
    rcases hat with e | e
    · exact .inl e
    · exact .inr ⟨_, e, by simp⟩

end Go.Proofs.Ytmcphlklknfbmaa
