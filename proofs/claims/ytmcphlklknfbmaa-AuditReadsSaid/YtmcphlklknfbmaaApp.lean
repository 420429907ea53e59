/- append of bytes that lie in memory, to a slice of the call's own. -/
import Derived.Test.YtmcphlklknfbmaaMem
import Derived.Laws.BytesArg
namespace Go.Proofs.Ytmcphlklknfbmaa
set_option maxRecDepth 100000
open Go.RowKit

theorem append_nothing {base : Nat} {ty : TypeId} {v : Value} {n : Nat} {xs : List Value} {w : World} (h : w.ownsRow base 5 1 v n xs) (c : Nat) :
    (Builtin.append_ #[54, 54] ty #[v, .slice none 0 c]).run Try.prog w = .ok v w := by
  obtain ⟨i0, hi, _, _, _⟩ := info_parts info_byte
  have hu : Sem.run Try.prog (underlying 54) w = .ok (TypeDesc.slice 5) w := run_underlying Try.underlying54 w
  obtain ⟨_, ⟨rfl, rfl⟩ | ⟨g, cap, cur, rfl, _, _, hle, _⟩⟩ := h
  · simp [Builtin.append_, Builtin.lenOf, Builtin.firstCells, hu, Go.sizeOf, typeInfo, hi]
  · simp [Builtin.append_, Builtin.lenOf, Builtin.firstCells, hu, Go.sizeOf, typeInfo, hi, hle, storeCells]

theorem wpList_append_lies {w : World} {ops : Array Oper} {rest : List Oper} {o : Oper} {a : Act} {Q : Exit → Act → World → Prop} (hgd : o.guard = none) (s x : Operand)
    (ho : o.op = .call { callee := .builtin .append, args := #[s, x], argTypes := #[54, 54] })
    (base : Nat) (v : Value) (n : Nat) (xs : List Value) (hs : a.eval s = v) (hown : w.ownsRow base 5 1 v n xs)
    (B : Nat) (A : Option Addr) (m c : Nat) (l : List Int) (hx : a.eval x = .slice A m c) (hlen : l.length = m) (hl : Lies w B A (u8s l))
    (hsz : n + m ≤ 140737488355328) (hbase : base ≤ w.heap.size)
    (h : ∀ v' w', w'.ownsRow base 5 1 v' (n + m) (xs ++ u8s l) → Below base w w' → wpList Try.prog ops Q rest (a.put o.dst v') w') : wpList Try.prog ops Q (o :: rest) a w := by
  obtain ⟨i0, hi, hz0, hz1, hz2⟩ := info_parts info_byte
  cases A with
  | none =>
    have hl0 : l = [] := by
      rcases Nat.eq_zero_or_pos l.length with h0 | h0
      · exact List.eq_nil_of_length_eq_zero h0
      · obtain ⟨b, off, e, _⟩ := hl (by simpa [u8s] using h0)
        cases e
    subst hl0
    simp only [List.length_nil] at hlen
    subst hlen
    refine wpList_plain hgd fun K hK => ?_
    have hrun := append_nothing (ty := o.type) hown c
    unfold Oper.wp
    simp [execOp, ho, resolve, invoke, builtin, hs, hx, hrun, Result.andThen]
    exact hK _ _ (h v w (by simpa [u8s] using hown) (Below.refl _ _))
  | some ad =>
    refine wpList_append_own w hgd s x 54 ho base 5 i0 (.int .u8 0) 1 1 Try.underlying54 hi hz0 hz1 hz2 rfl (by decide) v n xs hs hown ad m c (u8s l) hx (by simp [u8s, hlen]) ?_ ?_ (by unfold maxLen; omega) (by omega) hbase ?_
    · intro j u hu
      obtain ⟨b, off, e, hb, hc⟩ := hl (by have := (List.getElem?_eq_some_iff.1 hu).1; omega)
      injection e with e; subst e
      have ea : (⟨b, off, none⟩ : Addr).add j = ⟨b, off + j, none⟩ := by unfold Addr.add; split <;> simp_all
      rw [ea]
      exact hc j u hu
    · intro u hu
      obtain ⟨y, _, rfl⟩ := List.mem_map.1 hu
      rfl
    · intro v' w' ho' hg _
      exact h v' w' ho' ((Below.refl _ _).grown hg hbase (fun k hk => (hown.lt k hk).1))


/-- Bytes that lie in memory, as a string. -/
theorem conv_bytes {w : World} {B n : Nat} {A : Option Addr} {l : List Int} (hn : l.length = n) (hl : Lies w B A (u8s l)) (c : Nat) :
    (convert 54 9 (.slice A n c)).run Try.prog w = .ok (.string (strOfNums l)) w := by
  subst hn
  cases A with
  | none =>
    have hl0 : l = [] := by
      rcases Nat.eq_zero_or_pos l.length with h0 | h0
      · exact List.eq_nil_of_length_eq_zero h0
      · obtain ⟨b, off, e, _⟩ := hl (by simpa [u8s] using h0)
        cases e
    subst hl0
    exact run_convert_bytes_nil w _ _ Try.underlying54 Try.underlying5 _ c _ Try.underlying9
  | some a =>
    have hload : (loadCells a l.length).run Try.prog w = .ok (l.map (Value.int .u8)).toArray w := by
      have := run_loadCells_list (P := Try.prog) w a (l.map (Value.int .u8)) (fun j v hj => by
        obtain ⟨b, off, e, hb, hc⟩ := hl (by have := (List.getElem?_eq_some_iff.1 hj).1; simp [u8s] at this ⊢; omega)
        injection e with e; subst e
        have ea : (⟨b, off, none⟩ : Addr).add j = ⟨b, off + j, none⟩ := by unfold Addr.add; split <;> simp_all
        rw [ea]
        exact hc j v hj)
      simpa using this
    rw [run_convert_bytes_string w _ _ _ _ _ c Try.underlying54 Try.underlying5 Try.underlying9, run_bytesToString w _ _ c l hload, foldl_push_bytes]
    simp [strOfNums, ByteArray.empty, ByteArray.emptyWithCapacity]
    rfl


end Go.Proofs.Ytmcphlklknfbmaa
