/- Law 22: append of records that lie anywhere; a log's Add of any list; an argument's records; a record of one's own list changed, two swapped. -/
import Derived.Test.YtmcphlklknfbmaaRp22
import Derived.Test.YtmcphlklknfbmaaMid
import Derived.Laws.OwnMore
namespace Go.Proofs.Ytmcphlklknfbmaa
set_option maxRecDepth 100000
open Go.RowKit

theorem rcs_none {base n : Nat} {ty : TypeId} {v : Value} {xs : List Value} {w : World} (h : w.ownsRow base 59 6 v n xs) (c : Nat) :
    (Builtin.append_ #[44, 44] ty #[v, .slice none 0 c]).run Try.prog w = .ok v w := by
  obtain ⟨i0, hi⟩ : ∃ i0, Try.prog.info? 59 = some i0 := by
    have hinf := inf_rec
    cases hI : Try.prog.info? 59 with
    | none => rw [hI] at hinf; cases hinf
    | some i0 => exact ⟨i0, rfl⟩
  have hu : Sem.run Try.prog (underlying 44) w = .ok (TypeDesc.slice 59) w := run_underlying Try.underlying44 w
  obtain ⟨_, ⟨rfl, rfl⟩ | ⟨g, cap, cur, rfl, _, _, hle, _⟩⟩ := h
  · simp [Builtin.append_, Builtin.lenOf, Builtin.firstCells, hu, Go.sizeOf, typeInfo, hi]
  · simp [Builtin.append_, Builtin.lenOf, Builtin.firstCells, hu, Go.sizeOf, typeInfo, hi, hle, storeCells]
section
variable {ops : Array Oper} {rest : List Oper} {o : Oper} {a : Act} {w : World} {Q : Exit → Act → World → Prop}
/-- append of records, wherever they lie; of none too. -/
theorem append_rcs (hgd : o.guard = none) (s x : Operand) (ho : o.op = .call { callee := .builtin .append, args := #[s, x], argTypes := #[44, 44] })
    (base : Nat) (v : Value) (L : List RecX) (hs : a.eval s = v) (hown : OwnR w base v L) (vx : Value) (L2 : List RecX) (hx : a.eval x = vx) (hr : RcV w vx L2)
    (hn : L.length + L2.length ≤ 999999) (hbase : base ≤ w.heap.size)
    (h : ∀ v' w', OwnR w' base v' (L ++ L2) → w.grownBy w' v.ownBlock → (v'.ownBlock = v.ownBlock ∨ ∃ k, v'.ownBlock = some k ∧ w.heap.size ≤ k) → wpList Try.prog ops Q rest (a.put o.dst v') w') :
    wpList Try.prog ops Q (o :: rest) a w := by
  obtain ⟨A, c, rfl, h2⟩ := hr
  rcases h2 with e | ⟨g, off, rfl, hr⟩
  · subst e
    cases A with
    | none =>
      refine wpList_plain hgd fun K hK => ?_
      have hrun := rcs_none (ty := o.type) hown c
      unfold Oper.wp
      simp [execOp, ho, resolve, invoke, builtin, hs, hx, hrun, Result.andThen]
      exact hK _ _ (h v w (by simpa using hown) (World.grownBy.refl w _) (.inl rfl))
    | some ad =>
      obtain ⟨i0, hi, hq⟩ : ∃ i0, Try.prog.info? 59 = some i0 ∧ (i0.zero, i0.size, i0.bytes) = (some (.agg #[.int .i64 0, .int .i64 0, .int .i64 0, .int .i32 0, .int .i64 0, .int .i32 0]), 6, 48) := by
        have hinf := inf_rec
        cases hI : Try.prog.info? 59 with
        | none => rw [hI] at hinf; cases hinf
        | some i0 => rw [hI] at hinf; exact ⟨i0, rfl, by simpa using hinf⟩
      injection hq with hq1 hq2
      injection hq2 with hq2 hq3
      refine wpList_append_own_at _ hgd s x 44 ho base 59 i0 _ 6 48 Try.underlying44 hi hq1 hq2 hq3 rfl (by decide) v L.length (rowE recA L) hs hown ad 0 c [] hx rfl (fun j u hu => by simp at hu) (fun u hu => by cases hu) (by simp at hn; unfold maxLen; omega) (by simp at hn; omega) hbase ?_
      intro v' w' ho' hg' _ hat
      exact h v' w' (by unfold OwnR; simpa using ho') hg' (by rcases hat with e | e; exact .inl e; exact .inr ⟨_, e, Nat.le_refl _⟩)
  · exact append_recs hgd s x ho base v L hs hown g off c L2 hx hr hn hbase h
end
set_option maxRecDepth 100000 in
set_option maxHeartbeats 8000000 in
theorem logAddV_any {w : World} {S : Nat → Prop} {a : Nat} {vx : Value} {L L2 : List RecX} (h : LogV w S a L) (hr : RcV w vx L2) (hn : L.length + L2.length ≤ 100000) :
    Calls Try.prog 35 #[.pointer (some ⟨a, 0, none⟩), vx] w (LogAdd w S a (L ++ L2)) := by
  obtain ⟨v, h⟩ := h
  obtain ⟨A, c, rfl⟩ := h.own.shape
  have c0 : w.cell? ⟨a, 0, none⟩ = some (.slice A L.length c) := cell_blk h.blk 0
  have hla := h.lt a h.aS
  have H := Lib.hid h
  have HR := Lib.hid hr
  obtain ⟨Ax, cx, rfl, hj⟩ := hr
  clear hj
  obtain ⟨n, hln⟩ : ∃ n, L.length = n := ⟨_, rfl⟩
  obtain ⟨n2, hn2⟩ : ∃ n, L2.length = n := ⟨_, rfl⟩
  have HLN := Lib.hid hln
  have HN2 := Lib.hid hn2
  rw [hln] at c0
  rw [hn2] at HR ⊢
  have hne : ∀ v' : Value, (Value.slice A n c).ownBlock = some a → False := fun _ e => by rw [← hln] at e; exact (h.vS a e).2 rfl
  have HNE := Lib.hid hne
  clear h hln hn2
  go_enter Try.func35, Try.ntmps35
  go_wp2_with (at_builtin; go_must (refine append_rcs rfl (.tmp 8) (.tmp 9) rfl 0 (.slice A n c) L rfl (by rw [← HLN.out]; exact H.out.own) (.slice Ax n2 cx) L2 rfl HR.out ?c1 (Nat.zero_le _) ?_))
  case c1 => omega
  intro vQ wQ oQ gQ bQ
  have hF := H.out.add oQ (by rw [HLN.out]; exact gQ) (by rw [HLN.out]; exact bQ)
  have HF := Lib.hid hF
  have cQ : wQ.cell? ⟨a, 0, none⟩ = some (.slice A n c) := (World.cell?_of_block (w := w) (a := ⟨a, 0, none⟩) (gQ.block a hla (fun e => HNE.out vQ e.symm))).trans c0
  have fQ : wQ.frozen? ⟨a, 0, none⟩ = false := (World.frozen?_of_block (w := w) (a := ⟨a, 0, none⟩) (gQ.block a hla (fun e => HNE.out vQ e.symm))).trans (frozen_blk H.out.blk 0)
  obtain ⟨A3, c3, e3⟩ := oQ.shape
  obtain ⟨n3, hn3⟩ : ∃ n, (L ++ L2).length = n := ⟨_, rfl⟩
  rw [hn3] at e3
  subst e3
  clear hF oQ gQ bQ hn3
  go_wp2_with fail
  exact bodyPost_end (by simp [results, Try.results35, go_sem]) rfl ⟨rfl, HF.out⟩
/-- An argument's records. -/
def recK : List IntKind := [.i64, .i64, .i64, .i32, .i64, .i32]
def recO (r : List Int) : RecX := ⟨r.getD 0 0, r.getD 1 0, r.getD 2 0, r.getD 3 0, r.getD 4 0, r.getD 5 0⟩
theorem recO_enc {r : List Int} (h : KRow recK r) : (recA (recO r)).toList = encK recK r := by
  match r, h.1 with
  | [_, _, _, _, _, _], _ => rfl
theorem recO_ok {r : List Int} (h : KRow recK r) : RcOk (recO r) := by
  obtain ⟨hl, hb⟩ := h
  match r, hl with
  | [z0, z1, z2, z3, z4, z5], _ =>
    have b0 := hb 0 _ _ rfl rfl
    have b1 := hb 1 _ _ rfl rfl
    have b2 := hb 2 _ _ rfl rfl
    have b3 := hb 3 _ _ rfl rfl
    have b4 := hb 4 _ _ rfl rfl
    have b5 := hb 5 _ _ rfl rfl
    simp [IntKind.min, IntKind.max, IntKind.signed, IntKind.bits] at b0 b1 b2 b3 b4 b5
    exact ⟨b0, b1, b2, b3, b4, b5⟩
theorem rows_enc {P : List (List Int)} (h : ∀ r ∈ P, KRow recK r) : rowE recA (P.map recO) = P.flatMap (encK recK) := by
  unfold rowE
  induction P with
  | nil => rfl
  | cons r P ih => rw [List.map_cons, List.flatMap_cons, List.flatMap_cons, ih fun q hq => h q (List.mem_cons_of_mem _ hq), recO_enc (h r List.mem_cons_self)]
theorem rows_rc {w : World} {B : Nat} {v : Value} {P : List (List Int)} (h : RowsV recK w B v P) : RcV w v (P.map recO) ∧ ∀ x ∈ P.map recO, RcOk x := by
  obtain ⟨A, c, rfl, _, hl, hk⟩ := h
  constructor
  · refine ⟨A, c, by rw [List.length_map], ?_⟩
    cases P with
    | nil => exact .inl rfl
    | cons r P =>
      obtain ⟨b, off, rfl, _, hc⟩ := hl (by
        rw [List.flatMap_cons, List.length_append, encK_length (hk r List.mem_cons_self).1]
        exact Nat.lt_of_lt_of_le (show 0 < recK.length by decide) (Nat.le_add_right _ _))
      exact .inr ⟨b, off, rfl, fun i u hu => hc i u (by rw [rows_enc hk] at hu; exact hu)⟩
  · intro x hx
    obtain ⟨r, hr, rfl⟩ := List.mem_map.1 hx
    exact recO_ok (hk r hr)
/-- A record of the call's own list changed. -/
theorem row_cons (x : RecX) (L : List RecX) : rowE recA (x :: L) = (recA x).toList ++ rowE recA L := by unfold rowE; rw [List.flatMap_cons]
theorem row_set {x' : RecX} {f : Nat} {u : Value} (hf : f < 6) : ∀ {L : List RecX} {i : Nat} (hi : i < L.length), (recA x').toList = (recA L[i]).toList.set f u → (rowE recA L).set (i * 6 + f) u = rowE recA (L.set i x')
  | x :: L, 0, _, e => by
    have e : (recA x').toList = (recA x).toList.set f u := e
    rw [row_cons, List.set_cons_zero, row_cons, e, Nat.zero_mul, Nat.zero_add, List.set_append_left _ _ (by show f < 6; exact hf)]
  | x :: L, i + 1, hi, e => by
    rw [row_cons, List.set_cons_succ, row_cons, ← row_set hf (L := L) (i := i) (by simpa using hi) (by simpa using e), List.set_append_right _ _ (by show 6 ≤ (i + 1) * 6 + f; omega)]
    congr 2
    show (i + 1) * 6 + f - 6 = i * 6 + f
    omega
theorem OwnR.setF {w : World} {base g n c i f : Nat} {L : List RecX} {x' : RecX} {u : Value} (h : OwnR w base (.slice (some ⟨g, 0, none⟩) n c) L) (hn : L.length = n) (hi : i < L.length) (hf : f < 6) (e : (recA x').toList = (recA L[i]).toList.set f u) :
    OwnR (w.setCell ⟨g, i * 6 + f, none⟩ u) base (.slice (some ⟨g, 0, none⟩) n c) (L.set i x') ∧ w.grownBy (w.setCell ⟨g, i * 6 + f, none⟩ u) (some g) := by
  unfold OwnR at h ⊢
  rw [hn] at h
  rw [List.length_set, hn, ← row_set hf hi e]
  exact h.stored _ _
theorem OwnR.cellF {w : World} {base g n c i f : Nat} {L : List RecX} {u : Value} (h : OwnR w base (.slice (some ⟨g, 0, none⟩) n c) L) (hn : L.length = n) (hi : i < L.length) (e : (recA L[i]).toList[f]? = some u) : w.cell? ⟨g, i * 6 + f, none⟩ = some u ∧ w.frozen? ⟨g, i * 6 + f, none⟩ = false := by
  unfold OwnR at h
  rw [hn] at h
  have hff : f < 6 := (List.getElem?_eq_some_iff.1 e).1
  exact ⟨(h.cellAt _ (by omega)).trans (rowE_get recA_size (List.getElem?_eq_getElem hi) (by simpa using e)), h.frozenAt _⟩
theorem rc_all_set {L : List RecX} {i : Nat} {x' : RecX} (h : ∀ x ∈ L, RcOk x) (hx : RcOk x') : ∀ x ∈ L.set i x', RcOk x := fun x hm => by
  rcases List.mem_or_eq_of_mem_set hm with h1 | rfl
  · exact h x h1
  · exact hx
/-- A whole record of the list stored. -/
theorem row_at {x' : RecX} : ∀ {L : List RecX} {i : Nat} (_ : i < L.length), (rowE recA L).take (i * 6) ++ (recA x').toList ++ (rowE recA L).drop (i * 6 + 6) = rowE recA (L.set i x')
  | x :: L, 0, _ => by
    have h6 : (recA x).toList.length = 6 := rfl
    rw [row_cons, List.set_cons_zero, row_cons, Nat.zero_mul, Nat.zero_add, List.take_zero, List.nil_append, ← h6, List.drop_left]
  | x :: L, i + 1, hi => by
    have h6 : (recA x).toList.length = 6 := rfl
    have e1 : (i + 1) * 6 = (recA x).toList.length + i * 6 := by rw [h6]; omega
    have e2 : (i + 1) * 6 + 6 = (recA x).toList.length + (i * 6 + 6) := by rw [h6]; omega
    rw [row_cons, List.set_cons_succ, row_cons, ← row_at (L := L) (i := i) (by simpa using hi), e2, e1, List.take_length_add_append, List.drop_length_add_append]
    simp [List.append_assoc]
theorem OwnR.setAt {w : World} {base g n c i : Nat} {L : List RecX} {x' : RecX} {cur : Array Value} (h : OwnR w base (.slice (some ⟨g, 0, none⟩) n c) L) (hn : L.length = n) (hi : i < L.length) (hg : w.heap[g]? = some (.cells cur 59 (0, 0))) :
    OwnR (w.setRow g (cur.toList.take (i * 6) ++ (recA x').toList ++ cur.toList.drop (i * 6 + 6)).toArray) base (.slice (some ⟨g, 0, none⟩) n c) (L.set i x') ∧ i * 6 + 6 ≤ cur.size := by
  unfold OwnR at h ⊢
  rw [hn] at h
  rcases h.2 with ⟨h', _⟩ | ⟨g', cap', cur', h', hb, hg', hnc, hcm, hcs, htake⟩
  · simp at h'
  · simp only [Value.slice.injEq, Option.some.injEq, Addr.mk.injEq, and_true, true_and] at h'
    obtain ⟨rfl, rfl⟩ := h'
    rw [hg] at hg'
    injection hg' with hg'
    injection hg' with hg' _ _
    subst hg'
    have h6 : (recA x').toList.length = 6 := rfl
    have hfit : i * 6 + 6 ≤ n * 6 := by omega
    have hcs2 : n * 6 ≤ cur.size := by rw [hcs]; exact Nat.mul_le_mul_right _ hnc
    refine ⟨⟨by rw [rowE_length recA_size], .inr ⟨g, c, _, by rw [List.length_set, hn], hb, rec_row_at hg, by rw [List.length_set, hn]; exact hnc, hcm, ?_, ?_⟩⟩, by omega⟩
    · simp only [List.size_toArray, List.length_append, List.length_take, List.length_drop, Array.length_toList, h6]
      omega
    · rw [List.length_set, hn, ← row_at hi]
      have e1 : rowE recA L = cur.toList.take (n * 6) := htake.symm
      rw [e1, List.take_take, Nat.min_eq_left (by omega), List.drop_take]
      have hl1 : (cur.toList.take (i * 6)).length = i * 6 := by rw [List.length_take, Array.length_toList]; omega
      rw [show n * 6 = (cur.toList.take (i * 6) ++ (recA x').toList).length + (n * 6 - (i * 6 + 6)) from by rw [List.length_append, hl1, h6]; omega, List.take_length_add_append]
      congr 2
      rw [List.length_append, hl1, h6]
      omega

end Go.Proofs.Ytmcphlklknfbmaa
