/- The log: Add, Of. -/
import Derived.Test.YtmcphlklknfbmaaRec22
import Derived.Test.YtmcphlklknfbmaaNums
namespace Go.Proofs.Ytmcphlklknfbmaa
set_option maxRecDepth 100000
open Go.RowKit

def zR : RecX := ⟨0, 0, 0, 0, 0, 0⟩
section
variable {ops : Array Oper} {rest : List Oper} {o : Oper} {a : Act} {w : World} {Q : Exit → Act → World → Prop}
theorem load_recAt (hgd : o.guard = none) (x : Operand) (ho : o.op = .load 59 x) (g : Nat) (y : RecX) (hx : a.eval x = .pointer (some ⟨g, 0, none⟩)) (ty : Nat) (fr : Nat × Nat) (hg : w.heap[g]? = some (.cells (recA y) ty fr))
    (h : wpList Try.prog ops Q rest (a.put o.dst (.agg (recA y))) w) : wpList Try.prog ops Q (o :: rest) a w :=
  wpList_load_row hgd _ x ho g hx ty (recA y) fr _ hg Try.underlying59 rfl info_rec h
theorem store_rec (hgd : o.guard = none) (x y : Operand) (ho : o.op = .store 59 x y) (hd : o.dst = none) (g : Nat) (u : RecX) (hx : a.eval x = .pointer (some ⟨g, 0, none⟩)) (hy : a.eval y = .agg (recA u))
    (ty : Nat) (z : RecX) (hg : w.heap[g]? = some (.cells (recA z) ty (0, 0))) (h : wpList Try.prog ops Q rest a (w.setRow g (recA u))) : wpList Try.prog ops Q (o :: rest) a w :=
  wpList_store_row hgd _ x y ho g (recA u) hx hy ty (recA z) hg info_rec rfl (Array.all_eq_true_iff_forall_mem.2 (rec_one u)) (by rw [hd]; exact h)
/-- append of records that lie in memory. -/
theorem append_recs (hgd : o.guard = none) (s x : Operand) (ho : o.op = .call { callee := .builtin .append, args := #[s, x], argTypes := #[44, 44] })
    (base : Nat) (v : Value) (L : List RecX) (hs : a.eval s = v) (hown : OwnR w base v L) (g off c : Nat) (L2 : List RecX) (hx : a.eval x = .slice (some ⟨g, off, none⟩) L2.length c) (hr : w.rangeAt g off (rowE recA L2))
    (hn : L.length + L2.length ≤ 999999) (hbase : base ≤ w.heap.size)
    (h : ∀ v' w', OwnR w' base v' (L ++ L2) → w.grownBy w' v.ownBlock → (v'.ownBlock = v.ownBlock ∨ ∃ k, v'.ownBlock = some k ∧ w.heap.size ≤ k) → wpList Try.prog ops Q rest (a.put o.dst v') w') :
    wpList Try.prog ops Q (o :: rest) a w := by
  obtain ⟨i0, hi, hq⟩ : ∃ i0, Try.prog.info? 59 = some i0 ∧ (i0.zero, i0.size, i0.bytes) = (some (.agg #[.int .i64 0, .int .i64 0, .int .i64 0, .int .i32 0, .int .i64 0, .int .i32 0]), 6, 48) := by
    have hinf := inf_rec
    cases hI : Try.prog.info? 59 with
    | none => rw [hI] at hinf; cases hinf
    | some i0 => rw [hI] at hinf; exact ⟨i0, rfl, by simpa using hinf⟩
  injection hq with hq1 hq2
  injection hq2 with hq2 hq3
  refine wpList_append_own_at _ hgd s x 44 ho base 59 i0 _ 6 48 Try.underlying44 hi hq1 hq2 hq3 rfl (by decide) v L.length (rowE recA L) hs hown ⟨g, off, none⟩ L2.length c (rowE recA L2) hx (rowE_length recA_size L2) ?_ (recs_one L2) (by unfold maxLen; omega) (by omega) hbase ?_
  · intro j u hu
    have ea : (⟨g, off, none⟩ : Addr).add j = ⟨g, off + j, none⟩ := by unfold Addr.add; split <;> simp_all
    rw [ea]; exact hr j u hu
  · intro v' w' ho' hg' _ hat
    refine h v' w' ?_ hg' (by rcases hat with e | e; exact .inl e; exact .inr ⟨_, e, Nat.le_refl _⟩)
    unfold OwnR
    rw [List.length_append, rowE_append]
    exact ho'
end
theorem fresh_rec (w : World) (x : RecX) : (w.alloc (.cells (recA x) 59)).rangeAt w.heap.size 0 (rowE recA [x]) := fun j u hu => by
  have h := heap_alloc_new w (.cells (recA x) 59)
  rw [Nat.zero_add, cell_blk h]
  simpa [rowE] using hu
theorem rec_row_at {w : World} {g t : Nat} {cs cs' : Array Value} (h : w.heap[g]? = some (.cells cs t (0, 0))) : (w.setRow g cs').heap[g]? = some (.cells cs' t (0, 0)) := by
  simp [World.setRow, Array.getElem?_modify, h]
theorem rec_row_below {w : World} {B g : Nat} {cs : Array Value} (h : B ≤ g) : Below B w (w.setRow g cs) :=
  ⟨rfl, rfl, rfl, by simp [World.setRow], fun k hk => by simp [World.setRow, Array.getElem?_modify]; intro e; omega⟩
set_option maxRecDepth 100000 in
set_option maxHeartbeats 8000000 in
theorem logAdd_any {w : World} {S : Nat → Prop} {a : Nat} {L L2 : List RecX} {g off c2 : Nat} (h : LogV w S a L) (hr : w.rangeAt g off (rowE recA L2)) (hn : L.length + L2.length ≤ 100000) :
    Calls Try.prog 35 #[.pointer (some ⟨a, 0, none⟩), .slice (some ⟨g, off, none⟩) L2.length c2] w (LogAdd w S a (L ++ L2)) := by
  obtain ⟨v, h⟩ := h
  obtain ⟨A, c, rfl⟩ := h.own.shape
  have c0 : w.cell? ⟨a, 0, none⟩ = some (.slice A L.length c) := cell_blk h.blk 0
  have hla := h.lt a h.aS
  have H := Lib.hid h
  have HR := Lib.hid hr
  obtain ⟨n, hln⟩ : ∃ n, L.length = n := ⟨_, rfl⟩
  obtain ⟨n2, hn2⟩ : ∃ n, L2.length = n := ⟨_, rfl⟩
  have HLN := Lib.hid hln
  have HN2 := Lib.hid hn2
  rw [hln] at c0
  rw [hn2]
  have hne : ∀ v' : Value, (Value.slice A n c).ownBlock = some a → False := fun _ e => by rw [← hln] at e; exact (h.vS a e).2 rfl
  have HNE := Lib.hid hne
  clear h hr hln hn2
  go_enter Try.func35, Try.ntmps35
  go_wp2_with (at_builtin; go_must (refine append_recs rfl (.tmp 8) (.tmp 9) rfl 0 (.slice A n c) L rfl (by rw [← HLN.out]; exact H.out.own) g off c2 L2 (by rw [HN2.out]; rfl) HR.out ?c1 (Nat.zero_le _) ?_))
  case c1 => omega
  intro vQ wQ oQ gQ bQ
  have hF := H.out.add oQ (by rw [HLN.out]; exact gQ) (by rw [HLN.out]; exact bQ)
  have HF := Lib.hid hF
  have cQ : wQ.cell? ⟨a, 0, none⟩ = some (.slice A n c) := (World.cell?_of_block (w := w) (a := ⟨a, 0, none⟩) (gQ.block a hla (fun e => HNE.out vQ e.symm))).trans c0
  have fQ : wQ.frozen? ⟨a, 0, none⟩ = false := (World.frozen?_of_block (w := w) (a := ⟨a, 0, none⟩) (gQ.block a hla (fun e => HNE.out vQ e.symm))).trans (frozen_blk H.out.blk 0)
  obtain ⟨A3, c3, e3⟩ := oQ.shape
  obtain ⟨n3, hn3⟩ : ∃ n, (L ++ L2).length = n := ⟨_, rfl⟩
  rw [hn3] at e3
  subst e3
  clear hF oQ gQ bQ hn3
  go_wp2_with fail
  exact bodyPost_end (by simp [results, Try.results35, go_sem]) rfl ⟨rfl, HF.out⟩
/-- Those whose To is one of these labels. -/
def ofL (to : List Int) (L : List RecX) : List RecX := L.filter fun x => to.contains x.tt
theorem ofL_yes {to : List Int} {L : List RecX} {x : RecX} (h : to.contains x.tt = true) : ofL to (L ++ [x]) = ofL to L ++ [x] := by unfold ofL; rw [List.filter_append, List.filter_cons, h]; rfl
theorem ofL_no {to : List Int} {L : List RecX} {x : RecX} (h : to.contains x.tt = false) : ofL to (L ++ [x]) = ofL to L := by unfold ofL; rw [List.filter_append, List.filter_cons, h]; simp
theorem ofL_len (to : List Int) (L : List RecX) : (ofL to L).length ≤ L.length := List.length_filter_le _ _
/-- A round that copies a record into a box. -/
theorem rec_box (w : World) (x : RecX) : ∃ w1, w1 = (w.alloc (.cells #[.int .i64 0, .int .i64 0, .int .i64 0, .int .i32 0, .int .i64 0, .int .i32 0] 59)).setRow w.heap.size (recA x) ∧ w1.heap[w.heap.size]? = some (.cells (recA x) 59 (0, 0)) ∧ Below w.heap.size w w1 :=
  ⟨_, rfl, rec_row_at (heap_alloc_new w _), (below_alloc w _).trans (rec_row_below (Nat.le_refl _))⟩
theorem rec_zero (w : World) : (w.alloc (.cells (recA zR) 59)).heap[w.heap.size]? = some (.cells (recA zR) 59 (0, 0)) := heap_alloc_new w _
set_option maxHeartbeats 1000000 in
theorem contains22_any {B : Nat} {v : Value} {l : List Int} (c : Int) (w : World) (h : IntsV w B v l) (hm : l.length ≤ 1000) :
    Calls Try.prog 74 #[v, .int .i64 c] w fun e w' => e = .returned (.bool (l.contains c)) ∧ w = w' := by
  have HI : Hid (Calls Try.prog 91 #[v, .int .i64 c] w fun e w' => (∃ z : Int, e = .returned (.int .i64 z) ∧ -1 ≤ z ∧ decide (0 ≤ z) = l.contains c) ∧ w = w') := Lib.hid (by
    obtain ⟨A, cp, rfl, hl⟩ := h
    have HL := Lib.hid hl; clear hl
    obtain ⟨m, hml⟩ : ∃ m, l.length = m := ⟨_, rfl⟩
    have HM := Lib.hid hml
    rw [hml] at hm ⊢
    clear hml
    obtain ⟨res, hres⟩ : ∃ res, l.contains c = res := ⟨_, rfl⟩
    have HR := Lib.hid hres
    rw [hres]
    clear hres
    go_enter Try.func91, Try.ntmps91
    go_wp2_with fail
    go_loop [8] (fun i => ∃ k : Nat, k ≤ m ∧ i = .int .i64 k ∧ (l.take k).contains c = false) (fun i => m - (intOf i).toNat)
    case atStart => exact ⟨0, by omega, rfl, by simp⟩
    case round =>
      obtain ⟨k, hk, rfl, hp⟩ := hrel
      have HP := Lib.hid hp; clear hp
      by_cases hlt : k < m
      · have hkl : k < l.length := by rw [HM.out]; exact hlt
        obtain ⟨b, off, rfl, hb, c1⟩ := lie_int HL.out hkl
        have HMEM := Lib.hid (List.getElem_mem hkl)
        have HTK := Lib.hid (List.take_succ_eq_append_getElem hkl)
        obtain ⟨x, hx⟩ : ∃ x, l[k] = x := ⟨_, rfl⟩
        rw [hx] at c1 HMEM HTK
        clear hx
        by_cases hxc : c = x
        · have e1 : (c == x) = true := by simpa using hxc
          obtain rfl : res = true := by rw [← HR.out, List.contains_iff_mem, hxc]; exact HMEM.out
          clear hxc
          go_wp2_with fail
          go_ret
          exact ⟨⟨(k : Int), rfl, by omega, by simp⟩, rfl⟩
        · have e1 : (c == x) = false := by simpa using hxc
          have HK : Hid ((l.take (k + 1)).contains c = false) := Lib.hid (by rw [HTK.out]; have := HP.out; simp at this ⊢; exact ⟨this, hxc⟩)
          clear hxc
          go_wp2_with fail
          go_round
          case rel => exact ⟨k + 1, by omega, by go_num, HK.out⟩
          case measure => simp [intOf]; omega
      · obtain rfl : k = m := by omega
        obtain rfl : res = false := by rw [← HR.out]; have := HP.out; rwa [List.take_of_length_le (by rw [HM.out]; omega)] at this
        go_wp2_with fail
        go_ret
        exact ⟨⟨-1, rfl, by omega, by simp⟩, rfl⟩)
  obtain ⟨A, cp, rfl, hl⟩ := h
  clear hl
  obtain ⟨res, hres⟩ : ∃ res, l.contains c = res := ⟨_, rfl⟩
  rw [hres] at HI ⊢
  clear hres
  go_enter Try.func74, Try.ntmps74
  go_wp2_with fail
  refine HI.out.mono ?_
  rintro e w' ⟨⟨z, rfl, hz, hd⟩, rfl⟩
  go_wp2_with fail
  go_ret
  exact ⟨rfl, rfl⟩
set_option maxRecDepth 100000 in
set_option maxHeartbeats 8000000 in
theorem logOf_any {w : World} {S : Nat → Prop} {a : Nat} {L : List RecX} {vt : Value} {to : List Int} (h : LogV w S a L) (hn : L.length ≤ 100000) (ht : IntsV w w.heap.size vt to) (htl : to.length ≤ 1000) :
    Calls Try.prog 41 #[.pointer (some ⟨a, 0, none⟩), vt] w (ClR w (ofL to L)) := by
  obtain ⟨v, h⟩ := h
  obtain ⟨A, c, rfl⟩ := h.own.shape
  have c0 : w.cell? ⟨a, 0, none⟩ = some (.slice A L.length c) := cell_blk h.blk 0
  have HRC := Lib.hid h.own.rc
  have HT := Lib.hid ht
  obtain ⟨At, ct, rfl, _⟩ := ht
  obtain ⟨nt, hnt⟩ : ∃ n, to.length = n := ⟨_, rfl⟩
  rw [hnt] at HT htl ⊢
  obtain ⟨n, hln⟩ : ∃ n, L.length = n := ⟨_, rfl⟩
  have HLN := Lib.hid hln
  have HNT := Lib.hid hnt
  rw [hln] at c0 HRC hn
  clear h hln hnt
  go_enter Try.func41, Try.ntmps41
  go_wp2_with fail
  clear c0
  go_loopw [5, 13] (fun x i wr => ∃ j : Nat, j ≤ n ∧ i = .int .i64 j ∧ OwnR wr w.heap.size x (ofL to (L.take j)) ∧ Below w.heap.size w wr) (fun _ i _ => n - (intOf i).toNat)
  case atStart => exact ⟨0, Nat.zero_le _, rfl, OwnR.nil _ _, Below.refl _ _⟩
  case round =>
    obtain ⟨j, hj, rfl, ho, hb⟩ := hrel
    have HO := Lib.hid ho; have HB := Lib.hid hb
    obtain ⟨A5, c5, rfl⟩ := ho.shape
    by_cases hjn : j < n
    · have hjl : j < L.length := by rw [HLN.out]; exact hjn
      obtain ⟨g, off, eA, hr⟩ := HRC.out.at' hjl
      subst eA
      have HTK := Lib.hid (List.take_succ_eq_append_getElem hjl)
      generalize L[j] = x at *
      have HR := Lib.hid (rc_range_below hr hb)
      obtain ⟨w1, hw1, hX1, hB1⟩ := rec_box wr x
      have x2 : w1.cell? ⟨wr.heap.size, 2, none⟩ = some (.int .i64 x.tt) := cell_blk hX1 2
      have HC := Lib.hid (contains22_any x.tt w1 (B := w1.heap.size) (HT.out.later (hb.trans (hB1.mono hb.size))) (by rw [HNT.out]; exact htl))
      have HZ := Lib.hid (rec_zero wr)
      have HX1 := Lib.hid hX1
      have HW1 := Lib.hid hw1
      have HB1 := Lib.hid (hb.trans (hB1.mono hb.size))
      have HO1 := Lib.hid (ho.keep hB1)
      have i1 : (0 : Int) ≤ (j : Int) ∧ (j : Int) < n := by omega
      have hlen : Hid ((ofL to (L.take j)).length ≤ 100000) := Lib.hid (Nat.le_trans (ofL_len _ _) (by rw [List.length_take]; omega))
      have hws : w.heap.size ≤ w1.heap.size := HB1.out.size
      clear hr hjl hw1 hX1 hB1 ho hb
      obtain ⟨bb, hbb⟩ : ∃ y, to.contains x.tt = y := ⟨_, rfl⟩
      rw [hbb] at HC
      have HBB := Lib.hid hbb
      clear hbb
      go_wp2_with (first | (refine load_recMid rfl _ rfl g (off + j * 6) x rfl HR.out ?_; simp only [recA]) | (refine store_rec rfl _ _ rfl rfl wr.heap.size x rfl rfl _ zR HZ.out ?_; rw [← HW1.out]) | fail)
      refine HC.out.mono ?_
      rintro e w2 ⟨rfl, rfl⟩
      cases bb with
      | true =>
        have HE := Lib.hid (ofL_yes (L := L.take j) HBB.out)
        rw [← HTK.out] at HE
        have hl5 := hlen.out
        go_wp2_with (first | (refine load_recAt rfl _ rfl wr.heap.size x rfl _ _ HX1.out ?_; simp only [recA]) | (at_builtin; go_must (refine append_recs rfl (.tmp 21) (.tmp 23) rfl w.heap.size _ _ rfl (HO1.out.keep (below_alloc _ _)) w1.heap.size 0 1 [x] rfl (fresh_rec w1 x) ?c1 ?c2 ?_)) | fail)
        case c1 => simp; omega
        case c2 => simp; omega
        intro v3 w3 o3 g3 b3
        have HO3 : Hid (OwnR w3 w.heap.size v3 (ofL to (L.take (j + 1)))) := Lib.hid (by rw [HE.out]; exact o3)
        have HB3 : Hid (Below w.heap.size w w3) := Lib.hid ((HB1.out.trans ((below_alloc w1 _).mono HB1.out.size)).grown g3 (Nat.le_trans HB1.out.size (below_alloc w1 _).size) (fun k e => (World.ownsRow.lt HO1.out k e).1))
        clear o3 g3 b3
        go_wp2_with fail
        go_roundw
        case rel => exact ⟨j + 1, by omega, by go_num, HO3.out, HB3.out⟩
        case measure => simp [intOf]; omega
      | false =>
        have HE := Lib.hid (ofL_no (L := L.take j) HBB.out)
        rw [← HTK.out] at HE
        go_wp2_with fail
        go_roundw
        case rel => exact ⟨j + 1, by omega, by go_num, by rw [HE.out]; exact HO1.out, HB1.out⟩
        case measure => simp [intOf]; omega
    · obtain rfl : n = j := by omega
      have hto : ofL to (L.take n) = ofL to L := by rw [List.take_of_length_le (by rw [HLN.out]; omega)]
      rw [hto] at HO ⊢
      have HF : Hid (ClR w (ofL to L) (.returned (.slice A5 (ofL to L).length c5)) wr) := Lib.hid ⟨_, rfl, HO.out, HB.out⟩
      generalize (ofL to L).length = k at *
      clear hto ho hb
      go_wp2_with fail
      go_ret
      exact HF.out

end Go.Proofs.Ytmcphlklknfbmaa
