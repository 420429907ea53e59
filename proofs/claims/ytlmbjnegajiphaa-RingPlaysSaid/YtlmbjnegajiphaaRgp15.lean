/- Package ring: Len, Room, slot, Push. (Drawn: gen/rg15.sh.) -/
import Derived.Test.YtlmbjnegajiphaaRing15
import Derived.Test.YtlmbjnegajiphaaRegion
import Derived.Test.YtlmbjnegajiphaaSt10
namespace Go.Proofs.Ytlmbjnegajiphaa
set_option maxRecDepth 100000
open Go.RowKit

section
variable {w : World} {K : Nat → Prop} {a sb R top cnt : Nat} {C : Nat → SlotX}
theorem rgLen_any (h : RgK w K a sb R top cnt C) : Calls Try.prog 48 #[.pointer (some ⟨a, 0, none⟩)] w fun e w' => e = .returned (.int .i64 cnt) ∧ w = w' := by
  have c0 := cell_blk h.blk 2
  clear h
  go_enter Try.func48, Try.ntmps48
  go_wp2_with fail
  go_ret
  exact ⟨rfl, rfl⟩
theorem rgRoom_any (h : RgK w K a sb R top cnt C) : Calls Try.prog 38 #[.pointer (some ⟨a, 0, none⟩)] w fun e w' => e = .returned (.int .i64 R) ∧ w = w' := by
  have c0 := cell_blk h.blk 0
  clear h
  go_enter Try.func38, Try.ntmps38
  go_wp2_with fail
  go_ret
  exact ⟨rfl, rfl⟩
end
/-- The struct alone. -/
def RgB (w : World) (a sb R top cnt : Nat) : Prop := w.heap[a]? = some (.cells #[.slice (some ⟨sb, 0, none⟩) R R, .int .i64 top, .int .i64 cnt] 120 (0, 0))
set_option maxHeartbeats 2000000 in
theorem rgSlot_any {w : World} {a sb R top cnt : Nat} (h : RgB w a sb R top cnt) (hR : 1 ≤ R ∧ R ≤ 64 ∧ top < R) (n : Nat) (hn : n ≤ 64) :
    Calls Try.prog 74 #[.pointer (some ⟨a, 0, none⟩), .int .i64 n] w fun e w' => e = .returned (.int .i64 ((top + n) % R : Nat)) ∧ ∃ m, w' = w.drewN m := by
  have c0 := cell_blk h 0
  have c1 := cell_blk h 1
  obtain ⟨q, hq⟩ : ∃ q, (top + n) % R = q := ⟨_, rfl⟩
  rw [hq]
  have e1 : Hid (IntKind.i64.wrap ((top : Int) + n) = (top : Int) + n) := Lib.hid (IntWalk.i64_in _ (by omega))
  have e2 : Hid (((top : Int) + n).tmod (R : Int) = (q : Int)) := Lib.hid (by rw [← hq]; rfl)
  have e3 : Hid (((top : Int) + n) % (R : Int) = (q : Int)) := Lib.hid (by rw [← hq]; exact (Int.natCast_emod (top + n) R).symm)
  have e4 : Hid (wrap64 ((top : Int) + n) = (top : Int) + n) := Lib.hid (by unfold wrap64; omega)
  have hR0 : (R : Int) ≠ 0 := by omega
  have hR1 : ((R : Int) == 0) = false := by simp; omega
  have hR2 : R ≠ 0 := by omega
  clear hq h
  go_enter Try.func74, Try.ntmps74
  have e1' := e1.out; have e2' := e2.out; have e3' := e3.out; have e4' := e4.out
  clear e1 e2 e3 e4
  go_wp2_with fail
  go_quiet (fail)
  go_wp2_with fail
  go_ret
  exact ⟨rfl, _, rfl⟩

/-- What an operation of Push's statement finds. -/
structure PuI (w : World) (K T : Nat → Prop) (a sb R top cnt : Nat) (t : TK) (s : Value) (wi : World) : Prop where
  blk : RgB wi a sb R top cnt
  bx : wi.heap[w.heap.size]? = some (.cells (taskA t s) 51 (0, 0))
  st : StkV wi T (t, s)
  bl : Below w.heap.size w wi ∨ Frm (fun i => i = sb) w wi
  sz : w.heap.size < wi.heap.size
  lt : a < w.heap.size ∧ sb < w.heap.size ∧ a ≠ sb ∧ (∀ i, T i → i < w.heap.size ∧ i ≠ a ∧ i ≠ sb)
def PuE (w : World) (K : Nat → Prop) (a sb R top cnt i : Nat) (C : Nat → SlotX) (t : TK) (wi : World) : Prop := ∃ s' K', RgK wi K' a sb R top cnt (upd C i (t, s')) ∧ Stp (RgS K a sb) (RgS K' a sb) w wi
def PuS (w : World) (K T : Nat → Prop) (a sb R top cnt i : Nat) (C : Nat → SlotX) (t : TK) (s : Value) (k : Nat) (wi : World) : Prop :=
  PuI w K T a sb R top cnt t s wi ∧ (k = 0 → RgK wi K a sb R top cnt C ∧ Below w.heap.size w wi) ∧ (k = 1 → PuE w K a sb R top cnt i C t wi)
/-- A task with a stack of the call's own. -/
def TskX (w : World) (t : TK) (v : Value) (wi : World) : Prop := ∃ s', v = taskV t s' ∧ Own32 wi w.heap.size s' t.st
section
variable {w wi w2 : World} {K T : Nat → Prop} {a sb R top cnt i k : Nat} {C : Nat → SlotX} {t : TK} {s : Value}
theorem PuS.step (h : PuS w K T a sb R top cnt i C t s k wi) (hb : Below wi.heap.size wi w2) : PuS w K T a sb R top cnt i C t s k w2 := by
  obtain ⟨h1, h2, h3⟩ := h
  have ha : a < wi.heap.size := by have := h1.lt.1; have := h1.sz; omega
  refine ⟨⟨(hb.block a ha).trans h1.blk, (hb.block _ h1.sz).trans h1.bx, h1.st.keep (T := fun _ => False) (Frm.of_below hb) (fun _ _ e => e) (fun _ _ e => e) (fun i hi => by have := (h1.lt.2.2.2 i hi).1; have := h1.sz; omega), ?_, Nat.lt_of_lt_of_le h1.sz hb.size, h1.lt⟩, fun e => ?_, fun e => ?_⟩
  · rcases h1.bl with hl | hl
    · exact .inl (nextB hl (hb.mono (Nat.le_refl _)))
    · exact .inr (hl.trans (S' := fun _ => False) (Frm.of_below hb) (fun _ _ e => e.elim))
  · exact ⟨(h2 e).1.below hb, nextB (h2 e).2 hb⟩
  · obtain ⟨s', K', h4, h5⟩ := h3 e
    exact ⟨s', K', h4.below hb, h5.trans (Stp.of_below hb h4.lts)⟩
theorem PuS.c0 (h : PuS w K T a sb R top cnt i C t s k wi) : wi.cell? ⟨a, 0, none⟩ = some (.slice (some ⟨sb, 0, none⟩) R R) := cell_blk h.1.blk 0
theorem PuS.c2 (h : PuS w K T a sb R top cnt i C t s k wi) : wi.cell? ⟨a, 2, none⟩ = some (.int .i64 cnt) := cell_blk h.1.blk 2
/-- The store. -/
theorem PuS.put (h : PuS w K T a sb R top cnt i C t s 0 wi) (hi : i < R) {s' : Value} (ho : Own32 wi w.heap.size s' t.st) (hn : t.st.length ≤ 100000) {cs : Array Value}
    (hcs : cs = ((rowE slotA ((List.range R).map C)).toArray.toList.take (i * 12) ++ (taskA t s').toList ++ (rowE slotA ((List.range R).map C)).toArray.toList.drop (i * 12 + 12)).toArray) : PuS w K T a sb R top cnt i C t s 1 (wi.setRow sb cs) := by
  obtain ⟨h1, h2, _⟩ := h
  obtain ⟨hr, hb⟩ := h2 rfl
  have hlt := h1.lt
  have hfr : Frm (fun k => k = sb) wi (wi.setRow sb cs) := ⟨rfl, rfl, rfl, by simp [World.setRow], fun k _ hk => row_far hk⟩
  have hlo := ho.lt
  refine ⟨⟨(row_far hlt.2.2.1).trans h1.blk, (row_far (by omega)).trans h1.bx, h1.st.keep hfr (fun j hj => (hlt.2.2.2 j hj).2.2) (fun _ _ e => e) (fun j hj => by have := (hlt.2.2.2 j hj).1; have := h1.sz; omega), .inr ?_, by simpa [World.setRow] using h1.sz, hlt⟩, fun e => by omega, fun _ => ?_⟩
  · exact (Frm.of_below hb).trans hfr fun _ _ e => e
  · refine ⟨s', fun k => K k ∨ s'.ownBlock = some k, ⟨(row_far hr.ne).trans hr.blk, ?_, fun k hk => ?_, hr.r1, hr.tp, hr.ct, hr.ne, ⟨fun e => ?_, fun e => ?_⟩, fun k hk => ?_⟩, ?_⟩
    · rw [row_at hr.slo, hcs]
      congr 2
      rw [List.toList_toArray]
      exact congrArg List.toArray (slots_set C hi (t, s'))
    · by_cases e : k = i
      · subst e
        rw [upd_self]
        refine ⟨?_, hn⟩
        obtain ⟨A, c, e1, e2, _, _, e5, e6⟩ := Lies.of_own ho
        refine ⟨A, c, e1, e2, lies_keepA e5 (by simp [World.setRow]) (fun b off e3 _ => row_far (by have := (e6 b off e3).1; omega)), fun b off e3 => .inr (by rw [show s' = _ from e1, e3]; rfl)⟩
      · rw [upd_ne C _ e]
        exact ⟨(hr.st k hk).1.keep hfr (fun j hj e => hr.nk.2 (by rw [← show j = sb from e]; exact hj)) (fun _ _ e => .inl e) hr.lt, (hr.st k hk).2⟩
    · rcases e with e | e
      · exact hr.nk.1 e
      · have := (hlo a e).1; omega
    · rcases e with e | e
      · exact hr.nk.2 e
      · have := (hlo sb e).1; omega
    · rcases hk with hk | hk
      · simpa [World.setRow] using hr.lt k hk
      · simpa [World.setRow] using (hlo k hk).2
    · refine ⟨((Frm.of_below hb).trans hfr fun _ _ e => e).more fun k _ e => .inr (.inr e), ?_, ?_⟩
      · rintro k hk ((h1 | h1) | h1)
        · exact .inl h1
        · have := (hlo k h1).1; omega
        · exact .inr h1
      · rintro k ((h1 | h1) | h1 | h1)
        · simpa [World.setRow] using hr.lt k h1
        · simpa [World.setRow] using (hlo k h1).2
        · have := hr.lts k (.inr (.inl h1)); simpa [World.setRow] using this
        · have := hr.lts k (.inr (.inr h1)); simpa [World.setRow] using this
theorem tskx_later {v : Value} (h : TskX w t v wi) (hb : Below wi.heap.size wi w2) : TskX w t v w2 := by
  obtain ⟨s', e, ho⟩ := h
  exact ⟨s', e, ho.below hb⟩
end
theorem tskx_row {w wi : World} {t : TK} {v : Value} {sb : Nat} (h : TskX w t v wi) (hsb : sb < w.heap.size) (cs : Array Value) : TskX w t v (wi.setRow sb cs) := by
  obtain ⟨s', e, ho⟩ := h
  exact ⟨s', e, ho.row hsb⟩
def ps3Val (a sb bx R i cnt : Nat) (T : Value) : Nat → Value
  | 0 => .pointer (some ⟨a, 0, none⟩)
  | 1 => .pointer (some ⟨a, 0, none⟩)
  | 2 => .pointer (some ⟨a, 0, none⟩)
  | 3 => .slice (some ⟨sb, 0, none⟩) R R
  | 4 => .pointer (some ⟨a, 0, none⟩)
  | 5 => .pointer (some ⟨a, 0, none⟩)
  | 6 => .pointer (some ⟨a, 0, none⟩)
  | 7 => .pointer (some ⟨a, 2, none⟩)
  | 8 => .int .i64 cnt
  | 9 => .int .i64 i
  | 10 => T
  | 12 => .pointer (some ⟨sb, i * 12, none⟩)
  | 13 => undef
  | _ => undef

theorem ret_slot {fn : Func} {R : Ending → World → Prop} {tmps : Array Value} {w : World} {t : Nat} {v : Value} (h : fn.results = #[.tmp t]) (ht : t < tmps.size) (hR : R (.returned v) w) : bodyPost Try.prog fn R .ret { tmps := tmps.setIfInBounds t v, defers := [] } w := by
  refine bodyPost_ret (results_tmp h _ _ _) rfl ?_
  have e : (tmps.setIfInBounds t v).getD t undef = v := by simp [Array.getD, ht]
  show R (.returned ((tmps.setIfInBounds t v).getD t undef)) w
  rw [e]; exact hR
/-- What Push answers and leaves. -/
def RgPu (w : World) (K : Nat → Prop) (a sb R top cnt : Nat) (C : Nat → SlotX) (t : TK) (e : Ending) (w' : World) : Prop :=
  (cnt = R ∧ e = .returned (.bool false) ∧ RgK w' K a sb R top cnt C ∧ Below w.heap.size w w') ∨
  (cnt < R ∧ e = .returned (.bool true) ∧ ∃ s' K', RgK w' K' a sb R top (cnt + 1) (upd C ((top + cnt) % R) (t, s')) ∧ Stp (RgS K a sb) (RgS K' a sb) w w')

set_option maxRecDepth 100000 in
set_option maxHeartbeats 8000000 in
theorem rgPush_any {w : World} {K T : Nat → Prop} {ga sb R top cnt : Nat} {C : Nat → SlotX} {t : TK} {s : Value} (h : RgK w K ga sb R top cnt C) (hs : StkV w T (t, s)) (hT : ∀ i, T i → i < w.heap.size ∧ i ≠ ga ∧ i ≠ sb) (hn : t.st.length ≤ 100000) :
    Calls Try.prog 39 #[.pointer (some ⟨ga, 0, none⟩), taskV t s] w (RgPu w K ga sb R top cnt C t) := by
  have H := Lib.hid h
  obtain ⟨w1, hw1⟩ : ∃ w1, w1 = w.alloc (.cells (taskA t s) 51) := ⟨_, rfl⟩
  have B1 : Hid (Below w.heap.size w w1) := Lib.hid (by rw [hw1]; exact below_alloc w _)
  have H1 := Lib.hid (h.below B1.out)
  have HBX : Hid (w1.heap[w.heap.size]? = some (.cells (taskA t s) 51 (0, 0))) := Lib.hid (by rw [hw1]; exact heap_alloc_new w _)
  have HSZ : Hid (w.heap.size < w1.heap.size) := Lib.hid (Array.getElem?_eq_some_iff.1 HBX.out).1
  have HLEN := Lib.hid (rgLen_any H1.out)
  have HROOM := Lib.hid (rgRoom_any H1.out)
  have HNT := Lib.hid hn
  have hR := h.r1; have hct := h.ct; have htp := h.tp
  have HW1 := Lib.hid hw1
  have e3 := hs.v.one
  by_cases hc : cnt = R
  · have hF : Hid (RgPu w K ga sb R top cnt C t (.returned (.bool false)) w1) := Lib.hid (.inl ⟨hc, rfl, H1.out, B1.out⟩)
    have z1 : ((cnt : Int) == (R : Int)) = true := by simp; omega
    clear h hs hT hn hw1 hc
    unfold taskV taskA
    unfold taskA at HW1
    go_enter Try.func39, Try.ntmps39
    go_wp2_with fail
    rw [← HW1.out]
    refine HLEN.out.mono ?_
    rintro e w' ⟨rfl, rfl⟩
    go_wp2_with fail
    refine HROOM.out.mono ?_
    rintro e w' ⟨rfl, rfl⟩
    go_wp2_with fail
    go_ret
    exact hF.out
  · have hcR : cnt < R := by omega
    have z1 : ((cnt : Int) == (R : Int)) = false := by simp; omega
    obtain ⟨i, hi⟩ : ∃ i, (top + cnt) % R = i := ⟨_, rfl⟩
    have HI := Lib.hid hi
    have hiR : i < R := by rw [← hi]; exact Nat.mod_lt _ (by omega)
    have HI1 : Hid ((0 : Int) ≤ (i : Int) ∧ (i : Int) < R) := Lib.hid ⟨by omega, by omega⟩
    have HI2 := Lib.hid hiR
    have HSL := Lib.hid (fun wi (hb : RgB wi ga sb R top cnt) => rgSlot_any hb ⟨hR.1, hR.2, htp⟩ cnt (by omega))
    rw [hi] at HSL
    have HOT := Lib.hid (fun wi (hv : I32V wi wi.heap.size s t.st) => ownTask_any t s wi hv hn)
    have hlt : ga < w.heap.size ∧ sb < w.heap.size ∧ ga ≠ sb ∧ (∀ i, T i → i < w.heap.size ∧ i ≠ ga ∧ i ≠ sb) := ⟨h.lts ga (.inr (.inl rfl)), h.lts sb (.inr (.inr rfl)), h.ne, hT⟩
    have HP0 : Hid (PuS w K T ga sb R top cnt i C t s 0 w1.drew) := Lib.hid (PuS.step (wi := w1) ⟨⟨H1.out.blk, HBX.out, hs.keep (T := fun _ => False) (Frm.of_below B1.out) (fun _ _ e => e) (fun _ _ e => e) (fun j hj => (hT j hj).1), .inl B1.out, HSZ.out, hlt⟩, fun _ => ⟨H1.out, B1.out⟩, fun e => by omega⟩ (Below.refl _ _).drew)
    have HFIN : Hid (∀ wi, PuS w K T ga sb R top cnt i C t s 1 wi → ∀ u, wi.cell? ⟨ga, 2, none⟩ = some u → RgPu w K ga sb R top cnt C t (.returned (.bool true)) (wi.setCell ⟨ga, 2, none⟩ (.int .i64 ((cnt : Int) + 1)))) := Lib.hid (fun wi hp u hu => by
      obtain ⟨s', K', hr, hst⟩ := hp.2.2 rfl
      refine .inr ⟨hcR, rfl, s', K', ?_, hst.trans ⟨Frm.setCell (S := RgS K' ga sb) (p := ⟨ga, 2, none⟩) (.inr (.inl rfl)) _, fun _ _ e => e, fun j hj => by have := hr.lts j hj; simpa [World.setCell] using this⟩⟩
      rw [HI.out]
      have hf : Frm (fun j => j = ga) wi (wi.setCell ⟨ga, 2, none⟩ (.int .i64 ((cnt : Int) + 1))) := Frm.setCell (S := fun j => j = ga) (p := ⟨ga, 2, none⟩) rfl _
      exact ⟨by rw [set_blk hr.blk 2 _]; rfl, (hf.block sb (hr.lts sb (.inr (.inr rfl))) (Ne.symm hr.ne)).trans hr.slo, fun k hk => ⟨(hr.st k hk).1.keep hf (fun j hj e => hr.nk.1 (by rw [← show j = ga from e]; exact hj)) (fun _ _ e => e) hr.lt, (hr.st k hk).2⟩, hr.r1, hr.tp, by omega, hr.ne, hr.nk, fun j hj => by have := hr.lt j hj; simpa [World.setCell] using this⟩)
    have HLT := Lib.hid hlt.2.1
    obtain ⟨As, ns, cs, e4⟩ : ∃ A n c, s = .slice A n c := by obtain ⟨A, c, e, _⟩ := hs.v; exact ⟨A, _, c, e⟩
    have HE4 := Lib.hid e4
    clear h hs hT hn hw1 hc hi hlt e4
    unfold taskV taskA
    have HW2 := HW1
    unfold taskA at HW2
    go_enter Try.func39, Try.ntmps39
    go_wp2_with fail
    rw [← HW2.out]
    refine HLEN.out.mono ?_
    rintro e w' ⟨rfl, rfl⟩
    go_wp2_with fail
    refine HROOM.out.mono ?_
    rintro e w' ⟨rfl, rfl⟩
    go_wp2_with fail
    clear z1 HLEN HROOM
    refine Reg.wp_facts_sl [10, 11, 12, 13, 14, 15, 16, 17, 18, 19, 20, 21, 22] rfl [13] [[], [(0, 10)], [(1, 11)], [(2, 12)], [], [], [(5, 15)], [(6, 16)], [(7, 17)], [(4, 14), (8, 18)], [], [(10, 20)], [(3, 13), (9, 19)], [(12, 22), (11, 21)]] [] (Reg.Known (ps3Val ga sb w.heap.size R i cnt (taskV t s)) (fun _ v wi => TskX w t v wi) [11]) (PuS w K T ga sb R top cnt i C t s) (by kernel_rfl) (by kernel_rfl) ?start ?steps ?finish
    case start => exact HP0.out
    case steps =>
      refine Reg.Steps.zip ?_ ?_
      · refine Reg.step_go rfl ?_
        intro a wi ki hf hd hS hc K hK
        have f0 : a.tmps.getD 0 undef = .pointer (some ⟨ga, 0, none⟩) := hf.same 0 rfl
        clear hf hd hc
        have hK0 := Lib.hid hK; clear hK
        have hS0 := Lib.hid hS; clear hS
        go_simp
        exact hK0.out _ _ (Reg.Known.mk_val rfl rfl) (fun _ _ h => h) hS0.out
      refine Reg.Steps.zip ?_ ?_
      · refine Reg.step_go rfl ?_
        intro a wi ki hf hd hS hc K hK
        have e10 : a.tmps.getD 10 undef = .pointer (some ⟨ga, 0, none⟩) := hd.1.plain rfl
        clear hf hd hc
        have hK0 := Lib.hid hK; clear hK
        have hS0 := Lib.hid hS; clear hS
        go_simp
        exact hK0.out _ _ (Reg.Known.mk_val rfl rfl) (fun _ _ h => h) hS0.out
      refine Reg.Steps.zip ?_ ?_
      · refine Reg.step_go rfl ?_
        intro a wi ki hf hd hS hc K hK
        have e11 : a.tmps.getD 11 undef = .pointer (some ⟨ga, 0, none⟩) := hd.1.plain rfl
        clear hf hd hc
        have hK0 := Lib.hid hK; clear hK
        have hS0 := Lib.hid hS; clear hS
        go_simp
        exact hK0.out _ _ (Reg.Known.mk_val rfl rfl) (fun _ _ h => h) hS0.out
      refine Reg.Steps.zip ?_ ?_
      · refine Reg.step_go rfl ?_
        intro a wi ki hf hd hS hc K hK
        have e12 : a.tmps.getD 12 undef = .pointer (some ⟨ga, 0, none⟩) := hd.1.plain rfl
        clear hf hd hc
        have cc := hS.c0
        have hK0 := Lib.hid hK; clear hK
        have hS0 := Lib.hid hS; clear hS
        go_simp
        exact hK0.out _ _ (Reg.Known.mk_val rfl rfl) (fun _ _ h => h) hS0.out
      refine Reg.Steps.zip ?_ ?_
      · refine Reg.step_go rfl ?_
        intro a wi ki hf hd hS hc K hK
        have f0 : a.tmps.getD 0 undef = .pointer (some ⟨ga, 0, none⟩) := hf.same 0 rfl
        clear hf hd hc
        have hK0 := Lib.hid hK; clear hK
        have hS0 := Lib.hid hS; clear hS
        go_simp
        exact hK0.out _ _ (Reg.Known.mk_val rfl rfl) (fun _ _ h => h) hS0.out
      refine Reg.Steps.zip ?_ ?_
      · refine Reg.step_go rfl ?_
        intro a wi ki hf hd hS hc K hK
        have f0 : a.tmps.getD 0 undef = .pointer (some ⟨ga, 0, none⟩) := hf.same 0 rfl
        clear hf hd hc
        have hK0 := Lib.hid hK; clear hK
        have hS0 := Lib.hid hS; clear hS
        go_simp
        exact hK0.out _ _ (Reg.Known.mk_val rfl rfl) (fun _ _ h => h) hS0.out
      refine Reg.Steps.zip ?_ ?_
      · refine Reg.step_go rfl ?_
        intro a wi ki hf hd hS hc K hK
        have e15 : a.tmps.getD 15 undef = .pointer (some ⟨ga, 0, none⟩) := hd.1.plain rfl
        clear hf hd hc
        have hK0 := Lib.hid hK; clear hK
        have hS0 := Lib.hid hS; clear hS
        go_simp
        exact hK0.out _ _ (Reg.Known.mk_val rfl rfl) (fun _ _ h => h) hS0.out
      refine Reg.Steps.zip ?_ ?_
      · refine Reg.step_go rfl ?_
        intro a wi ki hf hd hS hc K hK
        have e16 : a.tmps.getD 16 undef = .pointer (some ⟨ga, 0, none⟩) := hd.1.plain rfl
        clear hf hd hc
        have hK0 := Lib.hid hK; clear hK
        have hS0 := Lib.hid hS; clear hS
        go_simp
        exact hK0.out _ _ (Reg.Known.mk_val rfl rfl) (fun _ _ h => h) hS0.out
      refine Reg.Steps.zip ?_ ?_
      · refine Reg.step_go rfl ?_
        intro a wi ki hf hd hS hc K hK
        have e17 : a.tmps.getD 17 undef = .pointer (some ⟨ga, 2, none⟩) := hd.1.plain rfl
        clear hf hd hc
        have cc := hS.c2
        have hK0 := Lib.hid hK; clear hK
        have hS0 := Lib.hid hS; clear hS
        go_simp
        exact hK0.out _ _ (Reg.Known.mk_val rfl rfl) (fun _ _ h => h) hS0.out
      refine Reg.Steps.zip ?_ ?_
      · refine Reg.step_go rfl ?_
        intro a wi ki hf hd hS hc K hK
        have e14 : a.tmps.getD 14 undef = .pointer (some ⟨ga, 0, none⟩) := hd.1.plain rfl
        have e18 : a.tmps.getD 18 undef = .int .i64 cnt := hd.2.1.plain rfl
        clear hf hd
        have HS := Lib.hid hS; clear hS
        have hK0 := Lib.hid hK; clear hK hc
        go_simp
        refine (HSL.out wi HS.out.1.blk).mono ?_
        rintro e wA ⟨rfl, m, rfl⟩
        exact hK0.out _ _ (Reg.Known.mk_val rfl rfl) (fun i u h => Reg.Known.keepX h (fun hx => tskx_later hx (below_drewN (Below.refl _ _) m))) (HS.out.step (below_drewN (Below.refl _ _) m))
      refine Reg.Steps.zip ?_ ?_
      · refine Reg.step_go rfl ?_
        intro a wi ki hf hd hS hc K hK
        have f3 : a.tmps.getD 3 undef = .pointer (some ⟨w.heap.size, 0, none⟩) := hf.same 3 rfl
        clear hf hd
        exact wpTask _ rfl _ _ _ f3 _ _ hS.1.bx (hK _ _ (Reg.Known.mk_val rfl rfl) (fun _ _ h => h) hS)
      refine Reg.Steps.zip ?_ ?_
      · refine Reg.step_go rfl ?_
        intro a wi ki hf hd hS hc K hK
        have e20 : a.tmps.getD 20 undef = (taskV t s) := hd.1.plain rfl
        clear hf hd
        have HS := Lib.hid hS; clear hS
        have hK0 := Lib.hid hK; clear hK hc
        go_simp
        refine (HOT.out wi HS.out.1.st.v).mono ?_
        rintro e wA ⟨⟨s', rfl, ho⟩, hbA⟩
        have hz := HS.out.1.sz
        exact hK0.out _ _ (Reg.Known.mk_other rfl ⟨s', rfl, ho.less (by omega)⟩) (fun i u h => Reg.Known.keepX h (fun hx => tskx_later hx hbA)) (HS.out.step hbA)
      refine Reg.Steps.zip ?_ ?_
      · refine Reg.step_go rfl ?_
        intro a wi ki hf hd hS hc K hK
        have e13 : a.tmps.getD 13 undef = .slice (some ⟨sb, 0, none⟩) R R := hd.1.plain rfl
        have e19 : a.tmps.getD 19 undef = .int .i64 i := hd.2.1.plain rfl
        clear hf hd hc
        have i1 := HI1.out
        have hK0 := Lib.hid hK; clear hK
        have hS0 := Lib.hid hS; clear hS
        go_simp
        exact hK0.out _ _ (Reg.Known.mk_val rfl rfl) (fun _ _ h => h) hS0.out
      refine Reg.Steps.zip ?_ ?_
      · refine Reg.step_go rfl ?_
        intro a wi ki hf hd hS hc K hK
        have e22 : a.tmps.getD 22 undef = .pointer (some ⟨sb, i * 12, none⟩) := hd.1.plain rfl
        have x21 := hd.2.1.other rfl
        clear hf hd
        obtain rfl := hc 0 rfl
        obtain ⟨s', e21, ho⟩ : TskX w t _ wi := x21
        exact wp_store_at _ _ _ rfl _ _ (taskA t s') e22 e21 _ _ (hS.2.1 rfl).1.slo info_task (by show i * 12 + 12 ≤ (rowE slotA ((List.range R).map C)).toArray.size; rw [List.size_toArray, rowE_slots]; have := HI2.out; omega) (task_ones ho.one) (hK _ _ (Reg.Known.mk_val rfl rfl) (fun _ _ h => Reg.Known.keepX h (fun hx => tskx_row hx HLT.out _)) (hS.put HI2.out ho HNT.out rfl))
      exact Reg.Steps.nil
    case finish =>
      intro av w8 hf hd hS
      have f0 : av.tmps.getD 0 undef = .pointer (some ⟨ga, 0, none⟩) := hf.same 0 rfl
      have hd0 : av.defers = [] := hf.defers
      have hsz0 : av.tmps.size = 30 := hf.size
      have c2 := hS.c2
      have z2 : w8.frozen? ⟨ga, 2, none⟩ = false := frozen_blk hS.1.blk 2
      have HFF := Lib.hid (HFIN.out w8 hS _ c2)
      clear hf hd hS
      go_wp2_with fail
      exact ret_slot rfl (by simp [hsz0]) HFF.out

end Go.Proofs.Ytlmbjnegajiphaa
