/- Package ring: New, Half. -/
import Derived.Test.YtlmbjnegajiphaaRgr15
import Derived.Test.YtlmbjnegajiphaaApn8
namespace Go.Proofs.Ytlmbjnegajiphaa
set_option maxRecDepth 100000
open Go.RowKit

theorem made_slots (R : Nat) : madeCells (taskA zT nilV) (R * 12) = (rowE slotA ((List.range R).map fun _ => zSlot)).toArray := by
  rw [← Array.toList_inj, List.toList_toArray]
  apply List.ext_getElem?
  intro i
  by_cases hi : i < R * 12
  · have hk : i / 12 < R := by omega
    have hx : ((List.range R).map fun _ => zSlot)[i / 12]? = some zSlot := by simp [hk]
    have hj : i % 12 < 12 := Nat.mod_lt _ (by decide)
    have hu : (slotA zSlot)[i % 12]? = some ((slotA zSlot)[i % 12]'hj) := Array.getElem?_eq_getElem hj
    have h1 := rowE_get slotA_size hx hu
    rw [show i / 12 * 12 + i % 12 = i from by omega] at h1
    have h2 : (madeCells (taskA zT nilV) (R * 12)).toList[i]? = some ((taskA zT nilV)[i % 12]!) := by simp [madeCells, hi]; rfl
    rw [h1, h2, getElem!_pos (taskA zT nilV) (i % 12) hj]; rfl
  · rw [List.getElem?_eq_none (by rw [Array.length_toList, size_madeCells]; omega), List.getElem?_eq_none (by rw [rowE_length slotA_size]; simp; omega)]
theorem run_make_slots (w : World) (y : Nat) (hy : y ≤ 64) :
    (Instr.makeSlice 55 (.int .i64 (y : Int)) (.int .i64 (y : Int))).run Try.prog w = .ok (.slice (some ⟨w.heap.size, 0, none⟩) y y) (w.alloc (.cells (rowE slotA ((List.range y).map fun _ => zSlot)).toArray 51)) := by
  obtain ⟨i0, hi, hz0, hz1, hz2⟩ := info_parts inf_task
  have h := run_make (w := w) (P := Try.prog) 55 51 i0 _ Try.underlying55 hi hz0 .i64 .i64 (y : Int) (y : Int) (by omega) (Int.le_refl _) (by rw [hz2]; omega) (by omega)
  rw [h, hz1, Int.toNat_natCast, ← made_slots]
  rfl
/-- What New makes. -/
def RgNew (w : World) (R : Nat) (e : Ending) (w' : World) : Prop :=
  ∃ a sb, e = .returned (.pointer (some ⟨a, 0, none⟩)) ∧ RgK w' (fun _ => False) a sb R 0 0 (fun _ => zSlot) ∧ Below w.heap.size w w' ∧ w.heap.size ≤ a ∧ w.heap.size ≤ sb
def roomZ (x : Int) : Nat := (min (max x 1) 64).toNat
set_option maxHeartbeats 4000000 in
theorem rgNew_any (w : World) (x : Int) : Calls Try.prog 36 #[.int .i64 x] w (RgNew w (roomZ x)) := by
  obtain ⟨R, hR⟩ : ∃ R, roomZ x = R := ⟨_, rfl⟩
  have hb : 1 ≤ R ∧ R ≤ 64 := by rw [← hR]; unfold roomZ; omega
  obtain ⟨m, hm⟩ : ∃ m : Int, (if x < 1 then 1 else x) = m := ⟨_, rfl⟩
  have e1 : (if (64 : Int) < m then (64 : Int) else m) = (R : Int) := by rw [← hm, ← hR]; unfold roomZ; split <;> split <;> omega
  have hmk := fun w => run_make_slots w R hb.2
  rw [hR]
  clear hR
  go_enter Try.func36, Try.ntmps36
  go_wp2_with fail
  have h1 := heap_alloc_new (w.alloc (.cells (rowE slotA ((List.range R).map fun _ => zSlot)).toArray 51)) (.cells #[.slice (some ⟨w.heap.size, 0, none⟩) R R, .int .i64 0, .int .i64 0] 120)
  rw [show (w.alloc (.cells (rowE slotA ((List.range R).map fun _ => zSlot)).toArray 51)).heap.size = w.heap.size + 1 from by simp] at h1
  go_ret
  exact ⟨w.heap.size + 1, w.heap.size, rfl, ⟨h1, heapOldS (heap_alloc_new w _), fun k _ => ⟨StkV.zero _ _, Nat.zero_le _⟩, hb, by omega, Nat.zero_le _, by omega, ⟨id, id⟩, fun _ h => h.elim⟩, (below_alloc w _).alloc (by simp) _, by omega, Nat.le_refl _⟩

theorem drop_cons_get {X : Type} {l m : List X} {k : Nat} {x : X} (h : l.drop k = x :: m) : l[k]? = some x ∧ l.drop (k + 1) = m ∧ l.take (k + 1) = l.take k ++ [x] := by
  have h1 : l[k]? = some x := by
    have := congrArg (fun z => z[0]?) h
    simpa using this
  refine ⟨h1, ?_, ?_⟩
  · rw [← List.drop_drop, h]; rfl
  · rw [List.take_add_one, h1]; rfl
/-- What Half answers and leaves. -/
def RgHf (w : World) (K : Nat → Prop) (ga sb R top cnt : Nat) (C : Nat → SlotX) (e : Ending) (w' : World) : Prop :=
  ∃ v C', e = .returned v ∧ OwnT w' w.heap.size v ((ringL C R top cnt).take ((cnt + 1) / 2)) ∧ RgK w' K ga sb R ((top + (cnt + 1) / 2) % R) (cnt - (cnt + 1) / 2) C' ∧ ringL C' R ((top + (cnt + 1) / 2) % R) (cnt - (cnt + 1) / 2) = (ringL C R top cnt).drop ((cnt + 1) / 2) ∧
    (∀ x ∈ (ringL C R top cnt).take ((cnt + 1) / 2), StkV w' K x ∧ x.1.st.length ≤ 100000) ∧ Frm (fun j => j = ga ∨ j = sb) w w'
def HfK (w : World) (K : Nat → Prop) (ga sb R top cnt : Nat) (C : Nat → SlotX) (v : Value) (j : Nat) (wr : World) : Prop :=
  OwnT wr w.heap.size v ((ringL C R top cnt).take j) ∧ ∃ C', RgK wr K ga sb R ((top + j) % R) (cnt - j) C' ∧ ringL C' R ((top + j) % R) (cnt - j) = (ringL C R top cnt).drop j ∧
    (∀ x ∈ (ringL C R top cnt).take j, StkV wr K x ∧ x.1.st.length ≤ 100000) ∧ Frm (fun j => j = ga ∨ j = sb) w wr
set_option maxRecDepth 100000 in
set_option maxHeartbeats 8000000 in
theorem rgHalf_any {w : World} {K : Nat → Prop} {ga sb R top cnt : Nat} {C : Nat → SlotX} (h : RgK w K ga sb R top cnt C) :
    Calls Try.prog 46 #[.pointer (some ⟨ga, 0, none⟩)] w (RgHf w K ga sb R top cnt C) := by
  have H := Lib.hid h
  have c2 := cell_blk h.blk 2
  have hct := h.ct
  have hR := h.r1
  have hla := h.lts ga (.inr (.inl rfl))
  have hls := h.lts sb (.inr (.inr rfl))
  obtain ⟨q, hq⟩ : ∃ q, (cnt + 1) / 2 = q := ⟨_, rfl⟩
  have e1 : ((cnt : Int) + 1).tdiv 2 = (q : Int) := by rw [← hq]; rfl
  have hqc : q ≤ cnt := by omega
  obtain ⟨P, hP⟩ : ∃ P : Value → Prop, P = fun _ => True := ⟨_, rfl⟩
  have HQ := Lib.hid hq
  clear h hq hP P
  go_enter Try.func46, Try.ntmps46
  go_wp2_with fail
  go_loopw [3, 12] (fun f i wr => ∃ j : Nat, j ≤ q ∧ i = .int .i64 j ∧ HfK w K ga sb R top cnt C f j wr) (fun _ i _ => q - (intOf i).toNat)
  case atStart => exact ⟨0, Nat.zero_le _, rfl, OwnT.nil _ _, C, by rw [Nat.add_zero, Nat.mod_eq_of_lt H.out.tp]; exact H.out, by rw [Nat.add_zero, Nat.mod_eq_of_lt H.out.tp]; rfl, fun x hx => by simp at hx, Frm.refl _ _⟩
  case round =>
    obtain ⟨j, hj, rfl, hO, C', hr, hl, hst, hfr⟩ := hrel
    have HF := Lib.hid hfr
    by_cases hjq : j < q
    · have hc0 : 0 < cnt - j := by omega
      have HST := Lib.hid (rgSteal_any hr hc0)
      have HR := Lib.hid hr; have HO := Lib.hid hO; have HL := Lib.hid hl; have HS := Lib.hid hst
      clear hr hO hl hst hfr
      obtain ⟨tj, htj⟩ : ∃ tj, (top + j) % R = tj := ⟨_, rfl⟩
      obtain ⟨cj, hcj⟩ : ∃ cj, cnt - j = cj := ⟨_, rfl⟩
      rw [htj, hcj] at HST HR HL
      have HTJ := Lib.hid htj; have HCJ := Lib.hid hcj
      clear htj hcj
      go_wp2_with fail
      refine HST.out.mono ?_
      rintro e w2 ⟨rfl, hr2, hs2, hf2⟩
      have hcj0 : cj ≤ R ∧ tj < R := ⟨HR.out.ct, HR.out.tp⟩
      obtain ⟨c', hc'⟩ : ∃ c', cj = c' + 1 := ⟨cj - 1, by have := HCJ.out; omega⟩
      subst hc'
      rw [show c' + 1 - 1 = c' from by omega] at hr2
      have hl2 := ringL_cons C' R tj c' hcj0.2
      rw [HL.out] at hl2
      obtain ⟨hg, hd, ht⟩ := drop_cons_get hl2
      have hl3 : ringL (upd C' tj zSlot) R ((tj + 1) % R) c' = (ringL C R top cnt).drop (j + 1) := by
        rw [hd]; exact ring_steal C' zSlot hcj0.2 (by omega)
      have HT := Lib.hid ht
      have hln : ((ringL C R top cnt).take j).length = j := by rw [List.length_take, ringL_length]; omega
      have HLN := Lib.hid hln
      have hst0 := (HR.out.st tj hcj0.2).2
      obtain ⟨x, hx⟩ : ∃ x, C' tj = x := ⟨_, rfl⟩
      rw [hx] at hs2 ht hst0
      have hone : x.2.oneCell' = true := hs2.v.one
      have HS2 : Hid (∀ y ∈ (ringL C R top cnt).take (j + 1), StkV w2 K y ∧ y.1.st.length ≤ 100000) := Lib.hid (by
        intro y hy
        rw [ht, List.mem_append, List.mem_singleton] at hy
        rcases hy with hy | rfl
        · obtain ⟨h5, h6⟩ := HS.out y hy
          exact ⟨h5.keep hf2 (fun k hk e => by rcases e with rfl | rfl; exact HR.out.nk.1 hk; exact HR.out.nk.2 hk) (fun _ _ h => h) HR.out.lt, h6⟩
        · exact ⟨hs2, hst0⟩)
      have HR2 := Lib.hid hr2
      have HL3 := Lib.hid hl3
      have HF2 : Hid (Frm (fun k => k = ga ∨ k = sb) w w2) := Lib.hid (HF.out.trans hf2 fun _ _ e => e)
      have HO2 := Lib.hid (HO.out.frm hf2 (fun k hk e => by rcases e with rfl | rfl <;> omega))
      rw [hx] at HT ⊢
      obtain ⟨t, sx⟩ := x
      obtain ⟨As, ns, cs, rfl⟩ : ∃ A n c, sx = .slice A n c := by obtain ⟨A, c, e, _⟩ := hs2; exact ⟨A, _, c, e⟩
      clear hr2 hs2 hf2 hl2 hg hd ht hl3 hst0 hx
      have hsz2 : w.heap.size ≤ w2.heap.size := HF2.out.size
      obtain ⟨w3, hw3⟩ : ∃ w3, w3 = (w2.alloc (.cells #[.int .i32 0, .int .i64 0, .int .i64 0, .slice none 0 0, .int .i32 0, .int .i32 0, .int .i32 0, .int .i32 0, .int .i64 0, .int .i64 0, .int .u32 0, .int .i64 0] 51)).setRow w2.heap.size (taskA t (.slice As ns cs)) := ⟨_, rfl⟩
      have HZ : Hid ((w2.alloc (.cells (taskA zT nilV) 51)).heap[w2.heap.size]? = some (.cells (taskA zT nilV) 51 (0, 0))) := Lib.hid (heap_alloc_new w2 _)
      have HX : Hid (w3.heap[w2.heap.size]? = some (.cells (taskA t (.slice As ns cs)) 51 (0, 0))) := Lib.hid (by rw [hw3]; exact row_at HZ.out _)
      have B3 : Hid (Below w2.heap.size w2 w3) := Lib.hid (by rw [hw3]; exact (below_alloc w2 _).trans (row_below (Nat.le_refl _)))
      have hsz3 : w3.heap.size = w2.heap.size + 1 := by rw [hw3]; simp [World.setRow]
      have HW3 := Lib.hid hw3
      have HO3 : Hid (w3.ownsRow w.heap.size 51 12 u3 j (rowE slotA ((ringL C R top cnt).take j))) := Lib.hid (by
        have := HO2.out.frm (Frm.of_below B3.out (S := fun _ => False)) (fun _ _ e => e)
        unfold OwnT at this; rwa [HLN.out] at this)
      clear hw3 hln
      go_wp2_with (first | (refine store_task rfl _ _ rfl rfl w2.heap.size t (.slice As ns cs) rfl rfl _ _ _ HZ.out rfl ?_; rw [← HW3.out]) | (refine load_taskAt rfl _ rfl w2.heap.size t (.slice As ns cs) rfl _ _ HX.out ?_; simp only [taskV, taskA]) | (at_builtin; go_must (refine wpList_append_new 55 51 _ 12 96 Try.underlying55 inf_task rfl (by decide) (by decide) rfl (.tmp 19) (.tmp 21) rfl w.heap.size _ _ _ _ (taskA t (.slice As ns cs)).toList rfl rfl HO3.out (by rw [hsz3]; rfl) rfl ?c1 ?c2 ?c3 ?_)) | fail)
      case c1 => intro u hu; have := task_ones (t := t) (s := .slice As ns cs) rfl; rw [Array.all_eq_true'] at this; exact this u (Array.mem_toList_iff.1 hu)
      case c2 => omega
      case c3 => omega
      intro v4 w4 ho4 hg4 _
      have HO4 : Hid (OwnT w4 w.heap.size v4 ((ringL C R top cnt).take (j + 1))) := Lib.hid (by rw [HT.out]; exact OwnT.snoc HLN.out.symm ho4)
      have HB4 : Hid (Below w.heap.size w2 w4) := Lib.hid ((B3.out.mono hsz2).grown hg4 (by omega) (fun k hk => (World.ownsRow.lt HO3.out k hk).1))
      have HFR : Hid (Frm (fun k => w.heap.size ≤ k) w2 w4) := Lib.hid ⟨HB4.out.os, HB4.out.tape, HB4.out.output, HB4.out.size, fun k _ hk => HB4.out.block k (by omega)⟩
      have HREL : Hid (HfK w K ga sb R top cnt C v4 (j + 1) w4) := Lib.hid (by
        have hlk : ∀ k, RgS K ga sb k → ¬ w.heap.size ≤ k := fun k hk => by have := H.out.lts k hk; omega
        have e5 : (top + (j + 1)) % R = (tj + 1) % R := by rw [← HTJ.out, Nat.mod_add_mod]; rfl
        have e6 : cnt - (j + 1) = c' := by have := HCJ.out; omega
        refine ⟨HO4.out, upd C' tj zSlot, ?_, ?_, ?_, ?_⟩
        · rw [e5, e6]; exact HR2.out.keep HFR.out hlk
        · rw [e5, e6]; exact HL3.out
        · intro y hy
          exact ⟨(HS2.out y hy).1.keep HFR.out (fun k hk => hlk k (.inl hk)) (fun _ _ h => h) HR2.out.lt, (HS2.out y hy).2⟩
        · exact ⟨HB4.out.os.trans HF2.out.os, HB4.out.tape.trans HF2.out.tape, HB4.out.output.trans HF2.out.output, Nat.le_trans HF2.out.size HB4.out.size, fun k hk hn => (HB4.out.block k hk).trans (HF2.out.block k hk hn)⟩)
      clear ho4 hg4
      go_wp2_with fail
      go_roundw
      case rel => exact ⟨j + 1, by omega, by go_num, HREL.out⟩
      case measure => simp [intOf]; omega
    · obtain rfl : q = j := by omega
      go_wp2_with fail
      go_ret
      rw [← HQ.out] at hO hr hl hst
      exact ⟨_, C', rfl, hO, hr, hl, hst, hfr⟩

end Go.Proofs.Ytlmbjnegajiphaa
