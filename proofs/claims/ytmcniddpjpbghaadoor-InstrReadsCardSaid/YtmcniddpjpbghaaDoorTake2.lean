/- Take: the instruction is taken where there is one; else nothing is. -/
import Derived.Test.YtmcniddpjpbghaaDoorTakeI
namespace Go.Proofs.YtmcniddpjpbghaaDoor
set_option maxRecDepth 100000
open Go.RowKit

/-- What Take answers, and what it leaves. -/
def tOp (st : RS) : Int := if takeOk st then ((opR st).1 : Nat) else 0
def tArg (st : RS) : Int := if takeOk st then argI st else 0
def tRest (st : RS) : RS := if takeOk st then (argR st).2 else st

set_option maxHeartbeats 4000000 in
theorem takeNil_any (w : World) : Calls Tryd.prog 16 #[.pointer none] w fun e w' => e = .returned (.tuple #[insV 0 0, .bool false]) ∧ Below w.heap.size w w' := by
  have hb := Lib.hid (below_alloc w (.cells #[.int .i64 0, .int .i32 0] 23))
  have hq0 := heap_alloc_new w (.cells #[.int .i64 0, .int .i32 0] 23)
  unfold insV
  go_enter Tryd.func16, Tryd.ntmps16
  go_wp2
  try simp only [Exit.inBlock, Exit.then]
  refine ret_instr2 rfl rfl rfl hq0 ?_
  exact ⟨rfl, hb.out⟩

set_option maxHeartbeats 400000 in
theorem take_any (B g : Nat) (st : RS) (w : World) (h : Rd w B g 75 st) :
    Calls Tryd.prog 16 #[.pointer (some ⟨g, 0, none⟩)] w fun e w' =>
      e = .returned (.tuple #[insV (tOp st) (tArg st), .bool (takeOk st)]) ∧ Rd w' B g 75 (tRest st) ∧ w.grownBy w' (some g) := by
  have hlt := h.lt
  have hle := h.le
  have hx := argI_range st
  obtain ⟨A, c, hg, hn, hm, hl⟩ := h.blk
  have hby := h.bytes
  obtain ⟨l, er⟩ := st
  dsimp only at hg hn hm hl hby
  have hq0 := heap_alloc_new w (.cells #[.int .i64 0, .int .i32 0] 23)
  have hb := below_alloc w (.cells #[.int .i64 0, .int .i32 0] 23)
  obtain ⟨w1, hw1⟩ : ∃ w1, w.alloc (.cells #[.int .i64 0, .int .i32 0] 23) = w1 := ⟨_, rfl⟩
  have hs1 : w1.heap.size = w.heap.size + 1 := by rw [← hw1]; simp
  rw [hw1] at hq0 hb
  have hg1' : w1.heap[g]? = some (.cells #[.slice A l.length c, .int .i64 er] 75 (0, 0)) := (hb.block g hlt).trans hg
  have hg0 : w1.cell? ⟨g, 0, none⟩ = some (.slice A l.length c) := cell_blk hg1' 0
  have hg1 : w1.cell? ⟨g, 1, none⟩ = some (.int .i64 er) := cell_blk hg1' 1
  have hn1 := heap_alloc_new w1 (.cells #[.slice A l.length c, .int .i64 er] 75)
  have hb1 := below_alloc w1 (.cells #[.slice A l.length c, .int .i64 er] 75)
  have hs2 : (w1.alloc (.cells #[.slice A l.length c, .int .i64 er] 75)).heap.size = w1.heap.size + 1 := by simp
  obtain ⟨w2, hw2⟩ : ∃ w2, w1.alloc (.cells #[.slice A l.length c, .int .i64 er] 75) = w2 := ⟨_, rfl⟩
  rw [hw2] at hn1 hb1 hs2
  obtain ⟨t4, ht4⟩ : ∃ t4, w1.heap.size = t4 := ⟨_, rfl⟩
  obtain ⟨q, hq⟩ : ∃ q, w.heap.size = q := ⟨_, rfl⟩
  rw [ht4] at hn1 hs1 hs2
  have HR2 : Hid (Rd w2 B t4 75 (l, er)) := Lib.hid
    ⟨by omega, ⟨A, c, hn1, hn, hm, (hl.below (hb.mono (by omega))).below (hb1.mono (by omega))⟩, hby⟩
  have hq2 : w2.heap[q]? = some (.cells #[.int .i64 0, .int .i32 0] 23 (0, 0)) := (hb1.block q (by omega)).trans (by rw [← hq]; exact hq0)
  have hg2 : w2.heap[g]? = some (.cells #[.slice A l.length c, .int .i64 er] 75 (0, 0)) := (hb1.block g (by omega)).trans hg1'
  have B2 := Lib.hid (nextB hb hb1)
  have H := Lib.hid h
  have HQ2 := Lib.hid hq2
  have HG2 := Lib.hid hg2
  obtain ⟨op, hop⟩ : ∃ op : Nat, (opR (l, er)).1 = op := ⟨_, rfl⟩
  obtain ⟨x, hx2⟩ : ∃ x, argI (l, er) = x := ⟨_, rfl⟩
  obtain ⟨st2, hst2⟩ : ∃ s, (argR (l, er)).2 = s := ⟨_, rfl⟩
  obtain ⟨ok, hok⟩ : ∃ r, takeOk (l, er) = r := ⟨_, rfl⟩
  have T1 := take1_any B t4 (l, er) w2 HR2.out
  unfold insV at T1 ⊢
  rw [hop, hx2, hst2, hok] at T1
  have HT := Lib.hid T1
  have et1 : tOp (l, er) = if ok then (op : Int) else 0 := by unfold tOp; rw [hok, hop]
  have et2 : tArg (l, er) = if ok then x else 0 := by unfold tArg; rw [hok, hx2]
  have et3 : tRest (l, er) = if ok then st2 else (l, er) := by unfold tRest; rw [hok, hst2]
  rw [et1, et2, et3, hok]
  have hqt : q < t4 := by omega
  have ht2 : t4 < w2.heap.size := by omega
  clear hs1 hs2
  clear h hn hm hl hby hg hq0 hb hg1' hn1 hb1 hq2 hg2 T1 et1 et2 et3 hop hx2 hst2 hok hx
  cases ok with
  | false =>
    simp only [Bool.false_eq_true, if_false]
    go_enter Tryd.func16, Tryd.ntmps16
    go_wp2_with fail
    refine HT.out.mono ?_
    rintro e w3 ⟨rfl, R3, g3⟩
    clear hw1 hw2 hg0 hg1 ht4
    have hq3 := (g3.block q (by omega) (by intro e; injection e; omega)).trans HQ2.out
    have c0 : w3.cell? ⟨q, 0, none⟩ = some (.int .i64 0) := cell_blk hq3 0
    have c1 : w3.cell? ⟨q, 1, none⟩ = some (.int .i32 0) := cell_blk hq3 1
    have f0 : w3.frozen? ⟨q, 0, none⟩ = false := frozen_blk hq3 0
    have f1 : w3.frozen? ⟨q, 1, none⟩ = false := frozen_blk hq3 1
    have hq4 : q < w3.heap.size := (Array.getElem?_eq_some_iff.1 hq3).1
    have HQ3 := Lib.hid hq3; have G3 := Lib.hid g3
    clear R3 g3 hq3 HG2
    go_wp2_with fail
    try simp only [Exit.inBlock, Exit.then]
    have hset := set_blk (set_blk HQ3.out 0 (.int .i64 0)) 1 (.int .i32 0)
    have hqf := ((below_alloc ((w3.setCell ⟨q, 0, none⟩ (.int .i64 0)).setCell ⟨q, 1, none⟩ (.int .i32 0)) (.cells #[.int .i64 op, .int .i32 x] 23)).block q (by simpa [World.setCell] using hq4)).trans hset
    have hgr := grown_setCell (grown_setCell (grown_refl w3 (some q)) 0 (.int .i64 0)) 1 (.int .i32 0)
    have hkeep : ∀ k, k < w.heap.size → (((w3.setCell ⟨q, 0, none⟩ (.int .i64 0)).setCell ⟨q, 1, none⟩ (.int .i32 0)).alloc (.cells #[.int .i64 op, .int .i32 x] 23)).heap[k]? = w.heap[k]? := fun k hk => by
      have hk3 : k < w3.heap.size := by omega
      rw [(below_alloc _ _).block k (by simpa [World.setCell] using hk3), heap_set (by omega), heap_set (by omega), G3.out.block k (by have := B2.out.size; omega) (by intro e; injection e; omega), B2.out.block k hk]
    refine ret_instr2 rfl rfl rfl hqf ?_
    refine ⟨rfl, H.out.below ⟨?_, ?_, ?_, ?_, hkeep⟩, ?_, ?_, ?_, ?_, fun k hk _ => hkeep k hk⟩
    · exact G3.out.os.trans B2.out.os
    · exact G3.out.tape.trans B2.out.tape
    · exact G3.out.output.trans B2.out.output
    · simp [World.setCell]; omega
    · exact G3.out.os.trans B2.out.os
    · exact G3.out.tape.trans B2.out.tape
    · exact G3.out.output.trans B2.out.output
    · simp [World.setCell]; omega
  | true =>
    simp only [if_true]
    go_enter Tryd.func16, Tryd.ntmps16
    go_wp2_with fail
    refine HT.out.mono ?_
    rintro e w3 ⟨rfl, R3, g3⟩
    clear hw1 hw2 hg0 hg1 ht4
    have hq3 := (g3.block q (by omega) (by intro e; injection e; omega)).trans HQ2.out
    have hg3 := (g3.block g (by omega) (by intro e; injection e; omega)).trans HG2.out
    have c0 : w3.cell? ⟨q, 0, none⟩ = some (.int .i64 0) := cell_blk hq3 0
    have c1 : w3.cell? ⟨q, 1, none⟩ = some (.int .i32 0) := cell_blk hq3 1
    have f0 : w3.frozen? ⟨q, 0, none⟩ = false := frozen_blk hq3 0
    have f1 : w3.frozen? ⟨q, 1, none⟩ = false := frozen_blk hq3 1
    have d0 : w3.cell? ⟨g, 0, none⟩ = some (.slice A l.length c) := cell_blk hg3 0
    have d1 : w3.cell? ⟨g, 1, none⟩ = some (.int .i64 er) := cell_blk hg3 1
    have f2 : w3.frozen? ⟨g, 0, none⟩ = false := frozen_blk hg3 0
    have f3 : w3.frozen? ⟨g, 1, none⟩ = false := frozen_blk hg3 1
    obtain ⟨A2, c2, h42, k1, k2, k3⟩ := R3.blk
    have d4 : w3.cell? ⟨t4, 0, none⟩ = some (.slice A2 st2.1.length c2) := cell_blk h42 0
    have d5 : w3.cell? ⟨t4, 1, none⟩ = some (.int .i64 st2.2) := cell_blk h42 1
    have hq4 : q < w3.heap.size := (Array.getElem?_eq_some_iff.1 hq3).1
    have hg4 : g < w3.heap.size := (Array.getElem?_eq_some_iff.1 hg3).1
    have ht3 : t4 < w3.heap.size := R3.lt
    have hgq : g < q := by omega
    have HQ3 := Lib.hid hq3; have HG3 := Lib.hid hg3; have G3 := Lib.hid g3; have RR3 := Lib.hid R3; have HK3 := Lib.hid k3; have HT4 := Lib.hid h42
    clear R3 g3 hq3 HG2 hg3 k3 h42
    go_wp2_with fail
    try simp only [Exit.inBlock, Exit.then]
    obtain ⟨wf, hwf⟩ : ∃ wf, wf = (((((w3.setCell ⟨g, 0, none⟩ (.slice A2 st2.1.length c2)).setCell ⟨g, 1, none⟩ (.int .i64 st2.2)).setCell ⟨q, 0, none⟩ (.int .i64 op)).setCell ⟨q, 1, none⟩ (.int .i32 x)).alloc (.cells #[.int .i64 op, .int .i32 x] 23)) := ⟨_, rfl⟩
    have hsz : ∀ k, k < w3.heap.size → wf.heap[k]? = ((((w3.setCell ⟨g, 0, none⟩ (.slice A2 st2.1.length c2)).setCell ⟨g, 1, none⟩ (.int .i64 st2.2)).setCell ⟨q, 0, none⟩ (.int .i64 op)).setCell ⟨q, 1, none⟩ (.int .i32 x)).heap[k]? := fun k hk => by
      rw [hwf]; exact (below_alloc _ _).block k (by simpa [World.setCell] using hk)
    have hqf : wf.heap[q]? = some (.cells #[.int .i64 op, .int .i32 x] 23 (0, 0)) := by
      have h3 : ((w3.setCell ⟨g, 0, none⟩ (.slice A2 st2.1.length c2)).setCell ⟨g, 1, none⟩ (.int .i64 st2.2)).heap[q]? = some (.cells #[.int .i64 0, .int .i32 0] 23 (0, 0)) := by
        rw [heap_set (by omega), heap_set (by omega)]; exact HQ3.out
      rw [hsz q hq4]
      simpa using set_blk (set_blk h3 0 (.int .i64 op)) 1 (.int .i32 x)
    have hgf : wf.heap[g]? = some (.cells #[.slice A2 st2.1.length c2, .int .i64 st2.2] 75 (0, 0)) := by
      rw [hsz g hg4, heap_set (by omega), heap_set (by omega)]
      simpa using set_blk (set_blk HG3.out 0 (.slice A2 st2.1.length c2)) 1 (.int .i64 st2.2)
    have hkeep : ∀ k, k < w.heap.size → k ≠ g → wf.heap[k]? = w.heap[k]? := fun k hk hne => by
      have hk3 : k < w3.heap.size := by omega
      rw [hsz k hk3, heap_set (by omega), heap_set (by omega), heap_set hne, heap_set hne, G3.out.block k (by have := B2.out.size; omega) (by intro e; injection e; omega), B2.out.block k hk]
    have hlow : ∀ b o, b < B → wf.cell? ⟨b, o, none⟩ = w3.cell? ⟨b, o, none⟩ := fun b o hb => by
      refine World.cell?_of_block ?_
      rw [hsz b (by omega), heap_set (by omega), heap_set (by omega), heap_set (by omega), heap_set (by omega)]
    have hos : wf.os = w3.os ∧ wf.tape = w3.tape ∧ wf.output = w3.output ∧ w3.heap.size ≤ wf.heap.size := by rw [hwf]; exact ⟨rfl, rfl, rfl, by simp [World.setCell]⟩
    rw [← hwf]
    refine ret_instr2 rfl rfl rfl hqf ?_
    refine ⟨rfl, ⟨hle, ⟨A2, c2, hgf, k1, k2, HK3.out.keep hlow⟩, RR3.out.bytes⟩, ?_, ?_, ?_, ?_, fun k hk hne => hkeep k hk (fun e => hne (by rw [e]))⟩
    · exact hos.1.trans (G3.out.os.trans B2.out.os)
    · exact hos.2.1.trans (G3.out.tape.trans B2.out.tape)
    · exact hos.2.2.1.trans (G3.out.output.trans B2.out.output)
    · have := hos.2.2.2; omega

end Go.Proofs.YtmcniddpjpbghaaDoor
