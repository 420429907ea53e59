/- Records out of bytes: take, rows.Some, rows.Take, Read. -/
import Derived.Test.YtmcphlklknfbmaaAp22
import Derived.Test.YtmcphlklknfbmaaRead
import Derived.Laws.ResultCell
namespace Go.Proofs.Ytmcphlklknfbmaa
set_option maxRecDepth 100000
open Go.RowKit

def i32of (n : Nat) : Int := if n < 2147483648 then n else (n : Int) - 4294967296
theorem numR_most (most : Nat) (st : RS) : (numR most st).1 ≤ most := by
  unfold numR
  split
  · exact Nat.zero_le _
  · split
    · exact Nat.zero_le _
    · split
      · exact Nat.zero_le _
      · show _ ≤ _; omega
/-- The record that one looks for, and what is left. -/
def r0 (st : RS) : Nat × RS := numR 9223372036854775807 st
def r1 (st : RS) : Nat × RS := numR 9223372036854775807 (r0 st).2
def r2 (st : RS) : Nat × RS := numR 9223372036854775807 (r1 st).2
def r3 (st : RS) : Nat × RS := numR 4294967295 (r2 st).2
def r4 (st : RS) : Nat × RS := numR 9223372036854775807 (r3 st).2
def r5 (st : RS) : Nat × RS := numR 2147483647 (r4 st).2
def recR (st : RS) : RecX := ⟨((r0 st).1 : Int), ((r1 st).1 : Int), ((r2 st).1 : Int), i32of (r3 st).1, ((r4 st).1 : Int), ((r5 st).1 : Int)⟩
theorem ret_rec {fn : Func} {R : Ending → World → Prop} {a : Act} {w : World} {p g t : Nat} {u : RecX} {fr : Nat × Nat} (h : fn.results = #[.cell p 59]) (hd : a.defers = [])
    (hp : a.tmps.getD p undef = .pointer (some ⟨g, 0, none⟩)) (hg : w.heap[g]? = some (.cells (recA u) t fr)) (hR : R (.returned (.agg (recA u))) w) : bodyPost Try.prog fn R .ret a w := by
  refine bodyPost_ret ?_ hd hR
  exact results_cell_row h a.tmps w g t (recA u) fr _ hp hg Try.underlying59 rfl info_rec
/-- What take answers. -/
def Took (w : World) (B g : Nat) (st : RS) (e : Ending) (w' : World) : Prop := e = .returned (.agg (recA (recR st))) ∧ Rd w' B g 155 (r5 st).2 ∧ w.grownBy w' (some g)
theorem Rd.alloc' {w : World} {B g t : Nat} {st : RS} (h : Rd w B g t st) (o : Obj) : Rd (w.alloc o) B g t st := by
  obtain ⟨A, c, hg, h1, h2, h3⟩ := h.blk
  have hlt := (Array.getElem?_eq_some_iff.1 hg).1
  exact ⟨h.le, ⟨A, c, (heap_alloc_old w o hlt).trans hg, h1, h2, h3.keep fun b o2 hb => World.cell?_of_block (w := w) (heap_alloc_old w o (by have := h.le; show b < w.heap.size; omega))⟩, h.bytes⟩
set_option maxRecDepth 100000 in
set_option maxHeartbeats 8000000 in
theorem take1_any {w : World} {B g : Nat} {st : RS} (h : Rd w B g 155 st) : Calls Try.prog 78 #[.pointer (some ⟨g, 0, none⟩)] w (Took w B g st) := by
  have hgl : g < w.heap.size := h.lt
  obtain ⟨w1, hw1⟩ : ∃ y, y = w.alloc (.cells #[.int .i64 0, .int .i64 0, .int .i64 0, .int .i32 0, .int .i64 0, .int .i32 0] 59) := ⟨_, rfl⟩
  have HZ1 : Hid (w1.heap[w.heap.size]? = some (.cells (recA zR) 59 (0, 0))) := Lib.hid (by rw [hw1]; exact heap_alloc_new w _)
  have R1 : Hid (Rd w1 B g 155 st) := Lib.hid (by rw [hw1]; exact h.alloc' _)
  have G1 : Hid (w.grownBy w1 (some g)) := Lib.hid (by rw [hw1]; exact World.grownBy_alloc w _ _)
  have HW1 := Lib.hid hw1
  have hs1 : w.heap.size < w1.heap.size := (Array.getElem?_eq_some_iff.1 HZ1.out).1
  have hng : w.heap.size ≠ g := by omega
  have HNX := Lib.hid (fun (wa : World) (s : RS) (most : Nat) (hm : most ≤ 18446744073709551615) (hr : Rd wa B g 155 s) => num_any B g s most wa hm hr)
  have m0 := numR_most 9223372036854775807 st
  have m1 := numR_most 9223372036854775807 (r0 st).2
  have m2 := numR_most 9223372036854775807 (r1 st).2
  have m3 := numR_most 4294967295 (r2 st).2
  have m4 := numR_most 9223372036854775807 (r3 st).2
  have m5 := numR_most 2147483647 (r4 st).2
  have HRC : Hid (recR st = ⟨((numR 9223372036854775807 st).1 : Int), ((numR 9223372036854775807 (r0 st).2).1 : Int), ((numR 9223372036854775807 (r1 st).2).1 : Int), i32of (numR 4294967295 (r2 st).2).1, ((numR 9223372036854775807 (r3 st).2).1 : Int), ((numR 2147483647 (r4 st).2).1 : Int)⟩) := Lib.hid rfl
  have HP0 := Lib.hid (HNX.out w1 st 9223372036854775807 (by omega) R1.out)
  have HP1 := Lib.hid (fun wa => HNX.out wa (r0 st).2 9223372036854775807 (by omega))
  have HP2 := Lib.hid (fun wa => HNX.out wa (r1 st).2 9223372036854775807 (by omega))
  have HP3 := Lib.hid (fun wa => HNX.out wa (r2 st).2 4294967295 (by omega))
  have HP4 := Lib.hid (fun wa => HNX.out wa (r3 st).2 9223372036854775807 (by omega))
  have HP5 := Lib.hid (fun wa => HNX.out wa (r4 st).2 2147483647 (by omega))
  generalize hn0 : (numR 9223372036854775807 st).1 = n0 at *
  generalize hn1 : (numR 9223372036854775807 (r0 st).2).1 = n1 at *
  generalize hn2 : (numR 9223372036854775807 (r1 st).2).1 = n2 at *
  generalize hn3 : (numR 4294967295 (r2 st).2).1 = n3 at *
  generalize hn4 : (numR 9223372036854775807 (r3 st).2).1 = n4 at *
  generalize hn5 : (numR 2147483647 (r4 st).2).1 = n5 at *
  have w3 : i32of n3 = wrap32 (n3 : Int) := by unfold i32of wrap32; split <;> omega
  have W3 := Lib.hid w3
  clear h hw1 HNX hn0 hn1 hn2 hn3 hn4 hn5 w3
  go_enter Try.func78, Try.ntmps78
  go_upto_region 1 with (fail)
  rw [show w.alloc (.cells #[.int .i64 0, .int .i64 0, .int .i64 0, .int .i32 0, .int .i64 0, .int .i32 0] 59) = w1 from HW1.out.symm]
  go_wp2_with fail
  refine HP0.out.mono ?_
  rintro e wa ⟨rfl, ra, ga⟩
  have HPa := Lib.hid (HP1.out wa ra)
  have Ga := Lib.hid (grown_trans G1.out ga)
  have Za : Hid (wa.heap[w.heap.size]? = some (.cells (recA zR) 59 (0, 0))) := Lib.hid ((ga.block _ hs1 (fun e => hng (by injection e))).trans HZ1.out)
  have sa : w.heap.size < wa.heap.size := Nat.lt_of_lt_of_le hs1 ga.size
  clear ra ga
  go_wp2_with fail
  refine HPa.out.mono ?_
  rintro e wb ⟨rfl, rb, gb⟩
  have HPb := Lib.hid (HP2.out wb rb)
  have Gb := Lib.hid (grown_trans Ga.out gb)
  have Zb : Hid (wb.heap[w.heap.size]? = some (.cells (recA zR) 59 (0, 0))) := Lib.hid ((gb.block _ sa (fun e => hng (by injection e))).trans Za.out)
  have sb : w.heap.size < wb.heap.size := Nat.lt_of_lt_of_le sa gb.size
  clear rb gb
  go_wp2_with fail
  refine HPb.out.mono ?_
  rintro e wc ⟨rfl, rc, gc⟩
  have HPc := Lib.hid (HP3.out wc rc)
  have Gc := Lib.hid (grown_trans Gb.out gc)
  have Zc : Hid (wc.heap[w.heap.size]? = some (.cells (recA zR) 59 (0, 0))) := Lib.hid ((gc.block _ sb (fun e => hng (by injection e))).trans Zb.out)
  have sc : w.heap.size < wc.heap.size := Nat.lt_of_lt_of_le sb gc.size
  clear rc gc
  go_wp2_with fail
  refine HPc.out.mono ?_
  rintro e wd ⟨rfl, rd, gd⟩
  have HPd := Lib.hid (HP4.out wd rd)
  have Gd := Lib.hid (grown_trans Gc.out gd)
  have Zd : Hid (wd.heap[w.heap.size]? = some (.cells (recA zR) 59 (0, 0))) := Lib.hid ((gd.block _ sc (fun e => hng (by injection e))).trans Zc.out)
  have sd : w.heap.size < wd.heap.size := Nat.lt_of_lt_of_le sc gd.size
  clear rd gd
  go_wp2_with fail
  refine HPd.out.mono ?_
  rintro e we ⟨rfl, re, ge⟩
  have HPe := Lib.hid (HP5.out we re)
  have Ge := Lib.hid (grown_trans Gd.out ge)
  have Ze : Hid (we.heap[w.heap.size]? = some (.cells (recA zR) 59 (0, 0))) := Lib.hid ((ge.block _ sd (fun e => hng (by injection e))).trans Zd.out)
  have se : w.heap.size < we.heap.size := Nat.lt_of_lt_of_le sd ge.size
  clear re ge
  go_wp2_with fail
  refine HPe.out.mono ?_
  rintro e wf ⟨rfl, rf, gf⟩
  have Zf : Hid (wf.heap[w.heap.size]? = some (.cells (recA zR) 59 (0, 0))) := Lib.hid ((gf.block _ se (fun e => hng (by injection e))).trans Ze.out)
  have HFIN : Hid (Took w B g st (.returned (.agg (recA (recR st)))) (wf.setRow w.heap.size (recA (recR st)))) := Lib.hid (by
    refine ⟨rfl, ?_, ?_⟩
    · have h5 : Rd wf B g 155 (r5 st).2 := rf
      obtain ⟨A, c, hg, h1, h2, h3⟩ := h5.blk
      have hbk : ∀ k, k ≠ w.heap.size → (wf.setRow w.heap.size (recA (recR st))).heap[k]? = wf.heap[k]? := fun k hk => by simp [World.setRow, Array.getElem?_modify]; intro e; exact absurd e.symm hk
      exact ⟨h5.le, ⟨A, c, (hbk g (Ne.symm hng)).trans hg, h1, h2, h3.keep fun b o hb => World.cell?_of_block (w := wf) (hbk b (by have := h5.le; omega))⟩, h5.bytes⟩
    · have h6 := grown_trans Ge.out gf
      exact grown_below h6 (rec_row_below (Nat.le_refl _)))
  rw [HRC.out, W3.out] at HFIN
  clear rf gf
  go_wp2_with (first | (refine store_rec rfl _ _ rfl rfl w.heap.size ⟨(n0 : Int), (n1 : Int), (n2 : Int), wrap32 (n3 : Int), (n4 : Int), (n5 : Int)⟩ rfl rfl _ zR Zf.out ?_) | fail)
  exact ret_rec rfl rfl rfl (rec_row_at Zf.out) HFIN.out
/-- So many records one behind the other; none: an error. -/
def someR : Nat → RS → Option (List RecX) × RS
  | 0, st => (some [], st)
  | n + 1, st => if (r5 st).2.2 ≠ 0 then (none, (r5 st).2) else ((someR n (r5 st).2).1.map (recR st :: ·), (someR n (r5 st).2).2)
theorem i32of_range {n : Nat} (h : n ≤ 4294967295) : -2147483648 ≤ i32of n ∧ i32of n ≤ 2147483647 := by unfold i32of; split <;> omega
theorem recR_ok (st : RS) : RcOk (recR st) := by
  have m0 := numR_most 9223372036854775807 st
  have m1 := numR_most 9223372036854775807 (r0 st).2
  have m2 := numR_most 9223372036854775807 (r1 st).2
  have m3 := numR_most 4294967295 (r2 st).2
  have m4 := numR_most 9223372036854775807 (r3 st).2
  have m5 := numR_most 2147483647 (r4 st).2
  refine ⟨?_, ?_, ?_, i32of_range m3, ?_, ?_⟩
  · show I64 ((numR 9223372036854775807 st).1 : Int); unfold I64; omega
  · show I64 ((numR 9223372036854775807 (r0 st).2).1 : Int); unfold I64; omega
  · show I64 ((numR 9223372036854775807 (r1 st).2).1 : Int); unfold I64; omega
  · show I64 ((numR 9223372036854775807 (r3 st).2).1 : Int); unfold I64; omega
  · show -2147483648 ≤ ((numR 2147483647 (r4 st).2).1 : Int) ∧ ((numR 2147483647 (r4 st).2).1 : Int) ≤ 2147483647; omega
theorem someR_ok : ∀ (n : Nat) (st : RS) (L : List RecX), (someR n st).1 = some L → ∀ x ∈ L, RcOk x
  | 0, st, L, h, x, hx => by injection h with h; subst h; cases hx
  | n + 1, st, L, h, x, hx => by
    unfold someR at h
    split at h
    · cases h
    · cases hq : (someR n (r5 st).2).1 with
      | none => rw [hq] at h; cases h
      | some M =>
        rw [hq] at h
        injection h with h
        subst h
        rcases List.mem_cons.1 hx with rfl | hx
        · exact recR_ok st
        · exact someR_ok n _ M hq x hx
theorem someR_len : ∀ (n : Nat) (st : RS) (L : List RecX), (someR n st).1 = some L → L.length = n
  | 0, st, L, h => by injection h with h; subst h; rfl
  | n + 1, st, L, h => by
    unfold someR at h
    split at h
    · cases h
    · cases hq : (someR n (r5 st).2).1 with
      | none => rw [hq] at h; cases h
      | some M =>
        rw [hq] at h
        injection h with h
        subst h
        rw [List.length_cons, someR_len n _ M hq]
def SomeMade (w : World) (B g : Nat) (q : Option (List RecX) × RS) (e : Ending) (w' : World) : Prop := ∃ v, e = .returned v ∧ OwnR w' w.heap.size v (q.1.getD []) ∧ Rd w' B g 155 q.2 ∧ w.grownBy w' (some g)
theorem someR_step {n j : Nat} {st s : RS} {L : List RecX} (hj : j < n) (h : someR n st = ((someR (n - j) s).1.map (L ++ ·), (someR (n - j) s).2)) (he : (r5 s).2.2 = 0) :
    someR n st = ((someR (n - (j + 1)) (r5 s).2).1.map ((L ++ [recR s]) ++ ·), (someR (n - (j + 1)) (r5 s).2).2) := by
  rw [h]
  obtain ⟨m, hm⟩ : ∃ m, n - j = m + 1 := ⟨n - j - 1, by omega⟩
  have hm2 : n - (j + 1) = m := by omega
  rw [hm, hm2]
  have e1 : someR (m + 1) s = ((someR m (r5 s).2).1.map (recR s :: ·), (someR m (r5 s).2).2) := by
    rw [someR, if_neg (by simpa using he)]
  rw [e1]
  simp only [Option.map_map, Prod.mk.injEq, and_true]
  congr 1
  funext M
  simp
theorem someR_stop {n j : Nat} {st s : RS} {L : List RecX} (hj : j < n) (h : someR n st = ((someR (n - j) s).1.map (L ++ ·), (someR (n - j) s).2)) (he : (r5 s).2.2 ≠ 0) : someR n st = (none, (r5 s).2) := by
  rw [h]
  obtain ⟨m, hm⟩ : ∃ m, n - j = m + 1 := ⟨n - j - 1, by omega⟩
  rw [hm]
  have e1 : someR (m + 1) s = (none, (r5 s).2) := by rw [someR, if_pos he]
  rw [e1]; rfl
set_option maxRecDepth 100000 in
set_option maxHeartbeats 8000000 in
theorem some_any {w : World} {B g n : Nat} {st : RS} (h : Rd w B g 155 st) (hn : n ≤ 100000) :
    Calls Try.prog 93 #[.pointer (some ⟨g, 0, none⟩), .int .u64 (n : Int), .func (.func 78) #[] #[]] w (SomeMade w B g (someR n st)) := by
  have hgl : g < w.heap.size := h.lt
  have HH := Lib.hid h
  obtain ⟨q, hq⟩ : ∃ q, someR n st = q := ⟨_, rfl⟩
  have HQ := Lib.hid hq
  rw [hq]
  clear hq h
  go_enter Try.func93, Try.ntmps93
  go_wp2_with fail
  go_loopw [7, 10] (fun x i wr => ∃ (j : Nat) (L : List RecX) (s : RS), j ≤ n ∧ i = .int .u64 j ∧ OwnR wr w.heap.size x L ∧ L.length = j ∧ Rd wr B g 155 s ∧ someR n st = ((someR (n - j) s).1.map (L ++ ·), (someR (n - j) s).2) ∧ w.grownBy wr (some g)) (fun _ i _ => n - (intOf i).toNat)
  case atStart => exact ⟨0, [], st, Nat.zero_le _, rfl, OwnR.nil _ _, rfl, HH.out, by simp, ⟨rfl, rfl, rfl, Nat.le_refl _, fun _ _ _ => rfl⟩⟩
  case round =>
    obtain ⟨j, L, s, hj, rfl, ho, hL, hr, hs, hg⟩ := hrel
    have HO := Lib.hid ho; have HG := Lib.hid hg; have HS := Lib.hid hs; have HLL := Lib.hid hL; have HR := Lib.hid hr
    obtain ⟨A7, c7, e7⟩ := ho.shape
    rw [hL] at e7
    subst e7
    by_cases hjn : j < n
    · have HT := Lib.hid (take1_any hr)
      unfold Took at HT
      obtain ⟨x, hx⟩ : ∃ x, recR s = x := ⟨_, rfl⟩
      rw [hx] at HT
      obtain ⟨s2, hs2⟩ : ∃ y, (r5 s).2 = y := ⟨_, rfl⟩
      rw [hs2] at HT
      have HST : Hid (s2.2 = 0 → someR n st = ((someR (n - (j + 1)) s2).1.map ((L ++ [x]) ++ ·), (someR (n - (j + 1)) s2).2)) := Lib.hid (by rw [← hs2, ← hx]; exact someR_step hjn hs)
      have HSP : Hid (s2.2 ≠ 0 → someR n st = (none, s2)) := Lib.hid (by rw [← hs2]; exact someR_stop hjn hs)
      clear ho hg hs hL hr hx hs2
      simp only [recA] at HT
      go_wp2_with fail
      refine HT.out.mono ?_
      rintro e w1 ⟨rfl, r1', g1⟩
      obtain ⟨w2, hw2, hX2, hB2⟩ := rec_box w1 x
      have HZ := Lib.hid (rec_zero w1)
      have HX2 := Lib.hid hX2
      have HW2 := Lib.hid hw2
      have r2' := r1'.below hB2
      have HE := Lib.hid (err_any B g s2 w2 r2')
      have HR2 := Lib.hid r2'
      have HO1 : OwnR w1 w.heap.size (.slice A7 j c7) L := ownsRow_keep HO.out fun k e => g1.block k (World.ownsRow.lt HO.out k e).2 (fun e2 => by injection e2 with e2; have := (World.ownsRow.lt HO.out k e).1; omega)
      have HO2 := Lib.hid (HO1.keep hB2)
      have HG2 := Lib.hid (grown_below (grown_trans HG.out g1) (hB2.mono (Nat.le_trans HG.out.size g1.size)))
      have hws : w.heap.size ≤ w2.heap.size := HG2.out.size
      have i1 : (0 : Int) ≤ (j : Int) ∧ (j : Int) < n := by omega
      clear r1' g1 hw2 hX2 hB2 r2' HO1
      by_cases he : s2.2 = 0
      · have z : (s2.2 != 0) = false := by simpa using he
        have HST2 := Lib.hid (HST.out he)
        clear he
        go_wp2_with (first | (refine store_rec rfl _ _ rfl rfl w1.heap.size x rfl rfl _ zR HZ.out ?_; rw [← HW2.out]) | fail)
        refine HE.out.mono ?_
        rintro e w3 ⟨rfl, rfl⟩
        go_wp2_with (first | (refine load_recAt rfl _ rfl w1.heap.size x rfl _ _ HX2.out ?_; simp only [recA]) | (at_builtin; go_must (refine append_recs rfl (.tmp 18) (.tmp 20) rfl w.heap.size _ _ rfl (HO2.out.keep (below_alloc _ _)) w2.heap.size 0 1 [x] rfl (fresh_rec w2 x) ?c1 ?c2 ?_)) | fail)
        case c1 => have := HLL.out; simp; omega
        case c2 => simp; omega
        intro v3 w3 o3 g3 b3
        have HO3 := Lib.hid o3
        have HL3 : Hid ((L ++ [x]).length = j + 1) := Lib.hid (by rw [List.length_append, HLL.out]; rfl)
        have hgx : ∀ k, (Value.slice A7 j c7).ownBlock = some k → w.heap.size ≤ k ∧ k < w2.heap.size := fun k e => World.ownsRow.lt HO2.out k e
        have hRd : Rd w3 B g 155 s2 := by
          have h1 := HR2.out.alloc' (.cells (recA x) 59)
          exact h1.keep g3 (fun e => by have := hgx g e.symm; omega) (fun k e => by have := hgx k e; have := HR2.out.le; omega)
        have HRd := Lib.hid hRd
        have HG3 : Hid (w.grownBy w3 (some g)) := Lib.hid (by
          have hal : ∀ o : Obj, (w2.alloc o).heap.size = w2.heap.size + 1 := fun o => by simp
          have hs3 := g3.size
          rw [hal] at hs3
          refine ⟨g3.os.trans HG2.out.os, g3.tape.trans HG2.out.tape, g3.output.trans HG2.out.output, by omega, fun k hk hne => ?_⟩
          rw [g3.block k (by rw [hal]; omega) (fun e => by have := hgx k e.symm; omega), heap_alloc_old w2 _ (by omega)]
          exact HG2.out.block k hk hne)
        clear o3 g3 b3 hRd hgx
        go_wp2_with fail
        go_roundw
        case rel => exact ⟨j + 1, L ++ [x], s2, by omega, by go_num, HO3.out, HL3.out, HRd.out, HST2.out, HG3.out⟩
        case measure => simp [intOf]; omega
      · have z : (s2.2 != 0) = true := by simpa using he
        obtain rfl : q = (none, s2) := by rw [← HQ.out]; exact HSP.out he
        clear he
        go_wp2_with (first | (refine store_rec rfl _ _ rfl rfl w1.heap.size x rfl rfl _ zR HZ.out ?_; rw [← HW2.out]) | fail)
        refine HE.out.mono ?_
        rintro e w3 ⟨rfl, rfl⟩
        go_wp2_with fail
        go_ret
        exact ⟨_, rfl, OwnR.nil _ _, HR2.out, HG2.out⟩
    · obtain rfl : n = j := by omega
      have e0 : someR n st = (some L, s) := by rw [hs, Nat.sub_self]; simp [someR]
      obtain rfl : q = (some L, s) := by rw [← HQ.out]; exact e0
      clear e0 ho hg hs hL hr
      go_wp2_with fail
      go_ret
      exact ⟨_, rfl, HO.out, HR.out, HG.out⟩
/-- A length, and so many records. -/
def takeR (st : RS) : Option (List RecX) × RS := someR (r0 st).1 (r0 st).2
set_option maxRecDepth 100000 in
set_option maxHeartbeats 2000000 in
theorem rowsTake_any {w : World} {B g : Nat} {st : RS} (h : Rd w B g 155 st) (hn : (r0 st).1 ≤ 100000) :
    Calls Try.prog 77 #[.pointer (some ⟨g, 0, none⟩), .func (.func 78) #[] #[]] w (SomeMade w B g (takeR st)) := by
  have HN0 := Lib.hid (num_any B g st 9223372036854775807 w (by omega) h)
  have HSO := Lib.hid (fun w' (h' : Rd w' B g 155 (r0 st).2) => some_any h' hn)
  have e1 : takeR st = someR (r0 st).1 (r0 st).2 := rfl
  rw [e1]
  have e2 : numR 9223372036854775807 st = r0 st := rfl
  rw [e2] at HN0
  obtain ⟨n, hnn⟩ : ∃ n, (r0 st).1 = n := ⟨_, rfl⟩
  obtain ⟨s, hs⟩ : ∃ s, (r0 st).2 = s := ⟨_, rfl⟩
  rw [hnn, hs] at HN0 HSO
  rw [hnn, hs]
  rw [hnn] at hn
  clear e1 e2 h hnn hs
  generalize someR n s = q at *
  go_enter Try.func77, Try.ntmps77
  go_wp2_with fail
  refine HN0.out.mono ?_
  rintro e w1 ⟨rfl, r1', g1⟩
  have HS1 := Lib.hid (HSO.out w1 r1')
  have HG1 := Lib.hid g1
  clear r1' g1
  go_wp2_with fail
  refine HS1.out.mono ?_
  rintro e w2 ⟨v2, rfl, o2, r2', g2⟩
  have HF : Hid (SomeMade w B g q (.returned v2) w2) := Lib.hid ⟨v2, rfl, by
    refine ⟨o2.1, ?_⟩
    rcases o2.2 with e | ⟨gq, cap, cur, e, hg, h3⟩
    · exact .inl e
    · exact .inr ⟨gq, cap, cur, e, Nat.le_trans HG1.out.size hg, h3⟩, r2', grown_trans HG1.out g2⟩
  obtain ⟨A2, c2, e2⟩ := o2.shape
  subst e2
  clear o2 r2' g2
  go_wp2_with fail
  go_ret
  exact HF.out
/-- What Read answers. -/
def readQ (l : List Int) : List RecX × Int :=
  if (takeR (l, 0)).2.2 = 0 ∧ (takeR (l, 0)).2.1 = [] ∧ rightL ((takeR (l, 0)).1.getD []) = true then ((takeR (l, 0)).1.getD [], 0) else ([], 20)
def ReadMade (w : World) (q : List RecX × Int) (e : Ending) (w' : World) : Prop := ∃ v, e = .returned (.tuple #[v, .int .i64 q.2]) ∧ OwnR w' w.heap.size v q.1 ∧ Below w.heap.size w w'
theorem getD_ok {q : Option (List RecX)} (h : ∀ L, q = some L → ∀ x ∈ L, RcOk x) : ∀ x ∈ q.getD [], RcOk x := by
  cases q with
  | none => intro x hx; cases hx
  | some L => exact h L rfl
theorem getD_len {n : Nat} {st : RS} : ((someR n st).1.getD []).length ≤ n := by
  cases hq : (someR n st).1 with
  | none => exact Nat.zero_le _
  | some L => rw [Option.getD_some, someR_len n st L hq]; exact Nat.le_refl _
set_option maxRecDepth 100000 in
set_option maxHeartbeats 4000000 in
theorem read_any {w : World} {A : Option Addr} {c : Nat} {l : List Int} (hm : l.length ≤ 100000) (hl : Lies w w.heap.size A (u8s l)) (hb : IsBytes l) (hn : (r0 (l, 0)).1 ≤ 100000) :
    Calls Try.prog 43 #[.slice A l.length c] w (ReadMade w (readQ l)) := by
  have HNW := Lib.hid (new_any w.heap.size A c l w (by omega) (Nat.le_refl _) hl hb)
  have HTK := Lib.hid (fun (w' : World) (g : Nat) (h' : Rd w' g g 155 (l, 0)) => rowsTake_any h' hn)
  have hln : ((takeR (l, 0)).1.getD []).length ≤ 100000 := Nat.le_trans getD_len hn
  have hok : ∀ x ∈ (takeR (l, 0)).1.getD [], RcOk x := getD_ok (someR_ok (r0 (l, 0)).1 (r0 (l, 0)).2)
  have HQ : Hid (readQ l = if (takeR (l, 0)).2.2 = 0 ∧ (takeR (l, 0)).2.1 = [] ∧ rightL ((takeR (l, 0)).1.getD []) = true then ((takeR (l, 0)).1.getD [], 0) else ([], 20)) := Lib.hid rfl
  obtain ⟨n, hnl⟩ : ∃ n, l.length = n := ⟨_, rfl⟩
  rw [hnl] at HNW ⊢
  generalize takeR (l, 0) = q at *
  obtain ⟨L?, s⟩ := q
  simp only at HQ hok hln
  have HRT := Lib.hid (fun (w' : World) (v : Value) (h' : RcV w' v (L?.getD [])) => right_any h' (by omega) hok)
  obtain ⟨Q, hQ⟩ : ∃ Q, readQ l = Q := ⟨_, rfl⟩
  rw [hQ] at HQ ⊢
  clear hl hb hn hok hln hQ hm hnl
  go_enter Try.func43, Try.ntmps43
  go_wp2_with fail
  refine HNW.out.mono ?_
  rintro e w1 ⟨g, rfl, hg, rd1, hb1⟩
  have HT1 := Lib.hid (HTK.out w1 g rd1)
  have HB1 := Lib.hid hb1
  have hgw : w.heap.size ≤ g := hg
  clear rd1 hb1 hg HTK HNW
  go_wp2_with fail
  refine HT1.out.mono ?_
  rintro e w2 ⟨v2, rfl, o2, r2', g2⟩
  have HB2 : Hid (Below w.heap.size w w2) := Lib.hid (HB1.out.grown g2 HB1.out.size (fun k e => by injection e with e; omega))
  have HO2 : Hid (OwnR w2 w.heap.size v2 (L?.getD [])) := Lib.hid (by
    refine ⟨o2.1, ?_⟩
    rcases o2.2 with e | ⟨gq, cap, cur, e, hg, h3⟩
    · exact .inl e
    · exact .inr ⟨gq, cap, cur, e, Nat.le_trans HB1.out.size hg, h3⟩)
  have HE := Lib.hid (err_any g g s w2 r2')
  have HLF := Lib.hid (left_any g g s w2 r2')
  have HR2 := Lib.hid (HRT.out w2 v2 o2.rc)
  obtain ⟨A2, c2, e2⟩ := o2.shape
  obtain ⟨k2, hk2⟩ : ∃ k, (L?.getD []).length = k := ⟨_, rfl⟩
  rw [hk2] at e2
  subst e2
  clear o2 r2' g2 hk2 HRT HT1
  obtain ⟨bb, hbb⟩ : ∃ y, rightL (L?.getD []) = y := ⟨_, rfl⟩
  rw [hbb] at HQ HR2
  clear hbb
  by_cases he : s.2 = 0
  · have z1 : (s.2 != 0) = false := by simpa using he
    by_cases hl0 : s.1 = []
    · have z2 : decide (0 < s.1.length) = false := by rw [hl0]; rfl
      cases bb with
      | true =>
        obtain rfl : Q = (L?.getD [], 0) := by rw [HQ.out, if_pos ⟨he, hl0, rfl⟩]
        clear he hl0
        generalize s.1.length = m at *
        go_wp2_with fail
        refine HE.out.mono ?_
        rintro e w3 ⟨rfl, rfl⟩
        go_wp2_with fail
        refine HLF.out.mono ?_
        rintro e w3 ⟨rfl, rfl⟩
        go_wp2_with fail
        refine HR2.out.mono ?_
        rintro e w4 ⟨rfl, hb4⟩
        have HO4 := Lib.hid (HO2.out.keep hb4)
        have HB4 := Lib.hid (nextB HB2.out hb4)
        clear hb4
        go_wp2_with fail
        go_ret2
        exact ⟨_, rfl, HO4.out, HB4.out⟩
      | false =>
        obtain rfl : Q = ([], 20) := by rw [HQ.out, if_neg (by simp)]
        clear he hl0
        generalize s.1.length = m at *
        go_wp2_with fail
        refine HE.out.mono ?_
        rintro e w3 ⟨rfl, rfl⟩
        go_wp2_with fail
        refine HLF.out.mono ?_
        rintro e w3 ⟨rfl, rfl⟩
        go_wp2_with fail
        refine HR2.out.mono ?_
        rintro e w4 ⟨rfl, hb4⟩
        have HB4 := Lib.hid (nextB HB2.out hb4)
        clear hb4
        go_wp2_with fail
        go_ret2
        exact ⟨_, rfl, OwnR.nil _ _, HB4.out⟩
    · have z2 : decide (0 < s.1.length) = true := by
        have : s.1.length ≠ 0 := fun e => hl0 (List.eq_nil_of_length_eq_zero e)
        simp; omega
      obtain rfl : Q = ([], 20) := by rw [HQ.out, if_neg (by rintro ⟨_, e, _⟩; exact hl0 e)]
      clear he hl0
      generalize s.1.length = m at *
      go_wp2_with fail
      refine HE.out.mono ?_
      rintro e w3 ⟨rfl, rfl⟩
      go_wp2_with fail
      refine HLF.out.mono ?_
      rintro e w3 ⟨rfl, rfl⟩
      go_wp2_with fail
      go_ret2
      exact ⟨_, rfl, OwnR.nil _ _, HB2.out⟩
  · have z1 : (s.2 != 0) = true := by simpa using he
    obtain rfl : Q = ([], 20) := by rw [HQ.out, if_neg (by rintro ⟨e, _⟩; exact he e)]
    clear he
    go_wp2_with fail
    refine HE.out.mono ?_
    rintro e w3 ⟨rfl, rfl⟩
    go_wp2_with fail
    go_ret2
    exact ⟨_, rfl, OwnR.nil _ _, HB2.out⟩

end Go.Proofs.Ytmcphlklknfbmaa
