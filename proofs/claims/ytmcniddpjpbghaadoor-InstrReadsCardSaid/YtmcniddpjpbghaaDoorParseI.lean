/- The instruction that a text is, by package instr. -/
import Derived.Test.YtmcniddpjpbghaaDoorTextI
import Derived.Test.YtmcniddpjpbghaaDoorPutI
import Derived.Test.YtmcniddpjpbghaaDoorRes
import Derived.Lib.ParseIntBTie
namespace Go.Proofs.YtmcniddpjpbghaaDoor
set_option maxRecDepth 100000
open Go.RowKit

def pOp (l : List UInt8) : Nat := findN ⟨(preL l).toArray⟩
def pArg (l : List UInt8) : Int := pint (sufL l)
def parseOk (l : List UInt8) : Bool := (pOp l != 0) && (textL (pOp l) (pArg l) == l)
theorem pint_range (l : List UInt8) : I32 (pint l) := by
  unfold pint
  cases h : Lib.parseIntB 32 l with
  | ok v =>
    have h2 := Lib.parseIntB_bounds h
    have e : ((2 ^ (32 - 1) : Nat) : Int) = 2147483648 := by decide
    rw [e] at h2
    unfold I32; dsimp only; omega
  | «syntax» => unfold I32; dsimp only; omega
  | range =>
    unfold Lib.intSat
    dsimp only
    split
    · exact ⟨by decide, by decide⟩
    · exact ⟨by decide, by decide⟩

set_option maxHeartbeats 1000000 in
theorem parse_any (s : ByteArray) (w : World) (hs : s.size ≤ 1000000) (hV : VarsIn w) :
    Calls Tryd.prog 17 #[.string s] w fun e w' =>
      e = .returned (.tuple #[insV (if parseOk s.data.toList then (pOp s.data.toList : Nat) else 0) (if parseOk s.data.toList then pArg s.data.toList else 0), .bool (parseOk s.data.toList)]) ∧ Below w.heap.size w w' := by
  have hx := pint_range (sufL s.data.toList)
  obtain ⟨l, hl⟩ : ∃ l, s.data.toList = l := ⟨_, rfl⟩
  have hsz : s.size = l.length := by rw [← hl]; exact Lib.size_eq s
  have hse : s = ⟨l.toArray⟩ := by rw [← hl]
  have hp := preL_le l
  have hq : (sufL l).length ≤ l.length := by unfold sufL; rw [List.length_drop]; omega
  have HC := cut_any s
  rw [hl] at HC hx ⊢
  obtain ⟨P, hP⟩ : ∃ P : ByteArray, ⟨(preL l).toArray⟩ = P := ⟨_, rfl⟩
  obtain ⟨Q, hQ⟩ : ∃ Q : ByteArray, ⟨(sufL l).toArray⟩ = Q := ⟨_, rfl⟩
  have hPs : P.size ≤ 1000000 := by rw [← hP, bytes_size]; omega
  have hQs : Q.size ≤ 1000000 := by rw [← hQ, bytes_size]; omega
  have hQl : Q.data.toList = sufL l := by rw [← hQ]
  obtain ⟨op, hop⟩ : ∃ op, pOp l = op := ⟨_, rfl⟩
  obtain ⟨x, hx2⟩ : ∃ x, pArg l = x := ⟨_, rfl⟩
  have hop2 : findN P = op := by rw [← hP]; exact hop
  have hx3 : pint (sufL l) = x := hx2
  have hfb : op ≤ 26 := by
    by_cases h : findN P = 0
    · omega
    · have := nm_findN h; omega
  obtain ⟨d, hd⟩ : ∃ d, decide ((preL l).length < l.length) = d := ⟨_, rfl⟩
  rw [hP, hQ, hd] at HC
  have HC2 := Lib.hid HC
  have HF : Hid (∀ w, NamesIn w → Calls Tryd.prog 43 #[.string P] w fun e w' => e = .returned (.tuple #[.int .i64 op, .bool (op != 0)]) ∧ Below w.heap.size w w') := Lib.hid fun w hN => by
    rw [← hop2]; exact find_any P (by unfold maxLen; omega) w hN
  have HI : Hid (∀ w, VarsIn w → Calls Tryd.prog 44 #[.string Q, .int .i64 10, .int .i64 32] w fun e w' => ∃ v, e = .returned (.tuple #[.int .i64 x, v]) ∧ Below w.heap.size w w') := Lib.hid fun w hV => by
    refine (parseInt_any Q w (by omega) hV).mono ?_
    rintro e w' ⟨v, rfl, _, hb⟩
    rw [hQl, hx3]; exact ⟨v, rfl, hb⟩
  rw [hx3] at hx
  have hT := fun w => text_any op x w hx
  obtain ⟨T, hTT⟩ : ∃ T : ByteArray, ⟨(textL op x).toArray⟩ = T := ⟨_, rfl⟩
  rw [hTT] at hT
  have HT := Lib.hid hT
  obtain ⟨ok, hok⟩ : ∃ ok, parseOk l = ok := ⟨_, rfl⟩
  have HOK : Hid (ok = ((op != 0) && decide (T = s))) := Lib.hid (by
    rw [← hok, parseOk, hop, hx2, ← hTT, hse]
    congr 1
    rw [Bool.eq_iff_iff]; simp)
  rw [hop, hx2, hok]
  obtain ⟨hx0, hx1⟩ := hx
  have HV := Lib.hid hV
  have ew : wrap32 x = x := by unfold wrap32; omega
  clear hV hT hTT hok hop hx2 hop2 hx3 HC hP hQ hd hl hse hp hq hQl hsz
  unfold insV at HT ⊢
  have hq0 := heap_alloc_new w (.cells #[.int .i64 0, .int .i32 0] 23)
  have hb := below_alloc w (.cells #[.int .i64 0, .int .i32 0] 23)
  obtain ⟨w1, hw1⟩ : ∃ w1, w.alloc (.cells #[.int .i64 0, .int .i32 0] 23) = w1 := ⟨_, rfl⟩
  obtain ⟨q, hq⟩ : ∃ q, w.heap.size = q := ⟨_, rfl⟩
  rw [hw1] at hq0 hb
  have HQ0 := Lib.hid hq0
  have B1 := Lib.hid hb
  rw [hq] at HQ0
  have hs1 := (Array.getElem?_eq_some_iff.1 HQ0.out).1
  clear hq0 hb
  go_enter Tryd.func17, Tryd.ntmps17
  go_wp2_with fail
  refine (HC2.out w1 (by omega)).mono ?_
  rintro e w2 ⟨rfl, hb2⟩
  clear hw1
  have B2 := Lib.hid (nextB B1.out hb2)
  have hq2 := (hb2.block q hs1).trans HQ0.out
  clear hb2 B1
  go_wp2_with fail
  refine (HF.out w2 (HV.out.below B2.out).names).mono ?_
  rintro e w3 ⟨rfl, hb3⟩
  have B3 := Lib.hid (nextB B2.out hb3)
  have hq3 := (hb3.block q (Array.getElem?_eq_some_iff.1 hq2).1).trans hq2
  clear hb3 B2 hq2
  go_wp2_with fail
  refine (HI.out w3 (HV.out.below B3.out)).mono ?_
  rintro e w4 ⟨v, rfl, hb4⟩
  have B4 := Lib.hid (nextB B3.out hb4)
  have hq4 := (hb4.block q (Array.getElem?_eq_some_iff.1 hq3).1).trans hq3
  have c0 : w4.cell? ⟨q, 0, none⟩ = some (.int .i64 0) := cell_blk hq4 0
  have c1 : w4.cell? ⟨q, 1, none⟩ = some (.int .i32 0) := cell_blk hq4 1
  have f0 : w4.frozen? ⟨q, 0, none⟩ = false := frozen_blk hq4 0
  have f1 : w4.frozen? ⟨q, 1, none⟩ = false := frozen_blk hq4 1
  have hs4 := (Array.getElem?_eq_some_iff.1 hq4).1
  have HQ4 := Lib.hid hq4
  have HQ := Lib.hid hq
  clear hb4 B3 hq3 hq4
  by_cases h0 : op = 0
  · subst h0
    have eok : ok = false := by rw [HOK.out]; rfl
    subst eok
    clear HOK hq
    go_wp2_with fail
    try simp only [Exit.inBlock, Exit.then]
    have hset := set_blk (set_blk HQ4.out 0 (.int .i64 0)) 1 (.int .i32 0)
    have hqf := ((below_alloc ((w4.setCell ⟨q, 0, none⟩ (.int .i64 0)).setCell ⟨q, 1, none⟩ (.int .i32 0)) (.cells #[.int .i64 0, .int .i32 x] 23)).block q (by simpa [World.setCell] using hs4)).trans hset
    refine ret_instr2 rfl rfl rfl hqf ?_
    refine ⟨rfl, ?_⟩
    have hle : w.heap.size ≤ q := by rw [HQ.out]; exact Nat.le_refl _
    exact ((B4.out.setCell (p := ⟨q, 0, none⟩) hle _).setCell (p := ⟨q, 1, none⟩) hle _).alloc (by simp [World.setCell]; have := B4.out.size; omega) _
  · have hfo : (op != 0) = true := by simpa using h0
    have hn5 := heap_alloc_new w4 (.cells #[.int .i64 op, .int .i32 x] 23)
    have hb5 := below_alloc w4 (.cells #[.int .i64 op, .int .i32 x] 23)
    have hs5 : (w4.alloc (.cells #[.int .i64 op, .int .i32 x] 23)).heap.size = w4.heap.size + 1 := by simp
    obtain ⟨w5, hw5⟩ : ∃ w5, w4.alloc (.cells #[.int .i64 op, .int .i32 x] 23) = w5 := ⟨_, rfl⟩
    obtain ⟨t4, ht4⟩ : ∃ t4, w4.heap.size = t4 := ⟨_, rfl⟩
    rw [hw5] at hn5 hb5 hs5
    rw [ht4] at hn5 hs5
    have hq5 := (hb5.block q hs4).trans HQ4.out
    have B5 := Lib.hid (nextB B4.out hb5)
    have i0 : w5.cell? ⟨t4, 0, none⟩ = some (.int .i64 op) := cell_blk hn5 0
    have i1 : w5.cell? ⟨t4, 1, none⟩ = some (.int .i32 x) := cell_blk hn5 1
    have V5 := Lib.hid (HV.out.below B5.out)
    have hn6 : t4 < w5.heap.size := by omega
    have HI5 := Lib.hid hn5
    have HQ5 := Lib.hid hq5
    have hqt : q < t4 := by omega
    clear hs5 hn5 hq5 hb5 hq
    rw [hfo] at HOK
    go_wp2_with fail
    refine (HT.out w5 V5.out).mono ?_
    rintro e w6 ⟨rfl, hb6⟩
    clear hw5 ht4 c0 c1 f0 f1 i0 i1
    have hi6 := (hb6.block t4 hn6).trans HI5.out
    have hs5 := (Array.getElem?_eq_some_iff.1 HQ5.out).1
    have hq6 := (hb6.block q hs5).trans HQ5.out
    have B6 := Lib.hid (nextB B5.out hb6)
    have i0 : w6.cell? ⟨t4, 0, none⟩ = some (.int .i64 op) := cell_blk hi6 0
    have i1 : w6.cell? ⟨t4, 1, none⟩ = some (.int .i32 x) := cell_blk hi6 1
    have c0 : w6.cell? ⟨q, 0, none⟩ = some (.int .i64 0) := cell_blk hq6 0
    have c1 : w6.cell? ⟨q, 1, none⟩ = some (.int .i32 0) := cell_blk hq6 1
    have f0 : w6.frozen? ⟨q, 0, none⟩ = false := frozen_blk hq6 0
    have f1 : w6.frozen? ⟨q, 1, none⟩ = false := frozen_blk hq6 1
    have HQ6 := Lib.hid hq6
    have hle : w.heap.size ≤ q := by rw [HQ.out]; exact Nat.le_refl _
    clear hi6 hq6 hb6 hs4 hs5 hn6
    by_cases hTs : T = s
    · have eok : ok = true := by rw [HOK.out]; simp [hTs]
      subst eok
      subst hTs
      clear HOK
      have hbn : (T.toList != T.toList) = false := bne_self_eq_false _
      have hbe : (T.toList == T.toList) = true := beq_self_eq_true _
      go_wp2_with fail
      try simp only [Exit.inBlock, Exit.then]
      have hset : ((w6.setCell ⟨q, 0, none⟩ (.int .i64 op)).setCell ⟨q, 1, none⟩ (.int .i32 x)).heap[q]? = some (.cells #[.int .i64 op, .int .i32 x] 23 (0, 0)) := by simpa using set_blk (set_blk HQ6.out 0 (.int .i64 op)) 1 (.int .i32 x)
      refine ret_instr2 rfl rfl rfl hset ?_
      exact ⟨rfl, ((B6.out.setCell (p := ⟨q, 0, none⟩) hle _).setCell (p := ⟨q, 1, none⟩) hle _)⟩
    · have eok : ok = false := by rw [HOK.out]; simp [hTs]
      subst eok
      have hne : ¬ T.toList = s.toList := fun e => hTs (WideShapes.bytes_inj (by rw [← ByteArray.toList_eq, ← ByteArray.toList_eq]; exact e))
      have hbn : (T.toList != s.toList) = true := by simpa using hne
      have hbe : (T.toList == s.toList) = false := by simpa using hne
      clear HOK hTs hne
      go_wp2_with fail
      try simp only [Exit.inBlock, Exit.then]
      have hset : ((w6.setCell ⟨q, 0, none⟩ (.int .i64 0)).setCell ⟨q, 1, none⟩ (.int .i32 0)).heap[q]? = some (.cells #[.int .i64 0, .int .i32 0] 23 (0, 0)) := by simpa using set_blk (set_blk HQ6.out 0 (.int .i64 0)) 1 (.int .i32 0)
      refine ret_instr2 rfl rfl rfl hset ?_
      exact ⟨rfl, ((B6.out.setCell (p := ⟨q, 0, none⟩) hle _).setCell (p := ⟨q, 1, none⟩) hle _)⟩

end Go.Proofs.YtmcniddpjpbghaaDoor
