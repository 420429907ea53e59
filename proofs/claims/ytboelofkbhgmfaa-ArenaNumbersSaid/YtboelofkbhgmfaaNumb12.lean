/- ArenaNumbers returns true for every input and changes nothing: references are numbered from 0 at each creating label, whatever their own labels are. No condition. -/
import Derived.Test.YtboelofkbhgmfaaOpen12
import Derived.Test.YtboelofkbhgmfaaPairs8
import Derived.IntWalk
namespace Go.Proofs.Ytboelofkbhgmfaa.arenaNumbers
set_option maxRecDepth 100000
open Go.RowKit Go.ChangeShapes Go.WideShapes Go.ChangeAt

def cntA (Ls : List (List RefX)) : Array Value := (Ls.map fun r => Value.int .i64 (r.length : Nat)).toArray
theorem cntA_get {Ls : List (List RefX)} {k : Nat} (h : k < Ls.length) : (cntA Ls)[k]? = some (.int .i64 (Ls[k].length : Nat)) := by simp [cntA, h]
/-- What holds of the loop: the arena and the counts beside it. -/
structure NmK (w wr : World) (S : Nat → Prop) (lo g a c : Nat) (Ls : List (List RefX)) : Prop where
  ar : ArV wr S a [50, 50, 50] Ls
  len : Ls.length = 3
  blk : wr.heap[g]? = some (.cells (cntA Ls) 51 (0, 0))
  n0 : ¬ S g
  low : ∀ i, S i → lo ≤ i
  bel : Below w.heap.size w wr
  sm : ∀ k (h : k < Ls.length), Ls[k].length ≤ c
  hh : w.heap.size ≤ lo ∧ lo ≤ g
def NmI (w wr : World) (lo g a c : Nat) (Ls : List (List RefX)) : Prop := ∃ S, NmK w wr S lo g a c Ls
section
variable {w wr w5 w6 : World} {S S5 : Nat → Prop} {lo g a c c0 : Nat} {u : Value} {Ls : List (List RefX)}
theorem NmK.lt (h : NmK w wr S lo g a c Ls) : g < wr.heap.size := (Array.getElem?_eq_some_iff.1 h.blk).1
theorem nm_drew (h : ∃ S, NmK w (w6.setCell ⟨g, c0, none⟩ u) S lo g a c Ls) (n : Nat) : NmI w ((w6.drewN n).setCell ⟨g, c0, none⟩ u) lo g a c Ls := by
  obtain ⟨S, h⟩ := h
  have hf : Frm (fun _ => False) (w6.setCell ⟨g, c0, none⟩ u) ((w6.drewN n).setCell ⟨g, c0, none⟩ u) := ⟨rfl, rfl, rfl, Nat.le_refl _, fun _ _ _ => rfl⟩
  exact ⟨S, h.ar.keep hf (fun _ _ e => e), h.len, h.blk, h.n0, h.low, h.bel.trans (hf.below h.bel.size (fun _ _ e => e.elim)), h.sm, h.hh⟩
/-- Behind Make, what reads only, and the count's store. -/
theorem NmK.grow {x : RefX} {b : Nat} (hb : b < Ls.length) (h : NmK w wr S lo g a c Ls) (h5 : ArV w5 S5 a [50, 50, 50] (Ls.set b (Ls[b] ++ [x]))) (t5 : Stp S S5 wr w5) (b6 : Below w5.heap.size w5 w6) :
    NmI w (w6.setCell ⟨g, b, none⟩ (.int .i64 ((Ls[b].length : Int) + 1))) lo g a (c + 1) (Ls.set b (Ls[b] ++ [x])) := by
  have hl := h.lt
  have k5 := (t5.frm.block g hl h.n0).trans h.blk
  have k6 := (b6.block g (Array.getElem?_eq_some_iff.1 k5).1).trans k5
  have n0 : ¬ S5 g := fun e => h.n0 (t5.old g hl e)
  have hlow := t5.low h.low (by have := h.hh; omega)
  refine ⟨S5, (h5.below b6).keep (T := One g) (Frm.setCell (S := One g) (p := ⟨g, b, none⟩) rfl _) (fun i hi e => n0 (by rw [← show i = g from e]; exact hi)), by rw [List.length_set]; exact h.len, ?_, n0, hlow, ?_, ?_, h.hh⟩
  · rw [set_blk k6 b _]
    congr 2
    unfold cntA
    apply Array.ext'
    rw [List.map_set]
    simp
  · have h1 := h.bel.trans ((t5.below h.low (by have := h.hh; omega)).mono h.hh.1)
    exact (h1.trans (b6.mono h1.size)).setCell (by show w.heap.size ≤ g; have := h.hh; omega) _
  · intro k hk
    rw [List.getElem_set]
    split
    · have := h.sm b hb
      simp; omega
    · have := h.sm k (by simpa using hk)
      omega
end

set_option maxRecDepth 100000 in
set_option maxHeartbeats 1500000 in
theorem walk (v : Value) (P : List (Nat × Nat)) (w : World) (hP : PairsV w w.heap.size v P) (hm : P.length ≤ maxLen) :
    Calls Try.prog 6 #[v] w fun e w' => e = .returned (.bool true) ∧ Below w.heap.size w w' := by
  have HP := Lib.hid hP
  obtain ⟨A, c, rfl, _, _⟩ := hP
  unfold maxLen at hm
  obtain ⟨N, hN⟩ : ∃ N, P.length = N := ⟨_, rfl⟩
  have HN := Lib.hid hN
  rw [hN] at hm HP ⊢
  clear hN
  by_cases h40 : 40 < N
  · go_enter Try.func6, Try.ntmps6
    go_wp2_with fail
    refine (known12_any w).mono ?_
    rintro e w1 ⟨rfl, hb1⟩
    go_wp2_with fail
    go_ret
    exact ⟨rfl, hb1⟩
  have h40' : N ≤ 40 := by omega
  have HQ : Hid (quotasZ [50, 50, 50] = [50, 50, 50]) := Lib.hid (by decide)
  go_enter Try.func6, Try.ntmps6
  go_wp2_with fail
  refine (known12_any w).mono ?_
  rintro e w1 ⟨rfl, hb1⟩
  have B1 := Lib.hid hb1; clear hb1
  obtain ⟨w2, hw2⟩ : ∃ w2, w2 = w1.alloc (.cells #[.int .i64 50, .int .i64 50, .int .i64 50] 3) := ⟨_, rfl⟩
  have B2 : Hid (Below w.heap.size w w2) := Lib.hid (by rw [hw2]; exact B1.out.alloc B1.out.size _)
  have HAN := Lib.hid (arNew_any (.slice (some ⟨w1.heap.size, 0, none⟩) 3 3) [50, 50, 50] w2 (by rw [hw2]; exact numv_new w1 [50, 50, 50]) (by simp))
  have HW2 := Lib.hid hw2
  clear hw2
  go_wp2_with fail
  rw [← HW2.out]
  with_reducible refine HAN.out.mono ?_
  rintro e w3 ⟨a, rfl, hA, hb⟩
  rw [HQ.out] at hA
  have A3 : Hid (ArV w3 (fun b => w2.heap.size ≤ b ∧ b < w3.heap.size) a [50, 50, 50] [[], [], []]) := Lib.hid hA
  have B3 := Lib.hid hb
  clear hA hb HAN
  go_wp2_with fail
  obtain ⟨g, hg⟩ : ∃ g, g = w3.heap.size := ⟨_, rfl⟩
  have H0 : Hid (NmI w (w3.alloc (.cells #[.int .i64 0, .int .i64 0, .int .i64 0] 51)) w2.heap.size g a 0 [[], [], []]) := Lib.hid ⟨_, A3.out.below (below_alloc _ _), rfl, heapNewS hg, fun h => by omega, fun i h => h.1,
    (B2.out.trans (B3.out.mono B2.out.size)).trans ((below_alloc w3 _).mono (Nat.le_trans B2.out.size B3.out.size)), fun k h => by rcases (by simpa using h : k < 3) with h; (rcases (by omega : k = 0 ∨ k = 1 ∨ k = 2) with rfl | rfl | rfl) <;> simp, B2.out.size, by rw [hg]; exact B3.out.size⟩
  have HW3 : w.heap.size ≤ w2.heap.size ∧ w2.heap.size ≤ w3.heap.size := ⟨B2.out.size, B3.out.size⟩
  rw [← hg] at HW3
  obtain ⟨w4, hw4⟩ : ∃ w4, w4 = w3.alloc (.cells #[.int .i64 0, .int .i64 0, .int .i64 0] 51) := ⟨_, rfl⟩
  rw [← hw4] at H0
  rw [← hw4, ← hg]
  clear hw4 A3 hg
  go_loopw [5] (fun i wr => ∃ c : Nat, ∃ Ls, c ≤ N ∧ i = .int .i64 c ∧ NmI w wr w2.heap.size g a c Ls) (fun i _ => N - (intOf i).toNat)
  case atStart => exact ⟨0, _, Nat.zero_le _, rfl, H0.out⟩
  case round =>
    clear H0
    obtain ⟨c, Ls, hc, rfl, S, hK⟩ := hrel
    have HX := Lib.hid hK
    have gl := hK.lt
    clear hK
    by_cases hcn : c < N
    · obtain ⟨pb, po, pc, e0, c0, c1, p1, p2⟩ := HP.out.cells (k := c) (by rw [HN.out]; exact hcn)
      injection e0 with e0 e0n e0c
      clear e0n e0c
      subst e0
      have d0 : wr.cell? ⟨pb, po + c * 2, none⟩ = _ := (HX.out.bel.cell (p := ⟨pb, po + c * 2, none⟩) (World.block_lt_of_cell? w _ c0)).trans c0
      have d1 : wr.cell? ⟨pb, po + c * 2 + 1, none⟩ = _ := (HX.out.bel.cell (p := ⟨pb, po + c * 2 + 1, none⟩) (World.block_lt_of_cell? w _ c1)).trans c1
      have pl := World.block_lt_of_cell? wr _ d1
      have plw := World.block_lt_of_cell? w _ c1
      clear c0 c1
      generalize (P.getD c (0, 0)).1 = q1 at *
      generalize (P.getD c (0, 0)).2 = q2 at *
      obtain ⟨b, hb⟩ : ∃ b : Nat, b = q1 % 3 := ⟨_, rfl⟩
      have e1 : (q1 : Int) % 3 = (b : Int) := by omega
      obtain ⟨lb, hlb⟩ : ∃ b : Nat, b = q2 % 16 := ⟨_, rfl⟩
      have e2 : (q2 : Int) % 16 = (lb : Int) := by omega
      have hb3 : b < 3 := by omega
      have hlb16 : lb < 16 := by omega
      clear hb hlb
      have h3 := HX.out.len
      have hbl : b < Ls.length := by omega
      have hsm := HX.out.sm b hbl
      obtain ⟨tB, tI, tL⟩ := mk_three Ls h3 hbl (by omega) ⟨(lb : Int), (c : Int)⟩
      have HM := Lib.hid (arMake_any HX.out.ar (b : Int) (lb : Int) (c : Int) (by omega))
      unfold ArMk at HM
      rw [tB, tI, tL] at HM
      obtain ⟨gi, gt⟩ := got_new Ls b hbl (by omega) (by omega) ⟨(lb : Int), (c : Int)⟩
      have HGROW := Lib.hid (fun (w5 w6 : World) (S5 : Nat → Prop) h5 (t5 : Stp S S5 wr w5) (b6 : Below w5.heap.size w5 w6) => HX.out.grow (x := ⟨(lb : Int), (c : Int)⟩) hbl h5 t5 b6)
      have k0 : wr.cell? ⟨g, b, none⟩ = some (.int .i64 (Ls[b].length : Nat)) := by rw [cell_blk HX.out.blk]; exact cntA_get hbl
      obtain ⟨id, hid⟩ : ∃ id : Nat, id = b * 65536 + Ls[b].length := ⟨_, rfl⟩
      have hidZ : (b : Int) * 65536 + (Ls[b].length : Nat) = (id : Int) := by omega
      rw [hidZ] at HM gi gt
      obtain ⟨L', hL'⟩ : ∃ L', Ls.set b (Ls[b] ++ [⟨(lb : Int), (c : Int)⟩]) = L' := ⟨_, rfl⟩
      rw [hL'] at HM gi gt HGROW
      obtain ⟨m, hm0⟩ : ∃ m : Nat, Ls[b].length = m := ⟨_, rfl⟩
      rw [hm0] at HGROW k0 hidZ hsm
      have hid2 : id ≤ 131200 := by omega
      have HG := Lib.hid (fun w' (S5 : Nat → Prop) (h5 : ArV w' S5 a [50, 50, 50] L') => arGet_any h5 (id : Int) (by omega))
      unfold GotR at HG
      rw [gi, gt, show refA ⟨(lb : Int), (c : Int)⟩ = #[.int .i64 (lb : Int), .int .i32 (c : Int)] from rfl] at HG
      have HNS := Lib.hid HX.out.n0
      have HK0 := Lib.hid k0
      clear gi gt tB tI tL hL' hm0 hid k0 h3 hbl
      have R1 : Hid (IntKind.i64.wrap ((b : Int) * 65536) = (b : Int) * 65536) := Lib.hid (IntWalk.i64_in _ (by omega))
      have R2 : Hid (wrap64 ((b : Int) * 65536) = (b : Int) * 65536) := Lib.hid (by unfold wrap64; omega)
      have i1 : (0 : Int) ≤ (c : Int) ∧ (c : Int) < N := by omega
      have i2 : (0 : Int) ≤ (b : Int) ∧ (b : Int) < 3 := by omega
      go_wp2_with fail
      refine HM.out.mono ?_
      rintro e w5 ⟨rfl, S5, h5, t5⟩
      have H5 := Lib.hid h5; have T5 := Lib.hid t5
      have d5 : w5.cell? ⟨pb, po + c * 2 + 1, none⟩ = _ := (t5.frm.cell pl (fun e => by have := HX.out.low _ e; have := HX.out.hh; omega)).trans d1
      have x5 : w5.cell? ⟨g, b, none⟩ = _ := (t5.frm.cell gl HNS.out).trans HK0.out
      have f5 : w5.frozen? ⟨g, b, none⟩ = false := frozen_blk ((t5.frm.block g gl HX.out.n0).trans HX.out.blk) b
      clear h5 t5
      go_wp2_with fail
      refine (HG.out _ _ H5.out).mono ?_
      rintro e w6 ⟨rfl, b6⟩
      have B6 := Lib.hid b6
      have s6 := b6.size
      clear b6 HG
      go_wp2_with fail
      have d6 : w6.cell? ⟨pb, po + c * 2 + 1, none⟩ = _ := (B6.out.cell (p := ⟨pb, po + c * 2 + 1, none⟩) (World.block_lt_of_cell? w5 _ d5)).trans d5
      have x6 : w6.cell? ⟨g, b, none⟩ = _ := (B6.out.cell (p := ⟨g, b, none⟩) (World.block_lt_of_cell? w5 _ x5)).trans x5
      have f6 : w6.frozen? ⟨g, b, none⟩ = false := (B6.out.frozen (p := ⟨g, b, none⟩) (World.block_lt_of_cell? w5 _ x5)).trans f5
      have g6 := World.block_lt_of_cell? w6 _ x6
      have g7 := World.block_lt_of_cell? w6 _ d6
      have HI := Lib.hid (HGROW.out w5 _ S5 H5.out T5.out (B6.out.alloc B6.out.size (.cells #[.int .i64 (lb : Int), .int .i32 (c : Int)] 35)))
      clear HGROW x5 f5 d5 d0 d1
      have HR1 : Hid (∀ n, NmI w ((((w6.alloc (.cells #[.int .i64 (lb : Int), .int .i32 (c : Int)] 35)).drewN n).setCell ⟨g, b, none⟩ (.int .i64 ((m : Int) + 1)))) w2.heap.size g a (c + 1) L') := Lib.hid fun n => nm_drew HI.out n
      have R3 : Hid (wrap64 ((b : Int) * 65536 + (m : Int)) = (id : Int)) := Lib.hid (by unfold wrap64; omega)
      have R4 : Hid (IntKind.i64.wrap ((b : Int) * 65536 + (m : Int)) = (id : Int)) := Lib.hid (by rw [hidZ]; exact IntWalk.i64_in _ (by omega))
      have R5 : Hid (((id : Int) != (id : Int)) = false) := Lib.hid (by simp)
      have R6 : Hid (((lb : Int) != (lb : Int)) = false) := Lib.hid (by simp)
      have R7 : Hid (((c : Int) != (c : Int)) = false) := Lib.hid (by simp)
      have R8 : Hid (IntKind.i32.wrap (c : Int) = (c : Int)) := Lib.hid (by simp [IntKind.wrap, IntKind.bits, IntKind.signed]; omega)
      have R9 : Hid (IntKind.i64.wrap (id : Int) = (id : Int)) := Lib.hid (IntWalk.i64_in _ (by omega))
      clear hidZ
      have r1 := R1.out; have r2 := R2.out; have r3 := R3.out; have r4 := R4.out; have r5 := R5.out; have r6 := R6.out; have r7 := R7.out; have r8 := R8.out; have r9 := R9.out
      go_quiet (fail)
      clear r1 r2 r3 r4 r5 r6 r7 r8 r9
      go_wp2_with fail
      go_roundw
      case rel => exact ⟨c + 1, _, by omega, by go_num, HR1.out _⟩
      case measure => simp [intOf]; omega
    · obtain rfl : c = N := by omega
      have h3 := HX.out.len
      obtain ⟨L0, L1, L2, rfl⟩ : ∃ L0 L1 L2, Ls = [L0, L1, L2] := by
        match Ls, h3 with
        | [a, b, c], _ => exact ⟨a, b, c, rfl⟩
      have s0 := HX.out.sm 0 (by simp)
      have k0 := cell_blk HX.out.blk 0
      have k1 := cell_blk HX.out.blk 1
      have k2 := cell_blk HX.out.blk 2
      have HC := Lib.hid (fun w' (hb : Below wr.heap.size wr w') p => arCount_any (HX.out.ar.below hb) p)
      have HG := Lib.hid (arGet_any HX.out.ar (L0.length : Nat) (by simp at s0; omega))
      have hni : isIn [L0, L1, L2] (L0.length : Nat) = false := not_in0 [L0, L1, L2] (by simp) (by simp) (by simp at s0 ⊢; omega)
      unfold GotR at HG
      rw [hni, itmZ_no hni, show refA zR = #[.int .i64 0, .int .i32 0] from rfl] at HG
      have C0 := Lib.hid (fun w' hb => HC.out w' hb 0)
      have C1 := Lib.hid (fun w' hb => HC.out w' hb 1)
      have C2 := Lib.hid (fun w' hb => HC.out w' hb 2)
      have C3 := Lib.hid (fun w' hb => HC.out w' hb 3)
      rw [show cntZ [L0, L1, L2] 0 = L0.length from by simp [cntZ]] at C0
      rw [show cntZ [L0, L1, L2] 1 = L1.length from by simp [cntZ]] at C1
      rw [show cntZ [L0, L1, L2] 2 = L2.length from by simp [cntZ]] at C2
      rw [show cntZ [L0, L1, L2] 3 = 0 from by simp [cntZ]] at C3
      simp only [cntA, List.map_cons, List.map_nil, List.getElem_cons_zero] at k0 k1 k2 s0
      obtain ⟨v0, q0⟩ : ∃ v : Nat, L0.length = v := ⟨_, rfl⟩
      obtain ⟨v1, q1⟩ : ∃ v : Nat, L1.length = v := ⟨_, rfl⟩
      obtain ⟨v2, q2⟩ : ∃ v : Nat, L2.length = v := ⟨_, rfl⟩
      rw [q0] at C0 HG s0
      rw [q1] at C1
      rw [q2] at C2
      rw [q0, q1, q2] at k0 k1 k2
      have HB := Lib.hid HX.out.bel
      have F0 : Hid (((v0 : Int) == (v0 : Int)) = true) := Lib.hid (beq_self_eq_true _)
      have F1 : Hid (((v1 : Int) == (v1 : Int)) = true) := Lib.hid (beq_self_eq_true _)
      have F2 : Hid (((v2 : Int) == (v2 : Int)) = true) := Lib.hid (beq_self_eq_true _)
      clear q0 q1 q2 hni h3 HC
      have hv : v0 ≤ 40 := by omega
      go_wp2_with fail
      refine HG.out.mono ?_
      rintro e w6 ⟨rfl, b6⟩
      have x0 : w6.cell? ⟨g, 0, none⟩ = _ := (b6.cell (p := ⟨g, 0, none⟩) gl).trans k0
      have x1 : w6.cell? ⟨g, 1, none⟩ = _ := (b6.cell (p := ⟨g, 1, none⟩) gl).trans k1
      have x2 : w6.cell? ⟨g, 2, none⟩ = _ := (b6.cell (p := ⟨g, 2, none⟩) gl).trans k2
      have gl6 : g < w6.heap.size := Nat.lt_of_lt_of_le gl b6.size
      have D0 := Lib.hid (fun n => quiet_flip (C0.out _ (below_drewN (b6.alloc b6.size (.cells #[.int .i64 0, .int .i32 0] 35)) n)))
      have D1 := Lib.hid (fun n => quiet_flip (C1.out _ (below_drewN (b6.alloc b6.size (.cells #[.int .i64 0, .int .i32 0] 35)) n)))
      have D2 := Lib.hid (fun n => quiet_flip (C2.out _ (below_drewN (b6.alloc b6.size (.cells #[.int .i64 0, .int .i32 0] 35)) n)))
      have D3 := Lib.hid (fun n => quiet_flip (C3.out _ (below_drewN (b6.alloc b6.size (.cells #[.int .i64 0, .int .i32 0] 35)) n)))
      have HF : Hid (∀ n, Below w.heap.size w ((w6.alloc (.cells #[.int .i64 0, .int .i32 0] 35)).drewN n)) := Lib.hid fun n => below_drewN ((HB.out.trans (b6.mono HB.out.size)).alloc (Nat.le_trans HB.out.size b6.size) _) n
      clear b6 k0 k1 k2 C0 C1 C2 C3 HG
      go_wp2_with fail
      have f0 := F0.out; have f1 := F1.out; have f2 := F2.out
      go_quiet ((go_at_call 25; first | (with_reducible exact Calls.quiet_of_same (D0.out _)) | (with_reducible exact Calls.quiet_of_same (D1.out _)) | (with_reducible exact Calls.quiet_of_same (D2.out _)) | (with_reducible exact Calls.quiet_of_same (D3.out _))))
      go_wp2_with fail
      go_ret
      exact ⟨rfl, HF.out _⟩

/- The claim. -/

set_option maxRecDepth 100000 in
theorem lifted (os : Os) (started : os.Started) (H : Type) (enc : TypeId × Value → H) :
    ReturnsInHanded {} Try.checked os 6 .any (Rows.arenaNumbersSpec.pre6 enc Try.prog Try.f6 Rows.arenaNumbersRow.domain false) (Rows.arenaNumbersSpec.post enc Try.prog Try.f6 false true false false) := by
  refine returnsInHanded_of_change (C := Try.checked) ownKnobs started (by kernel_rfl) Try.func6
    (ChangeSpec.witness6 (enc := enc) (C := Try.checked) false ⟨#[], #[.slice none 0 0], []⟩ 8 (by kernel_rfl) (by kernel_rfl) (by kernel_rfl) (by kernel_rfl)) ?_
  intro W base args ds gs before hval hW _ _
  refine law_contract rfl rfl (fun ds h => by match ds, h with | [d1], _ => rfl) (by decide +kernel) hW ?_
  obtain ⟨p, q, hA0, _⟩ := hW
  have hA : DataW.TrodAll enc Try.prog W 0 (fun _ => true) true Try.f6.params.toList args.toList ds p := hA0
  have hval' : ∀ (j : Nat) t v, Try.f6.params[j]? = some t → args[j]? = some v → Value.okWide Try.prog W .any base t v := hval
  rw [Try.params6] at hA hval'
  obtain ⟨v0, vs0, d0, ds0, p0, q0, hargs, rfl, rfl, h0, r0⟩ := trodAll_cons hA
  obtain ⟨rfl, rfl, rfl⟩ := trodAll_nil r0
  obtain rfl : args = #[v0] := by cases args; simp_all
  obtain ⟨l0, h0, m0⟩ := open_pairs (hval' 0 _ v0 rfl rfl) h0
  exact walk v0 l0 W h0 m0

theorem proved : Rows.ArenaNumbersSaid :=
  OpenClaim.holds_of_wide 6 Try.f6 rfl rfl rfl rfl rfl rfl rfl ⟨rfl, rfl, rfl, rfl, rfl⟩ rfl rfl rfl rfl rfl (by kernel_rfl) Try.func6 (by kernel_rfl)
    (of_decide_eq_true (by kernel_rfl)) (by unfold Func.isWrapper; first | (rw [if_pos (by decide +kernel)]; kernel_rfl) | (rw [if_neg (by decide +kernel)]; exact ⟨rfl, rfl⟩))
    (fun os started H enc _ => lifted os started H enc)

end Go.Proofs.Ytboelofkbhgmfaa.arenaNumbers
