/- Law 22: records of numbers: some. -/
import Derived.Test.YtmcphlklknfbmaaSm22
import Derived.Deep.DeepCutAuto
import Derived.StillTailTactics
namespace Go.Proofs.Ytmcphlklknfbmaa
set_option maxRecDepth 100000
open Go.RowKit

/-- How many went to each of the four labels. -/
def SqB (w : World) (g : Nat) (L : List RecX) : Prop := w.heap[g]? = some (.cells #[.int .i64 (cntT L 0 : Nat), .int .i64 (cntT L 1 : Nat), .int .i64 (cntT L 2 : Nat), .int .i64 (cntT L 3 : Nat)] 65 (0, 0))
theorem sq_cell {w : World} {g t : Nat} {L : List RecX} (h : SqB w g L) (ht : t < 4) : w.cell? ⟨g, t, none⟩ = some (.int .i64 (cntT L t : Nat)) ∧ w.frozen? ⟨g, t, none⟩ = false := by
  refine ⟨?_, frozen_blk h t⟩
  rw [cell_blk h]
  rcases (by omega : t = 0 ∨ t = 1 ∨ t = 2 ∨ t = 3) with rfl | rfl | rfl | rfl <;> rfl
theorem sq_set {w : World} {g t : Nat} {L : List RecX} {x : RecX} (h : SqB w g L) (ht : t < 4) (hx : x.tt = (t : Int)) : SqB (w.setCell ⟨g, t, none⟩ (.int .i64 ((cntT L t : Int) + 1))) g (L ++ [x]) := by
  unfold SqB
  have h0 := cntT_snoc L x 0
  have h1 := cntT_snoc L x 1
  have h2 := cntT_snoc L x 2
  have h3 := cntT_snoc L x 3
  rw [hx] at h0 h1 h2 h3
  rw [set_blk h, h0, h1, h2, h3]
  rcases (by omega : t = 0 ∨ t = 1 ∨ t = 2 ∨ t = 3) with rfl | rfl | rfl | rfl <;> rfl
def smStep (q : List RecX × Int) (r : List Int) : List RecX × Int :=
  (q.1 ++ [⟨(cntT q.1 (r.getD 1 0 % 4) : Int), r.getD 2 0 % 5, r.getD 1 0 % 4, r.getD 3 0 - 128, q.2 + r.getD 0 0 % 3, r.getD 2 0⟩], q.2 + r.getD 0 0 % 3)
def smL (P : List (List Int)) : List RecX × Int := P.foldl smStep ([], 0)
theorem smL_snoc (P : List (List Int)) (r : List Int) : smL (P ++ [r]) = smStep (smL P) r := by unfold smL; rw [List.foldl_append]; rfl
theorem smF_len : ∀ (P : List (List Int)) (q : List RecX × Int), (P.foldl smStep q).1.length = q.1.length + P.length
  | [], q => by simp
  | r :: P, q => by rw [List.foldl_cons, smF_len P, smStep]; simp; omega
theorem smL_len (P : List (List Int)) : (smL P).1.length = P.length := by unfold smL; rw [smF_len]; simp
/-- What some makes. -/
def SomMade (w : World) (L : List RecX) (e : Ending) (w' : World) : Prop := ∃ v, e = .returned v ∧ OwnR w' w.heap.size v L ∧ Below w.heap.size w w'
theorem row4 {ks : List IntKind} {r : List Int} (h : KRow ks r) (hk : ks = [.u8, .u8, .u8, .u8]) : ∃ z0 z1 z2 z3 : Int, r = [z0, z1, z2, z3] ∧ (0 ≤ z0 ∧ z0 ≤ 255) ∧ (0 ≤ z1 ∧ z1 ≤ 255) ∧ (0 ≤ z2 ∧ z2 ≤ 255) ∧ (0 ≤ z3 ∧ z3 ≤ 255) := by
  subst hk
  obtain ⟨hl, hb⟩ := h
  match r, hl with
  | [z0, z1, z2, z3], _ => exact ⟨z0, z1, z2, z3, rfl, hb 0 _ _ rfl rfl, hb 1 _ _ rfl rfl, hb 2 _ _ rfl rfl, hb 3 _ _ rfl rfl⟩
set_option maxRecDepth 100000 in
set_option maxHeartbeats 8000000 in
theorem some22_any {w : World} {v : Value} {P : List (List Int)} (h : RowsV [.u8, .u8, .u8, .u8] w w.heap.size v P) (hn : P.length ≤ 100) :
    Calls Try.prog 33 #[v] w (SomMade w (smL P).1) := by
  have HP := Lib.hid h
  obtain ⟨A, c, rfl, hj1, hj2, hj3⟩ := h
  clear hj1 hj2 hj3
  obtain ⟨n, hln⟩ : ∃ n, P.length = n := ⟨_, rfl⟩
  have HLN := Lib.hid hln
  rw [hln] at HP hn ⊢
  clear hln
  go_enter Try.func33, Try.ntmps33
  go_wp2_with fail
  go_loopw [3, 5, 6] (fun x r i wr => ∃ (j : Nat) (rd : Int), j ≤ n ∧ i = .int .i64 j ∧ r = .int .i64 rd ∧ (smL (P.take j)).2 = rd ∧ 0 ≤ rd ∧ rd ≤ 2 * j ∧ OwnR wr (w.heap.size + 1) x (smL (P.take j)).1 ∧ SqB wr w.heap.size (smL (P.take j)).1 ∧ Below w.heap.size w wr) (fun _ _ i _ => n - (intOf i).toNat)
  case atStart => exact ⟨0, 0, Nat.zero_le _, rfl, rfl, rfl, by omega, by omega, OwnR.nil _ _, heap_alloc_new w _, below_alloc w _⟩
  case round =>
    obtain ⟨j, rd, hj, rfl, rfl, hrd, hr0, hr1, ho, hs, hb⟩ := hrel
    have HO := Lib.hid ho; have HS := Lib.hid hs; have HB := Lib.hid hb; have HRD := Lib.hid hrd
    have hll : (smL (P.take j)).1.length = j := by rw [smL_len, List.length_take, HLN.out]; omega
    obtain ⟨A3, c3, e3⟩ := ho.shape
    rw [hll] at e3
    subst e3
    have HLL := Lib.hid hll
    by_cases hjn : j < n
    · have hjl : j < P.length := by rw [HLN.out]; exact hjn
      obtain ⟨b, off, c', eV, hbl, hk, hc⟩ := HP.out.cells (by decide) hjl
      have eA : A = some ⟨b, off, none⟩ := by injection eV
      clear eV
      subst eA
      have HTK := Lib.hid (List.take_succ_eq_append_getElem hjl)
      generalize P[j] = r at *
      obtain ⟨z0, z1, z2, z3, rfl, b0, b1, b2, b3⟩ := row4 hk rfl
      have d0 : wr.cell? ⟨b, off + j * 4, none⟩ = some (.int .u8 z0) := (hb.cell (p := ⟨b, off + j * 4, none⟩) hbl).trans (hc 0 _ _ rfl rfl)
      have d1 : wr.cell? ⟨b, off + j * 4 + 1, none⟩ = some (.int .u8 z1) := (hb.cell (p := ⟨b, off + j * 4 + 1, none⟩) hbl).trans (hc 1 _ _ rfl rfl)
      have d2 : wr.cell? ⟨b, off + j * 4 + 2, none⟩ = some (.int .u8 z2) := (hb.cell (p := ⟨b, off + j * 4 + 2, none⟩) hbl).trans (hc 2 _ _ rfl rfl)
      have d3 : wr.cell? ⟨b, off + j * 4 + 3, none⟩ = some (.int .u8 z3) := (hb.cell (p := ⟨b, off + j * 4 + 3, none⟩) hbl).trans (hc 3 _ _ rfl rfl)
      obtain ⟨L, hL⟩ : ∃ y, (smL (P.take j)).1 = y := ⟨_, rfl⟩
      rw [hL] at HO HS HLL
      obtain ⟨t, ht⟩ : ∃ t : Nat, z1 % 4 = (t : Int) := ⟨(z1 % 4).toNat, by omega⟩
      have ht4 : t < 4 := by omega
      obtain ⟨ct, hct⟩ : ∃ k, cntT L t = k := ⟨_, rfl⟩
      have hctj : ct ≤ j := by rw [← hct, ← HLL.out]; exact cntT_le _ _
      obtain ⟨z5, hz5⟩ : ∃ y, z2 % 5 = y := ⟨_, rfl⟩
      obtain ⟨rd2, hrd2⟩ : ∃ y, rd + z0 % 3 = y := ⟨_, rfl⟩
      have HSM : Hid (smL (P.take (j + 1)) = (L ++ [⟨(ct : Int), z5, (t : Int), z3 - 128, rd2, z2⟩], rd2)) := Lib.hid (by
        rw [HTK.out, smL_snoc, smStep, HRD.out, hL]
        show (L ++ [⟨(cntT L (z1 % 4) : Int), z2 % 5, z1 % 4, z3 - 128, rd + z0 % 3, z2⟩], rd + z0 % 3) = _
        rw [ht, hz5, hrd2, hct])
      have hq := sq_cell HS.out ht4
      rw [hct] at hq
      have q0 := hq.1
      have HT := Lib.hid ht; have HZ5 : Hid (z2.tmod 5 = z5) := Lib.hid (by rw [Int.tmod_eq_emod_of_nonneg b2.1]; exact hz5); have HR2 := Lib.hid hrd2; have HCT := Lib.hid hct; have HCJ := Lib.hid hctj
      have hr2 : 0 ≤ rd2 ∧ rd2 ≤ 2 * (j : Int) + 2 := by omega
      have i1 : (0 : Int) ≤ (j : Int) ∧ (j : Int) < n := by omega
      have i2 : (0 : Int) ≤ (t : Int) ∧ (t : Int) < 4 := by omega
      have i3 : 0 ≤ z5 ∧ z5 < 5 := by omega
      have HOA : Hid (wr.ownsRow (w.heap.size + 1) 59 6 (.slice A3 j c3) j (rowE recA L)) := Lib.hid (by have h1 := HO.out; unfold OwnR at h1; rw [HLL.out] at h1; exact h1)
      have HOB : Hid (∀ cl, (wr.alloc cl).drew.ownsRow (w.heap.size + 1) 59 6 (.slice A3 j c3) j (rowE recA L)) := Lib.hid (fun cl => HOA.out.alloc cl)
      have HAN : Hid (∀ cl, (wr.alloc cl).drew.heap[wr.heap.size]? = some cl) := Lib.hid (fun cl => heap_alloc_new wr cl)
      have HAS : Hid (∀ cl, (wr.alloc cl).drew.heap.size = wr.heap.size + 1) := Lib.hid (fun cl => World.size_alloc wr cl)
      have HSD : Hid (SqB wr.drew w.heap.size L) := Lib.hid HS.out
      have HSA : Hid (∀ cl, SqB (wr.alloc cl).drew w.heap.size L) := Lib.hid (fun cl => (heap_alloc_old wr cl (Array.getElem?_eq_some_iff.1 HS.out).1).trans HS.out)
      have HBD : Hid (Below w.heap.size w wr.drew) := Lib.hid (nextB hb ⟨rfl, rfl, rfl, Nat.le_refl _, fun _ _ => rfl⟩)
      have HBA : Hid (∀ cl, Below w.heap.size w (wr.alloc cl).drew) := Lib.hid (fun cl => nextB (nextB hb (below_alloc wr cl)) ⟨rfl, rfl, rfl, Nat.le_refl _, fun _ _ => rfl⟩)
      have HK : Hid (∀ w', SqB w' w.heap.size L → Below w.heap.size w w' → w'.cell? ⟨w.heap.size, t, none⟩ = some (.int .i64 (ct : Nat)) ∧ w'.cell? ⟨b, off + j * 4 + 2, none⟩ = some (.int .u8 z2) ∧ w'.cell? ⟨b, off + j * 4 + 3, none⟩ = some (.int .u8 z3)) := Lib.hid (fun w' hs' hb' => ⟨by rw [← hct]; exact (sq_cell hs' ht4).1, (hb'.cell (p := ⟨b, off + j * 4 + 2, none⟩) hbl).trans (hc 2 _ _ rfl rfl), (hb'.cell (p := ⟨b, off + j * 4 + 3, none⟩) hbl).trans (hc 3 _ _ rfl rfl)⟩)
      have hsz : w.heap.size + 1 ≤ wr.heap.size := (Array.getElem?_eq_some_iff.1 HS.out).1
      have HW5 : Hid (IntKind.i64.wrap z5 = z5) := Lib.hid (IntWalk.i64_in _ (by omega))
      have HW3 : Hid (IntKind.i32.wrap z3 = z3) := Lib.hid (IntWalk.i32_in _ (by omega))
      have HW38 : Hid (IntKind.i32.wrap (z3 - 128) = z3 - 128) := Lib.hid (IntWalk.i32_in _ (by omega))
      have HW2 : Hid (IntKind.i32.wrap z2 = z2) := Lib.hid (IntWalk.i32_in _ (by omega))
      clear ho hs hb hrd hll hjl hbl hk hc hL ht hct hctj hz5 hrd2 hq
      have er := HR2.out
      go_upto_region 8 with (fail)
      try rw [er]
      clear er
      have et := HT.out
      go_upto_region 9 with (fail)
      try rw [et]
      clear et
      have e5 := HZ5.out
      have w5 := HW5.out; have w3 := HW3.out; have w38 := HW38.out; have w2' := HW2.out
      clear q0 d0 d1 d2 d3
      go_region_held3 (fun w' => w'.cell? ⟨w.heap.size, t, none⟩ = some (.int .i64 (ct : Nat)) ∧ w'.cell? ⟨b, off + j * 4 + 2, none⟩ = some (.int .u8 z2) ∧ w'.cell? ⟨b, off + j * 4 + 3, none⟩ = some (.int .u8 z3))
        (first | exact HK.out _ HSQ.out HBQ.out | exact HK.out _ (HSA.out _) (HBA.out _) | exact HK.out _ HSD.out HBD.out)
        ((refine step_append_itm 44 59 _ 6 48 Try.underlying44 inf_rec rfl (by decide) (by decide) rfl (.tmp 30) (.tmp 57) rfl (w.heap.size + 1) (.slice A3 j c3) j (rowE recA L) rfl ?_ _ (recA ⟨(ct : Int), z5, (t : Int), z3 - 128, rd2, z2⟩) rfl ?_ rfl ?_ ?_ ?_ ?_
          · exact HOB.out _
          · exact HAN.out _
          · intro u hu; exact rec_one _ u (Array.mem_toList_iff.1 hu)
          · omega
          · simp; omega
          intro vQ wQ oQ gQ bQ
          have hgx : ∀ k, (Value.slice A3 j c3).ownBlock = some k → w.heap.size + 1 ≤ k := fun k e => (World.ownsRow.lt HOA.out k e).1
          have HOQ : Hid (OwnR wQ (w.heap.size + 1) vQ (L ++ [⟨(ct : Int), z5, (t : Int), z3 - 128, rd2, z2⟩])) := Lib.hid (OwnR.snoc HLL.out.symm oQ)
          have HSQ : Hid (SqB wQ w.heap.size L) := Lib.hid ((gQ.block _ (by rw [HAS.out]; omega) (fun e => by have := hgx _ e.symm; omega)).trans (HSA.out _))
          have HBQ : Hid (Below w.heap.size w wQ) := Lib.hid ((HBA.out _).grown gQ (by rw [HAS.out]; omega) (fun k e => by have := hgx k e; omega))
          clear oQ gQ bQ hgx))
      all_goals
        clear e5 w5 w3 w38 w2'
        have hqc := sq_cell HSQ.out ht4
        rw [HCT.out] at hqc
        have cQ := hqc.1
        have fQ := hqc.2
        clear hqc
        have HWR : Hid (IntKind.i64.wrap ((ct : Int) + 1) = (ct : Int) + 1) := Lib.hid (IntWalk.i64_in _ (by have := HCJ.out; omega))
        have HFS : Hid (SqB (wQ.setCell ⟨w.heap.size, t, none⟩ (.int .i64 ((ct : Int) + 1))) w.heap.size (L ++ [⟨(ct : Int), z5, (t : Int), z3 - 128, rd2, z2⟩])) := Lib.hid (by have h1 := sq_set (x := ⟨(ct : Int), z5, (t : Int), z3 - 128, rd2, z2⟩) HSQ.out ht4 rfl; rw [HCT.out] at h1; exact h1)
        have HFO : Hid (OwnR (wQ.setCell ⟨w.heap.size, t, none⟩ (.int .i64 ((ct : Int) + 1))) (w.heap.size + 1) vQ (L ++ [⟨(ct : Int), z5, (t : Int), z3 - 128, rd2, z2⟩])) := Lib.hid (ownsRow_keep HOQ.out fun k e => Below.heap_setCell _ _ _ _ (by have := (World.ownsRow.lt HOQ.out k e).1; show k ≠ w.heap.size; omega))
        have HFB : Hid (Below w.heap.size w (wQ.setCell ⟨w.heap.size, t, none⟩ (.int .i64 ((ct : Int) + 1)))) := Lib.hid ⟨HBQ.out.os, HBQ.out.tape, HBQ.out.output, by simp [World.setCell]; exact HBQ.out.size, fun k hk => (Below.heap_setCell _ _ _ _ (by show k ≠ w.heap.size; omega)).trans (HBQ.out.block k hk)⟩
        have hcj : (0 : Int) ≤ (ct : Int) ∧ (ct : Int) ≤ 100 := by have := HCJ.out; omega
        go_wp2_with fail
        go_roundw
        case rel => exact ⟨j + 1, rd2, by omega, by go_num, rfl, by rw [HSM.out], by omega, by omega, by rw [HSM.out]; exact HFO.out, by rw [HSM.out]; exact HFS.out, HFB.out⟩
        case measure => simp [intOf]; omega
    · obtain rfl : n = j := by omega
      have eP : (smL (P.take n)).1 = (smL P).1 := by rw [List.take_of_length_le (by rw [HLN.out]; omega)]
      rw [eP] at HO
      have HF : Hid (SomMade w (smL P).1 (.returned (.slice A3 n c3)) wr) := Lib.hid ⟨_, rfl, by
        have h1 := HO.out
        refine ⟨h1.1, ?_⟩
        rcases h1.2 with e | ⟨g, cap, cur, e, hg, h3⟩
        · exact .inl e
        · exact .inr ⟨g, cap, cur, e, by omega, h3⟩, HB.out⟩
      clear eP ho hs hb hrd hll
      go_wp2_with fail
      go_ret
      exact HF.out

end Go.Proofs.Ytmcphlklknfbmaa
