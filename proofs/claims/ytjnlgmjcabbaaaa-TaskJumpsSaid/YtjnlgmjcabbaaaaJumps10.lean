/- TaskJumps returns true for every input and changes nothing: Jump and JumpZ lead to the documented place and stack. No condition. -/
import Derived.Test.YtjnlgmjcabbaaaaKnown10
import Derived.Test.YtjnlgmjcabbaaaaApn8
import Derived.Test.YtjnlgmjcabbaaaaOwnI8
import Derived.Test.YtjnlgmjcabbaaaaLaw
namespace Go.Proofs.Ytjnlgmjcabbaaaa.taskJumps
set_option maxRecDepth 100000
open Go.RowKit Go.ChangeShapes Go.WideShapes Go.ChangeAt

theorem mod_of (k m : Nat) (hm : 0 < m) : ∃ i : Nat, (k : Int) % (m : Int) = (i : Int) ∧ i < m := ⟨k % m, by omega, Nat.mod_lt _ hm⟩
def popsL (k : Nat) : CodeL := List.replicate k (2, 0)
theorem popsL_succ (k : Nat) : popsL (k + 1) = popsL k ++ [(2, 0)] := List.replicate_succ'
theorem popsL_length (k : Nat) : (popsL k).length = k := by simp [popsL]
def tj (k : Nat) (v : Int) : TK := ⟨0, 0, k, [5, v], 0, 0, 0, 0, 0, 0, 0, 0⟩
def code (k : Nat) (op : Int) (tg : Nat) : CodeL := popsL k ++ [(op, (tg : Int))]
theorem code_length (k : Nat) (op : Int) (tg : Nat) : (code k op tg).length = k + 1 := by simp [code, popsL]
theorem code_i32 {k : Nat} {op : Int} {tg : Nat} (h : tg ≤ 255) : ∀ p ∈ code k op tg, I32 p.2 := by
  intro p hp
  unfold code popsL at hp
  rcases List.mem_append.1 hp with hp | hp
  · rw [List.eq_of_mem_replicate hp]; exact ⟨by decide, by decide⟩
  · have : p = (op, (tg : Int)) := by simpa using hp
    rw [this]; exact ⟨by show -2147483648 ≤ (tg : Int); omega, by show (tg : Int) ≤ 2147483647; omega⟩
theorem cur_at (k : Nat) (v : Int) (op : Int) (tg : Nat) (hk : k < 6) : curZ [code k op tg] (tj k v).fn (tj k v).pc = ((op, (tg : Int)), knownB op) := by
  rcases (by omega : k = 0 ∨ k = 1 ∨ k = 2 ∨ k = 3 ∨ k = 4 ∨ k = 5) with rfl | rfl | rfl | rfl | rfl | rfl <;> rfl
theorem do_at (k : Nat) (v : Int) (op : Int) (tg : Nat) (hk : k < 6) (h1 : knownB op = true) (h2 : rightS 2 op tg = true) : stepZ (tj k v) [code k op tg] = doZ (tj k v) op tg := by
  have hc := cur_at k v op tg hk
  unfold stepZ
  rw [hc]
  exact if_pos ⟨h1, h2⟩
theorem jump_at (k : Nat) (v : Int) (tg : Nat) (hk : k < 6) : stepZ (tj k v) [code k 10 tg] = ({ tj k v with pc := tg }, 1, 0, 0) := by
  rw [do_at k v 10 tg hk rfl rfl]
  rfl
theorem jumpZ_do (k : Nat) (v : Int) (tg : Nat) (hk : k < 6) : stepZ (tj k v) [code k 11 tg] = doZ (tj k v) 11 tg := do_at k v 11 tg hk rfl rfl
theorem jumpZ_at (k : Nat) (v : Int) (tg : Nat) (hk : k < 6) : stepZ (tj k v) [code k 11 tg] = (if v = 0 then { tj k v with pc := tg, st := [5] } else { tj k v with pc := ((k + 1 : Nat) : Int), st := [5] }, 1, 0, 0) := by
  rw [jumpZ_do k v tg hk]
  have e : wrap64 ((k : Int) + 1) = ((k + 1 : Nat) : Int) := by unfold wrap64; omega
  show ((if topZ [5, v] 0 = 0 then ({ wentZ (tj k v) 11 [] with pc := (tg : Int) } : TK) else wentZ (tj k v) 11 []), (1 : Int), (0 : Int), (0 : Int)) = _
  have e2 : wentZ (tj k v) 11 [] = { tj k v with pc := ((k + 1 : Nat) : Int), st := [5] } := by
    show ({ tj k v with pc := wrap64 ((k : Int) + 1), st := _ } : TK) = _
    rw [e]; rfl
  rw [e2]
  rfl

set_option maxRecDepth 100000 in
set_option maxHeartbeats 16000000 in
theorem walk (v : Int) (tg : Nat) (always : Bool) (n : Nat) (w : World) (hv : -2147483648 ≤ v ∧ v ≤ 2147483647) (hto : tg ≤ 255) :
    Calls Try.prog 14 #[.int .i32 v, .int .u8 tg, .bool always, .int .u8 n] w fun e w' => e = .returned (.bool true) ∧ Below w.heap.size w w' := by
  obtain ⟨k, hk, hk6⟩ := mod_of n 6 (by decide)
  have hk' : (n : Int) % 6 = k := hk
  obtain ⟨op, hop⟩ : ∃ op : Int, op = if always then 10 else 11 := ⟨_, rfl⟩
  obtain ⟨z, pc, r, hz, hpc, hst, hwant⟩ : ∃ (z : TK) (pc : Int) (r : List Int), stepZ (tj k v) [code k op tg] = (z, 1, 0, 0) ∧ z.pc = pc ∧ z.st = 5 :: r ∧
      ((always = true ∧ pc = tg ∧ r.length = 1) ∨ (always = false ∧ v = 0 ∧ pc = tg ∧ r.length = 0) ∨ (always = false ∧ v ≠ 0 ∧ pc = ((k + 1 : Nat) : Int) ∧ r.length = 0)) := by
    cases always with
    | true => subst hop; exact ⟨_, _, [v], jump_at k v tg hk6, rfl, rfl, .inl ⟨rfl, rfl, rfl⟩⟩
    | false =>
      subst hop
      by_cases h0 : v = 0
      · exact ⟨_, _, [], by have := jumpZ_at k v tg hk6; rw [if_pos h0] at this; exact this, rfl, rfl, .inr (.inl ⟨rfl, h0, rfl, rfl⟩)⟩
      · exact ⟨_, _, [], by have := jumpZ_at k v tg hk6; rw [if_neg h0] at this; exact this, rfl, rfl, .inr (.inr ⟨rfl, h0, rfl, rfl⟩)⟩
  have HS : Hid (∀ w s c, I32V w w.heap.size s [5, v] → ImgV w w.heap.size c [code k op tg] → Calls Try.prog 40 #[taskV (tj k v) s, c] w (TO w z 1 0 0)) := Lib.hid fun w s c h1 h2 => step_lit _ s _ c w z 1 0 0 hz h1 (by simp [tj]) (by
    intro y hy
    have : y = 5 ∨ y = v := by simpa [tj] using hy
    rcases this with rfl | rfl
    · exact ⟨by decide, by decide⟩
    · exact hv) h2
  have HPC := Lib.hid hpc; have HST := Lib.hid hst; have HWANT := Lib.hid hwant; have HOP := Lib.hid hop; have HTO := Lib.hid hto
  clear hk hz hpc hst hwant hv hop
  go_enter Try.func14, Try.ntmps14
  go_wp2_with fail
  refine (known10_any w).mono ?_
  rintro e w1 ⟨rfl, hb⟩
  have B1 := Lib.hid hb; clear hb
  go_upto_if 20 with (fail)
  go_cut [9] from 20 to 20 (fun u wx => u = .int .i64 op ∧ wx = w1)
  case first =>
    cases always with
    | true =>
      have h : op = 10 := by simpa using HOP.out
      go_wp2_with fail
      go_meet
      exact ⟨by rw [h], rfl⟩
    | false =>
      have h : op = 11 := by simpa using HOP.out
      go_wp2_with fail
      go_meet
      exact ⟨by rw [h], rfl⟩
  case rest =>
    obtain ⟨rfl, hwc⟩ := hcut
    subst hwc
    clear HOP
    go_wp2_with fail
    rw [hk']
    have HK' := Lib.hid hk'
    clear hk'
    go_loopw [11, 12] (fun f i wr => ∃ j : Nat, j ≤ k ∧ i = .int .i64 j ∧ OwnI wr wc.heap.size f (popsL j) ∧ Below wc.heap.size wc wr) (fun _ i _ => k - (intOf i).toNat)
    case atStart => exact ⟨0, Nat.zero_le _, rfl, OwnI.nil _ _, Below.refl _ _⟩
    case round =>
      obtain ⟨j, hj, rfl, ho, hb⟩ := hrel
      have HO := Lib.hid ho; have HB := Lib.hid hb; clear ho hb
      by_cases hjk : j < k
      · go_wp2_with (at_builtin; go_must (refine wpList_append_new 29 32 (.agg #[.int .i64 0, .int .i32 0]) 2 16 Try.underlying29 inf_instr rfl (by decide) (by decide) rfl (.tmp 29) (.tmp 31) rfl wc.heap.size _ _ _ _ [.int .i64 2, .int .i32 0] rfl rfl HO.out rfl rfl ?c1 ?c2 ?c3 ?_))
        case c1 => exact one_cells _ _
        case c2 => rw [popsL_length]; omega
        case c3 => exact HB.out.size
        intro v3 w3 ho hg _
        have HO3 : Hid (OwnI w3 wc.heap.size v3 (popsL (j + 1))) := Lib.hid (by rw [popsL_succ]; exact OwnI.snoc ho)
        have HB3 := Lib.hid (HB.out.grown hg HB.out.size (fun k hk => (World.ownsRow.lt HO.out k hk).1))
        clear ho hg HO HB
        go_wp2_with fail
        go_roundw
        case rel => exact ⟨j + 1, by omega, by go_num, HO3.out, HB3.out⟩
        case measure => simp [intOf]; omega
      · obtain rfl : k = j := by omega
        have hw32 : wrap32 (tg : Int) = tg := by unfold wrap32; have := HTO.out; omega
        go_wp2_with (at_builtin; go_must (refine wpList_append_new 29 32 (.agg #[.int .i64 0, .int .i32 0]) 2 16 Try.underlying29 inf_instr rfl (by decide) (by decide) rfl (.tmp 33) (.tmp 38) rfl wc.heap.size _ _ _ _ [.int .i64 op, .int .i32 tg] rfl rfl HO.out rfl rfl ?c1 ?c2 ?c3 ?_))
        case c1 => exact one_cells _ _
        case c2 => rw [popsL_length]; omega
        case c3 => exact HB.out.size
        intro v3 w3 ho hg _
        have hown : OwnI w3 wc.heap.size v3 (code k op tg) := OwnI.snoc ho
        have HR3 := Lib.hid (RowI.of_own hown (code_i32 HTO.out))
        have HB3 := Lib.hid (nextB B1.out (HB.out.grown hg HB.out.size (fun k hk => (World.ownsRow.lt HO.out k hk).1)))
        obtain ⟨A3, c3, hv3⟩ := hown.slice
        rw [code_length] at hv3
        subst hv3
        clear ho hg HO HB
        go_upto_region 14 with (fail)
        obtain ⟨wq, hwq⟩ : ∃ wq, wq = (w3.alloc (.cells (i32s [5, v]).toArray 21)).alloc (.cells (taskA (tj k v) (.slice (some ⟨w3.heap.size, 0, none⟩) 2 2)) 66) := ⟨_, rfl⟩
        rw [show Code.wp Try.prog _ _ _ _ = Code.wp Try.prog _ _ _ wq from by rw [hwq]; rfl]
        have hbq : Below w3.heap.size w3 wq := by rw [hwq]; exact nextB (below_alloc _ _) (below_alloc _ _)
        have HF : Hid (wq.heap[w3.heap.size + 1]? = some (.cells (taskA (tj k v) (.slice (some ⟨w3.heap.size, 0, none⟩) 2 2)) 66 (0, 0))) := Lib.hid (by rw [hwq]; exact heapNew (by simp))
        have HI : Hid (I32V wq wq.heap.size (.slice (some ⟨w3.heap.size, 0, none⟩) 2 2) [5, v]) := Lib.hid (by rw [hwq]; exact (I32V.fresh w3 [5, v]).later (below_alloc _ _))
        have HIM := Lib.hid (ImgV.one (HR3.out.later hbq) (by rw [code_length]; omega) 29)
        have Bq := Lib.hid (nextB HB3.out hbq)
        have BA := Lib.hid (below_alloc wq (.cells #[.slice A3 (k + 1) c3] 29))
        obtain ⟨pt, hpt⟩ : ∃ p, p = w3.heap.size + 1 := ⟨_, rfl⟩
        rw [← hpt] at HF ⊢
        clear hwq hbq hpt HR3 HB3 hown
        go_wp2_with (first | (refine load_taskAt rfl _ rfl _ (tj k v) _ rfl _ _ HF.out ?_) | fail)
        refine (HS.out _ _ _ (HI.out.later BA.out) HIM.out).mono ?_
        rintro e w6 ⟨⟨s', rfl, ho⟩, hb⟩
        have hst := HST.out
        have hpc := HPC.out
        rw [hst] at ho
        have B6 := Lib.hid (nextB (nextB Bq.out BA.out) hb)
        have hv := ho.v
        obtain ⟨A5, c5, rfl, _, hl⟩ := hv
        obtain ⟨b5, o5, rfl, hb5, hc5⟩ := lie_i32 hl (k := 0) (by simp)
        have hcell : w6.cell? ⟨b5, o5, none⟩ = some (.int .i32 5) := hc5
        obtain ⟨m, hm⟩ : ∃ m, (5 :: r).length = m := ⟨_, rfl⟩
        rw [hm]
        have HM : Hid (m = r.length + 1) := Lib.hid (by rw [← hm]; rfl)
        clear ho hb hl hc5 hst hm HS HI HIM Bq BA HF
        unfold taskV taskA outV outA
        rw [hpc]
        clear hpc
        rcases HWANT.out with ⟨rfl, rfl, hr⟩ | ⟨rfl, rfl, rfl, hr⟩ | ⟨rfl, hv0, rfl, hr⟩
        · obtain rfl : m = 2 := by have := HM.out; omega
          clear HWANT hr
          go_wp2_with fail
          go_ret
          exact ⟨rfl, nextB B6.out (nextB (below_alloc _ _) (below_alloc _ _))⟩
        · obtain rfl : m = 1 := by have := HM.out; omega
          clear HWANT hr
          go_wp2_with fail
          go_ret
          exact ⟨rfl, nextB B6.out (nextB (below_alloc _ _) (below_alloc _ _))⟩
        · obtain rfl : m = 1 := by have := HM.out; omega
          have hv1 : (v == 0) = false := by simpa using hv0
          clear HWANT hr
          go_wp2_with fail
          go_ret
          exact ⟨rfl, nextB B6.out (nextB (below_alloc _ _) (below_alloc _ _))⟩

/- The claim. -/

set_option maxRecDepth 100000 in
theorem lifted (os : Os) (started : os.Started) (H : Type) (enc : TypeId × Value → H) :
    ReturnsInHanded {} Try.checked os 14 .any (Rows.taskJumpsSpec.pre6 enc Try.prog Try.f14 Rows.taskJumpsRow.domain false) (Rows.taskJumpsSpec.post enc Try.prog Try.f14 false true false false) := by
  refine returnsInHanded_of_change (C := Try.checked) ownKnobs started (by kernel_rfl) Try.func14
    (ChangeSpec.witness6 (enc := enc) (C := Try.checked) false ⟨#[], #[.int .i32 0, .int .u8 0, .bool false, .int .u8 0], []⟩ 8 (by kernel_rfl) (by kernel_rfl) (by kernel_rfl) (by kernel_rfl)) ?_
  intro W base args ds gs before hval hW _ _
  refine law_contract rfl rfl (fun ds h => by match ds, h with | [d1, d2, d3, d4], _ => rfl) (by decide +kernel) hW ?_
  obtain ⟨p, q, hA0, _⟩ := hW
  have hA : DataW.TrodAll enc Try.prog W 0 (fun _ => true) true Try.f14.params.toList args.toList ds p := hA0
  have hval' : ∀ (j : Nat) t v, Try.f14.params[j]? = some t → args[j]? = some v → Value.okWide Try.prog W .any base t v := hval
  rw [Try.params14] at hA hval'
  obtain ⟨v0, vs0, d0, ds0, p0, q0, hargs, rfl, rfl, h0, r0⟩ := trodAll_cons hA
  obtain ⟨v1, vs1, d1, ds1, p1, q1, rfl, rfl, rfl, h1, r1⟩ := trodAll_cons r0
  obtain ⟨v2, vs2, d2, ds2, p2, q2, rfl, rfl, rfl, h2, r2⟩ := trodAll_cons r1
  obtain ⟨v3, vs3, d3, ds3, p3, q3, rfl, rfl, rfl, h3, r3⟩ := trodAll_cons r2
  obtain ⟨rfl, rfl, rfl⟩ := trodAll_nil r3
  obtain rfl : args = #[v0, v1, v2, v3] := by cases args; simp_all
  obtain ⟨a0, rfl, rfl, rfl, w0⟩ := open_int Try.underlying21 (hval' 0 _ v0 rfl rfl) h0
  have b0 : -2147483648 ≤ a0 ∧ a0 ≤ 2147483647 := by simpa [Lit.wf, IntKind.min, IntKind.max, IntKind.signed, IntKind.bits] using w0
  obtain ⟨z1, rfl, rfl, rfl, w1⟩ := open_int Try.underlying5 (hval' 1 _ v1 rfl rfl) h1
  have b1 : 0 ≤ z1 ∧ z1 ≤ 255 := by simpa [Lit.wf, IntKind.min, IntKind.max, IntKind.signed, IntKind.bits] using w1
  obtain ⟨a1, rfl⟩ : ∃ n : Nat, z1 = n := ⟨z1.toNat, by omega⟩
  obtain ⟨a2, rfl, rfl, rfl⟩ := open_bool Try.underlying4 (hval' 2 _ v2 rfl rfl) h2
  obtain ⟨z3, rfl, rfl, rfl, w3⟩ := open_int Try.underlying5 (hval' 3 _ v3 rfl rfl) h3
  have b3 : 0 ≤ z3 ∧ z3 ≤ 255 := by simpa [Lit.wf, IntKind.min, IntKind.max, IntKind.signed, IntKind.bits] using w3
  obtain ⟨a3, rfl⟩ : ∃ n : Nat, z3 = n := ⟨z3.toNat, by omega⟩
  exact walk a0 a1 a2 a3 W b0 (by omega)

theorem proved : Rows.TaskJumpsSaid :=
  OpenClaim.holds_of_wide 14 Try.f14 rfl rfl rfl rfl rfl rfl rfl ⟨rfl, rfl, rfl, rfl, rfl⟩ rfl rfl rfl rfl rfl (by kernel_rfl) Try.func14 (by kernel_rfl)
    (of_decide_eq_true (by kernel_rfl)) (by unfold Func.isWrapper; first | (rw [if_pos (by decide +kernel)]; kernel_rfl) | (rw [if_neg (by decide +kernel)]; exact ⟨rfl, rfl⟩))
    (fun os started H enc _ => lifted os started H enc)

end Go.Proofs.Ytjnlgmjcabbaaaa.taskJumps
