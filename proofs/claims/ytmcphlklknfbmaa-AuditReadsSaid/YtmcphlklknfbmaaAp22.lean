/- The bytes of records: put, rows.Put, Put. -/
import Derived.Test.YtmcphlklknfbmaaAr22
import Derived.Test.YtmcphlklknfbmaaPut
namespace Go.Proofs.Ytmcphlklknfbmaa
set_option maxRecDepth 100000
open Go.RowKit

/-- The bytes that a call makes. -/
def BytMade (w : World) (l : List Int) (e : Ending) (w' : World) : Prop := ∃ v, e = .returned v ∧ w'.ownsRow w.heap.size 5 1 v l.length (u8s l) ∧ Below w.heap.size w w'
theorem inf_u8 : (Try.prog.info? 5).map (fun i => (i.zero, i.size, i.bytes)) = some (some (.int .u8 0), 1, 1) := by kernel_rfl
theorem one_u8 (l : List Int) : ∀ u ∈ u8s l, u.oneCell' = true := by
  intro u hu
  obtain ⟨x, _, rfl⟩ := List.mem_map.1 hu
  rfl
/-- A word of 32 bits as a number. -/
def wordN (v : Int) : Nat := (v % 4294967296).toNat
def recN (x : RecX) : List Nat := [x.sq.toNat, x.gt.toNat, x.tt.toNat, wordN x.vl, x.rd.toNat, x.bb.toNat]
def recB (x : RecX) : List Int := encs (recN x)
def recsB (L : List RecX) : List Int := encs [L.length] ++ L.flatMap recB
/-- A record without a negative number. -/
def RcPos (x : RecX) : Prop := RcOk x ∧ 0 ≤ x.sq ∧ 0 ≤ x.gt ∧ 0 ≤ x.tt ∧ 0 ≤ x.rd ∧ 0 ≤ x.bb
theorem recN_nums {x : RecX} (h : RcPos x) : IsNums (recN x) := by
  obtain ⟨⟨h1, h2, h3, h4, h5, h6⟩, p1, p2, p3, p4, p5⟩ := h
  unfold I64 at h1 h2 h3 h5
  intro y hy
  simp only [recN, List.mem_cons, List.not_mem_nil, or_false] at hy
  unfold wordN at hy
  rcases hy with rfl | rfl | rfl | rfl | rfl | rfl <;> omega
theorem recB_len {x : RecX} (h : RcPos x) : (recB x).length ≤ 60 := by
  have := encs_length (recN_nums h)
  unfold recB
  simpa [recN] using this
set_option maxRecDepth 100000 in
set_option maxHeartbeats 4000000 in
theorem put1_any (x : RecX) (w : World) (h : RcPos x) : Calls Try.prog 70 #[.agg (recA x)] w (BytMade w (recB x)) := by
  have HNM := Lib.hid (recN_nums h)
  obtain ⟨⟨h1, h2, h3, h4, h5, h6⟩, p1, p2, p3, p4, p5⟩ := h
  unfold I64 at h1 h2 h3 h5
  obtain ⟨sq, gt, tt, vl, rd, bb⟩ := x
  simp only at h1 h2 h3 h4 h5 h6 p1 p2 p3 p4 p5
  obtain ⟨n0, rfl⟩ : ∃ n : Nat, sq = n := ⟨sq.toNat, by omega⟩
  obtain ⟨n1, rfl⟩ : ∃ n : Nat, gt = n := ⟨gt.toNat, by omega⟩
  obtain ⟨n2, rfl⟩ : ∃ n : Nat, tt = n := ⟨tt.toNat, by omega⟩
  obtain ⟨n4, rfl⟩ : ∃ n : Nat, rd = n := ⟨rd.toNat, by omega⟩
  obtain ⟨n5, rfl⟩ : ∃ n : Nat, bb = n := ⟨bb.toNat, by omega⟩
  have eN : recN ⟨n0, n1, n2, vl, n4, n5⟩ = [n0, n1, n2, wordN vl, n4, n5] := by simp [recN]
  have eB : recB ⟨n0, n1, n2, vl, n4, n5⟩ = encs [n0, n1, n2, wordN vl, n4, n5] := by unfold recB; rw [eN]
  rw [eN] at HNM
  rw [eB]
  obtain ⟨wn, hwn⟩ : ∃ n, wordN vl = n := ⟨_, rfl⟩
  rw [hwn] at HNM ⊢
  have hw1 : IntKind.u32.wrap vl = (wn : Int) := by rw [← hwn]; unfold wordN; simp [IntKind.wrap, IntKind.signed, IntKind.bits]; omega
  have hwb : wn ≤ 4294967295 := by rw [← hwn]; unfold wordN; omega
  clear hwn eN eB
  obtain ⟨w1, hw1'⟩ : ∃ y, y = w.alloc (.cells #[.int .i64 (n0 : Int), .int .i64 (n1 : Int), .int .i64 (n2 : Int), .int .i32 vl, .int .i64 (n4 : Int), .int .i32 (n5 : Int)] 59) := ⟨_, rfl⟩
  obtain ⟨w2, hw2⟩ : ∃ y, y = w1.alloc (.cells #[.int .u64 (n0 : Int), .int .u64 (n1 : Int), .int .u64 (n2 : Int), .int .u64 (wn : Int), .int .u64 (n4 : Int), .int .u64 (n5 : Int)] 131) := ⟨_, rfl⟩
  have B1 : Below w.heap.size w w1 := by rw [hw1']; exact below_alloc w _
  have B2 : Below w1.heap.size w1 w2 := by rw [hw2]; exact below_alloc w1 _
  have HPU := Lib.hid (put_any w2.heap.size (some ⟨w1.heap.size, 0, none⟩) 6 6 [n0, n1, n2, wn, n4, n5] w2 rfl (by omega) HNM.out (Nat.le_refl _) (by
    have hk : w2.heap[w1.heap.size]? = some (.cells #[.int .u64 (n0 : Int), .int .u64 (n1 : Int), .int .u64 (n2 : Int), .int .u64 (wn : Int), .int .u64 (n4 : Int), .int .u64 (n5 : Int)] 131 (0, 0)) := by rw [hw2]; exact heap_alloc_new w1 _
    exact fun _ => ⟨w1.heap.size, 0, rfl, (Array.getElem?_eq_some_iff.1 hk).1, fun j u hu => by rw [Nat.zero_add, cell_blk hk]; simpa [u64s] using hu⟩))
  have HBB : Hid (Below w.heap.size w w2) := Lib.hid (nextB B1 B2)
  have HW1 := Lib.hid hw1'
  have HW2 := Lib.hid hw2
  clear hw1' hw2 B1 B2
  go_enter Try.func70, Try.ntmps70
  go_upto_region 1 with (fail)
  rw [show w.alloc (.cells (recA ⟨n0, n1, n2, vl, n4, n5⟩) 59) = w1 from HW1.out.symm]
  have hk1 : w1.heap[w.heap.size]? = some (.cells #[.int .i64 (n0 : Int), .int .i64 (n1 : Int), .int .i64 (n2 : Int), .int .i32 vl, .int .i64 (n4 : Int), .int .i32 (n5 : Int)] 59 (0, 0)) := by rw [HW1.out]; exact heap_alloc_new w _
  have c0 : w1.cell? ⟨w.heap.size, 0, none⟩ = some (.int .i64 (n0 : Int)) := cell_blk hk1 0
  have c1 : w1.cell? ⟨w.heap.size, 1, none⟩ = some (.int .i64 (n1 : Int)) := cell_blk hk1 1
  have c2 : w1.cell? ⟨w.heap.size, 2, none⟩ = some (.int .i64 (n2 : Int)) := cell_blk hk1 2
  have c3 : w1.cell? ⟨w.heap.size, 3, none⟩ = some (.int .i32 vl) := cell_blk hk1 3
  have c4 : w1.cell? ⟨w.heap.size, 4, none⟩ = some (.int .i64 (n4 : Int)) := cell_blk hk1 4
  have c5 : w1.cell? ⟨w.heap.size, 5, none⟩ = some (.int .i32 (n5 : Int)) := cell_blk hk1 5
  clear hk1
  go_wp2_with fail
  rw [← HW2.out]
  refine HPU.out.mono ?_
  rintro e w3 ⟨v3, rfl, ho, hb⟩
  have HF : Hid (BytMade w (encs [n0, n1, n2, wn, n4, n5]) (.returned v3) w3) := Lib.hid ⟨v3, rfl, by
    refine ⟨ho.1, ?_⟩
    rcases ho.2 with e | ⟨g, cap, cur, e, hg, h3⟩
    · exact .inl e
    · exact .inr ⟨g, cap, cur, e, Nat.le_trans HBB.out.size hg, h3⟩, nextB HBB.out hb⟩
  obtain ⟨A3, n3, k3, e3⟩ : ∃ A n c, v3 = .slice A n c := by
    rcases ho.2 with ⟨e, _⟩ | ⟨g, cap, cur, e, _⟩
    · exact ⟨_, _, _, e⟩
    · exact ⟨_, _, _, e⟩
  subst e3
  clear ho hb
  go_wp2_with fail
  go_ret
  exact HF.out
theorem flat_take {L : List RecX} {j : Nat} (hj : j < L.length) : (L.take (j + 1)).flatMap recB = (L.take j).flatMap recB ++ recB L[j] := by
  rw [List.take_succ_eq_append_getElem hj, List.flatMap_append]; simp
theorem flat_len {L : List RecX} (h : ∀ x ∈ L, RcPos x) : (L.flatMap recB).length ≤ 60 * L.length := by
  induction L with
  | nil => simp
  | cons x r ih =>
    have h1 := recB_len (h x List.mem_cons_self)
    have h2 := ih fun y hy => h y (List.mem_cons_of_mem _ hy)
    rw [List.flatMap_cons, List.length_append, List.length_cons]; omega
def outB (L : List RecX) (j : Nat) : List Int := encs [L.length] ++ (L.take j).flatMap recB
theorem outB_len {L : List RecX} (h : ∀ x ∈ L, RcPos x) (hn : L.length ≤ 1000) (j : Nat) : (outB L j).length ≤ 70000 := by
  have h1 : (encs [L.length]).length ≤ 10 * [L.length].length := encs_length (by intro x hx; rw [List.mem_singleton.1 hx]; omega)
  have h2 := flat_len (L := L.take j) fun x hx => h x (List.mem_of_mem_take hx)
  have h3 : (L.take j).length ≤ L.length := by rw [List.length_take]; omega
  unfold outB
  rw [List.length_append]
  simp only [List.length_singleton] at h1
  omega
set_option maxRecDepth 100000 in
set_option maxHeartbeats 8000000 in
theorem rowsPut_any {w : World} {v : Value} {L : List RecX} (h : RcV w v L) (hn : L.length ≤ 1000) (hk : ∀ x ∈ L, RcPos x) :
    Calls Try.prog 69 #[v, .func (.func 70) #[] #[]] w (BytMade w (recsB L)) := by
  have HRC := Lib.hid h
  have HK := Lib.hid hk
  have HBL := Lib.hid (outB_len hk hn)
  obtain ⟨A, c, rfl, hjunk⟩ := h
  clear hjunk
  obtain ⟨n, hln⟩ : ∃ n, L.length = n := ⟨_, rfl⟩
  have HLN := Lib.hid hln
  rw [hln] at HRC hn ⊢
  obtain ⟨w2, hw2⟩ : ∃ y, y = w.alloc (.cells #[.int .u64 (n : Int)] 131) := ⟨_, rfl⟩
  have B2 : Below w.heap.size w w2 := by rw [hw2]; exact below_alloc w _
  have HPU := Lib.hid (put_any w2.heap.size (some ⟨w.heap.size, 0, none⟩) 1 1 [n] w2 rfl (by omega) (by intro x hx; rw [List.mem_singleton.1 hx]; omega) (Nat.le_refl _) (by
    have hk : w2.heap[w.heap.size]? = some (.cells #[.int .u64 (n : Int)] 131 (0, 0)) := by rw [hw2]; exact heap_alloc_new w _
    exact fun _ => ⟨w.heap.size, 0, rfl, (Array.getElem?_eq_some_iff.1 hk).1, fun j u hu => by rw [Nat.zero_add, cell_blk hk]; simpa [u64s] using hu⟩))
  have HB2 := Lib.hid B2
  have HW2 := Lib.hid hw2
  clear hk hln hw2 B2
  go_enter Try.func69, Try.ntmps69
  go_wp2_with fail
  rw [← HW2.out]
  refine HPU.out.mono ?_
  rintro e w3 ⟨v3, rfl, ho, hb⟩
  have H3 : Hid (w3.ownsRow w.heap.size 5 1 v3 (outB L 0).length (u8s (outB L 0)) ∧ Below w.heap.size w w3) := Lib.hid (by
    have e0 : outB L 0 = encs [n] := by unfold outB; rw [HLN.out]; simp
    rw [e0]
    refine ⟨⟨ho.1, ?_⟩, nextB HB2.out hb⟩
    rcases ho.2 with e | ⟨g, cap, cur, e, hg, h3⟩
    · exact .inl e
    · exact .inr ⟨g, cap, cur, e, Nat.le_trans HB2.out.size hg, h3⟩)
  obtain ⟨A3, n3, k3, e3⟩ : ∃ A n c, v3 = .slice A n c := by
    rcases ho.2 with ⟨e, _⟩ | ⟨g, cap, cur, e, _⟩
    · exact ⟨_, _, _, e⟩
    · exact ⟨_, _, _, e⟩
  subst e3
  clear ho hb HPU
  go_wp2_with fail
  go_loopw [5, 15] (fun x i wr => ∃ j : Nat, j ≤ n ∧ i = .int .i64 j ∧ wr.ownsRow w.heap.size 5 1 x (outB L j).length (u8s (outB L j)) ∧ Below w.heap.size w wr) (fun _ i _ => n - (intOf i).toNat)
  case atStart => exact ⟨0, Nat.zero_le _, rfl, H3.out.1, H3.out.2⟩
  case round =>
    clear H3
    obtain ⟨j, hj, rfl, ho, hb⟩ := hrel
    have HO := Lib.hid ho; have HB := Lib.hid hb
    obtain ⟨A5, n5, c5, e5⟩ : ∃ A n c, u5 = .slice A n c := by
      rcases ho.2 with ⟨e, _⟩ | ⟨g, cap, cur, e, _⟩
      · exact ⟨_, _, _, e⟩
      · exact ⟨_, _, _, e⟩
    subst e5
    by_cases hjn : j < n
    · have hjl : j < L.length := by rw [HLN.out]; exact hjn
      obtain ⟨g, off, eA, hr⟩ := HRC.out.at' hjl
      subst eA
      have HFT : Hid (outB L (j + 1) = outB L j ++ recB L[j]) := Lib.hid (by unfold outB; rw [flat_take hjl, List.append_assoc])
      have hxk := HK.out L[j] (List.getElem_mem hjl)
      generalize L[j] = x at *
      have HR := Lib.hid (rc_range_below hr hb)
      obtain ⟨w1, hw1, hX1, hB1⟩ := rec_box wr x
      have HPX := Lib.hid (put1_any x w1 hxk)
      have HL1 := Lib.hid (recB_len hxk)
      have HZ := Lib.hid (rec_zero wr)
      have HX1 := Lib.hid hX1
      have HW1 := Lib.hid hw1
      have HB1 := Lib.hid (hb.trans (hB1.mono hb.size))
      have HO1 := Lib.hid (ownsRow_keep ho fun k e => hB1.block k (World.ownsRow.lt ho k e).2)
      have i1 : (0 : Int) ≤ (j : Int) ∧ (j : Int) < n := by omega
      have hbl := HBL.out j
      have HBJ := Lib.hid hbl
      obtain ⟨bl, hble⟩ : ∃ y, (outB L j).length = y := ⟨_, rfl⟩
      have HBE := Lib.hid hble
      clear hr hjl hw1 hX1 hB1 ho hb hxk hble hbl
      unfold recA at HPX
      go_wp2_with (first | (refine load_recMid rfl _ rfl g (off + j * 6) x rfl HR.out ?_; simp only [recA]) | (refine store_rec rfl _ _ rfl rfl wr.heap.size x rfl rfl _ zR HZ.out ?_; rw [← HW1.out]) | (refine load_recAt rfl _ rfl wr.heap.size x rfl _ _ HX1.out ?_; simp only [recA]) | fail)
      refine HPX.out.mono ?_
      rintro e w4 ⟨v4, rfl, o4, b4⟩
      obtain ⟨A4, k4, e4, hk4, _, hl4, hli4, _⟩ := Lies.of_own o4
      subst e4
      have HLI := Lib.hid hli4
      have HO4 := Lib.hid (ownsRow_keep HO1.out fun k e => b4.block k (World.ownsRow.lt HO1.out k e).2)
      have HB4 := Lib.hid (HB1.out.trans (b4.mono HB1.out.size))
      have hw4 : w.heap.size ≤ w4.heap.size := HB4.out.size
      clear o4 b4 hl4 hli4 hk4
      go_wp2_with (at_builtin; go_must (refine wpList_append_L 54 5 _ 1 Try.underlying54 inf_u8 rfl rfl (.tmp 19) (.tmp 22) rfl w.heap.size _ _ _ rfl HO4.out w4.heap.size A4 (recB x).length k4 (u8s (recB x)) rfl (by simp [u8s]) HLI.out (one_u8 _) ?c3 ?c4 ?c5 ?_))
      case c3 => have := HBJ.out; have := HL1.out; omega
      case c4 => omega
      case c5 => exact hw4
      intro v6 w6 o6 g6 b6
      have HO6 : Hid (w6.ownsRow w.heap.size 5 1 v6 (outB L (j + 1)).length (u8s (outB L (j + 1)))) := Lib.hid (by
        rw [HFT.out, List.length_append, show u8s (outB L j ++ recB x) = u8s (outB L j) ++ u8s (recB x) from List.map_append ..]
        exact o6)
      have HB6 := Lib.hid (HB4.out.trans b6)
      clear o6 g6 b6
      go_wp2_with fail
      go_roundw
      case rel => exact ⟨j + 1, by omega, by go_num, HO6.out, HB6.out⟩
      case measure => simp [intOf]; omega
    · obtain rfl : n = j := by omega
      have eF : outB L n = recsB L := by unfold outB recsB; rw [List.take_of_length_le (by rw [HLN.out]; omega)]
      have HF : Hid (BytMade w (recsB L) (.returned (.slice A5 n5 c5)) wr) := Lib.hid ⟨_, rfl, by rw [← eF]; exact HO.out, HB.out⟩
      clear eF ho hb
      go_wp2_with fail
      go_ret
      exact HF.out
/-- A right list has no negative number. -/
theorem right_pos {L : List RecX} (h : rightL L = true) (hk : ∀ x ∈ L, RcOk x) : ∀ x ∈ L, RcPos x := by
  have hall : ∀ k (hk : k < L.length), okR (L.take k) L[k] = true := fun k hk => by
    cases e : okR (L.take k) L[k] with
    | true => rfl
    | false => rw [rightL_no hk e] at h; cases h
  have hrd : ∀ k, k ≤ L.length → 0 ≤ rdL (L.take k) := by
    intro k
    induction k with
    | zero => intro _; exact Int.le_refl _
    | succ k ih =>
      intro hk2
      have h1 := ih (by omega)
      have h2 := hall k (by omega)
      rw [List.take_succ_eq_append_getElem (by omega), rdL_snoc]
      unfold okR at h2
      simp only [Bool.not_eq_true', Bool.or_eq_false_iff, decide_eq_false_iff_not] at h2
      omega
  intro x hx
  obtain ⟨k, hk2, rfl⟩ := List.mem_iff_getElem.1 hx
  have h2 := hall k hk2
  have h1 := hrd k (by omega)
  unfold okR at h2
  simp only [Bool.not_eq_true', Bool.or_eq_false_iff, decide_eq_false_iff_not, bne_eq_false_iff_eq] at h2
  exact ⟨hk _ hx, by omega, by omega, by omega, by omega, by omega⟩
/-- What Put answers. -/
def putL (L : List RecX) : List Int := if rightL L then recsB L else []
set_option maxRecDepth 100000 in
set_option maxHeartbeats 2000000 in
theorem auditPut_any {w : World} {v : Value} {L : List RecX} (h : RcV w v L) (hn : L.length ≤ 1000) (hk : ∀ x ∈ L, RcOk x) : Calls Try.prog 38 #[v] w (BytMade w (putL L)) := by
  have HRT := Lib.hid (right_any h (by omega) hk)
  have HP0 := Lib.hid (fun (hr : rightL L = true) (w' : World) (hb : Below w.heap.size w w') => rowsPut_any (h.later hb) hn (right_pos hr hk))
  obtain ⟨A, c, rfl, hjunk⟩ := h
  clear hjunk hk hn
  generalize L.length = n at *
  cases hr : rightL L with
  | true =>
    have HPP := Lib.hid (HP0.out hr)
    have eP : putL L = recsB L := by unfold putL; rw [hr]; rfl
    rw [eP]
    rw [hr] at HRT
    clear hr eP
    go_enter Try.func38, Try.ntmps38
    go_wp2_with fail
    refine HRT.out.mono ?_
    rintro e w1 ⟨rfl, hb1⟩
    have HB1 := Lib.hid hb1
    have HP1 := Lib.hid (HPP.out w1 hb1)
    clear hb1
    go_wp2_with fail
    refine HP1.out.mono ?_
    rintro e w3 ⟨v3, rfl, ho, hb⟩
    have HF : Hid (BytMade w (recsB L) (.returned v3) w3) := Lib.hid ⟨v3, rfl, by
      refine ⟨ho.1, ?_⟩
      rcases ho.2 with e | ⟨g, cap, cur, e, hg, h3⟩
      · exact .inl e
      · exact .inr ⟨g, cap, cur, e, Nat.le_trans HB1.out.size hg, h3⟩, nextB HB1.out hb⟩
    obtain ⟨A3, n3, k3, e3⟩ : ∃ A n c, v3 = .slice A n c := by
      rcases ho.2 with ⟨e, _⟩ | ⟨g, cap, cur, e, _⟩
      · exact ⟨_, _, _, e⟩
      · exact ⟨_, _, _, e⟩
    subst e3
    clear ho hb
    go_wp2_with fail
    go_ret
    exact HF.out
  | false =>
    have eP : putL L = [] := by unfold putL; rw [hr]; rfl
    rw [eP]
    rw [hr] at HRT
    clear hr eP
    go_enter Try.func38, Try.ntmps38
    go_wp2_with fail
    refine HRT.out.mono ?_
    rintro e w1 ⟨rfl, hb1⟩
    have HB1 := Lib.hid hb1
    clear hb1
    go_wp2_with fail
    go_ret
    exact ⟨_, rfl, World.ownsRow_nil _ _ _ 1, HB1.out⟩

end Go.Proofs.Ytmcphlklknfbmaa
