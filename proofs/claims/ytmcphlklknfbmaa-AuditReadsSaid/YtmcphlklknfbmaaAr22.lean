/- Which records may be: Right. -/
import Derived.Test.YtmcphlklknfbmaaLog22
import Derived.Maps.OwnOps
import Derived.Maps.Views
import Derived.Deep.DeepCutAuto
namespace Go.Proofs.Ytmcphlklknfbmaa
set_option maxRecDepth 100000
open Go.RowKit Go.Maps

theorem key_int : Keyed Try.prog 3 := int_keyed Try.underlying3
theorem zero_int (w : World) : (zeroValue 3).run Try.prog w = .ok (.int .i64 0) w := by kernel_rfl
def I64 (t : Int) : Prop := -9223372036854775808 ≤ t ∧ t ≤ 9223372036854775807
theorem I64.wf {t : Int} (h : I64 t) : (Lit.int .i64 t).wf = true := by
  obtain ⟨h1, h2⟩ := h
  simp [Lit.wf, IntKind.min, IntKind.max, IntKind.signed, IntKind.bits]; omega
/-- A map of the call's own, from numbers to numbers. -/
def CntM (w : World) (b n : Nat) (cnt : Int → Int) : Prop := ∃ D : DataW Unit, w.ownsMap Try.prog 3 (plainElem Try.prog 3) b n D ∧ IsMap D ∧ ∀ t, D.atKey (.int .i64 t) (.lit (.int .i64 0)) = .lit (.int .i64 (cnt t))
theorem CntM.new (w : World) : CntM (w.alloc (.map #[] 0)) w.heap.size 0 (fun _ => 0) := ⟨.map [], World.ownsMap_made _ _ _ _, isMap_empty, fun _ => rfl⟩
theorem CntM.below {w w' : World} {b n : Nat} {cnt : Int → Int} (h : CntM w b n cnt) (hb : Below w.heap.size w w') : CntM w' b n cnt := by
  obtain ⟨D, h1, h2, h3⟩ := h
  exact ⟨D, h1.kept (row := none) ⟨hb.os, hb.tape, hb.output, hb.size, fun k hk _ => hb.block k hk⟩ (by simp), h2, h3⟩
theorem CntM.lt {w : World} {b n : Nat} {cnt : Int → Int} (h : CntM w b n cnt) : b < w.heap.size := by obtain ⟨D, h1, _⟩ := h; exact h1.lt
theorem CntM.look {w : World} {b n : Nat} {cnt : Int → Int} (h : CntM w b n cnt) {t : Int} (ht : I64 t) : (Instr.lookup 127 (.map (some b)) (.int .i64 t) false).run Try.prog w = .ok (.int .i64 (cnt t)) w := by
  obtain ⟨D, h1, h2, h3⟩ := h
  obtain ⟨c, e1, e2, _⟩ := h1.lookup_int key_int Try.underlying127 Try.underlying3 (zero_int w) (keyOf_int_mk Try.underlying3 ht.wf)
  rw [h3 t] at e2
  injection e2 with e2
  injection e2 with _ e2
  rw [e1, e2]
theorem cnt_put {w : World} {ops : Array Oper} {rest : List Oper} {o : Oper} {a : Act} {Q : Exit → Act → World → Prop} (hg : o.guard = none) (m x v : Operand) (hop : o.op = Op.mapUpdate 127 m x v) {b n : Nat} {cnt : Int → Int} (h : CntM w b n cnt) (hn : n ≤ 1000000)
    (hm : a.eval m = .map (some b)) (t c : Int) (hx : a.eval x = .int .i64 t) (hv : a.eval v = .int .i64 c) (ht : I64 t) (hc : I64 c)
    (hK : ∀ w', CntM w' b (n + 1) (fun t' => if t' = t then c else cnt t') → w.grownBy w' (some b) → wpList Try.prog ops Q rest (a.put o.dst undef) w') : wpList Try.prog ops Q (o :: rest) a w := by
  obtain ⟨D, h1, h2, h3⟩ := h
  refine wpList_mapUpdate_own (H := Unit) w hg m x v 127 hop 3 3 key_int Try.underlying127 (plainElem Try.prog 3) b n D hm h1 (by unfold maxLen; omega) _ _ (.int .i64 t) hx hv (keyOf_int_mk Try.underlying3 ht.wf) _ [] (plainElem_int Try.underlying3 hc.wf) ?_
  intro w' o1 g1
  refine hK w' ⟨_, o1, h2.put _ _, fun t' => ?_⟩ g1
  dsimp only
  by_cases e : t' = t
  · subst e
    rw [if_pos rfl]
    exact atKey_put_same h2 (by trivial) _ _
  · rw [if_neg e, atKey_put_other (by intro e2; injection e2 with _ e2; exact e e2)]
    exact h3 t'
/-- A record's numbers are in range. -/
def RcOk (x : RecX) : Prop := I64 x.sq ∧ I64 x.gt ∧ I64 x.tt ∧ (-2147483648 ≤ x.vl ∧ x.vl ≤ 2147483647) ∧ I64 x.rd ∧ (-2147483648 ≤ x.bb ∧ x.bb ≤ 2147483647)
/-- How many went to t; the last round. -/
def cntT (L : List RecX) (t : Int) : Nat := (L.filter fun x => x.tt == t).length
def rdL : List RecX → Int
  | [] => 0
  | [x] => x.rd
  | _ :: y :: r => rdL (y :: r)
theorem rdL_snoc (L : List RecX) (x : RecX) : rdL (L ++ [x]) = x.rd := by
  induction L with
  | nil => rfl
  | cons y r ih =>
    cases r with
    | nil => rfl
    | cons z r => exact ih
def okR (L : List RecX) (x : RecX) : Bool := !(decide (x.rd < rdL L) || x.sq != (cntT L x.tt : Int) || decide (x.gt < 0) || decide (x.tt < 0) || decide (x.bb < 0))
def rightL (L : List RecX) : Bool := (List.range L.length).all fun k => okR (L.take k) (L.getD k zR)
theorem cntT_snoc (L : List RecX) (x : RecX) (t : Int) : (cntT (L ++ [x]) t : Int) = if t = x.tt then (cntT L x.tt : Int) + 1 else (cntT L t : Int) := by
  unfold cntT
  rw [List.filter_append, List.length_append, List.filter_cons]
  by_cases e : t = x.tt
  · subst e; simp
  · rw [if_neg e]
    have : (x.tt == t) = false := by simpa using fun e2 => e e2.symm
    rw [this]; simp
theorem cntT_le (L : List RecX) (t : Int) : cntT L t ≤ L.length := List.length_filter_le _ _
theorem rightL_no {L : List RecX} {k : Nat} (hk : k < L.length) (h : okR (L.take k) L[k] = false) : rightL L = false := by
  unfold rightL
  rw [Bool.eq_false_iff]
  intro hh
  have h1 := List.all_eq_true.1 hh k (List.mem_range.2 hk)
  rw [List.getD_eq_getElem?_getD, List.getElem?_eq_getElem hk] at h1
  have h1 : okR (L.take k) L[k] = true := h1
  rw [h1] at h; cases h
theorem rightL_yes {L : List RecX} (h : ∀ k (hk : k < L.length), okR (L.take k) L[k] = true) : rightL L = true := by
  unfold rightL
  rw [List.all_eq_true]
  intro k hk
  have hk := List.mem_range.1 hk
  rw [List.getD_eq_getElem?_getD, List.getElem?_eq_getElem hk]
  exact h k hk
set_option maxRecDepth 100000 in
set_option maxHeartbeats 8000000 in
theorem right_any {w : World} {v : Value} {L : List RecX} (h : RcV w v L) (hn : L.length ≤ 100000) (hk : ∀ x ∈ L, RcOk x) :
    Calls Try.prog 36 #[v] w fun e w' => e = .returned (.bool (rightL L)) ∧ Below w.heap.size w w' := by
  have hmm := @run_makeMap Try.prog
  have HRC := Lib.hid h
  have HOK := Lib.hid hk
  obtain ⟨A, c, rfl, hjunk⟩ := h
  clear hjunk
  obtain ⟨n, hln⟩ : ∃ n, L.length = n := ⟨_, rfl⟩
  have HLN := Lib.hid hln
  rw [hln] at HRC hn ⊢
  obtain ⟨res, hres⟩ : ∃ y, rightL L = y := ⟨_, rfl⟩
  have HRES := Lib.hid hres
  rw [hres]
  clear hk hln hres
  go_enter Try.func36, Try.ntmps36
  go_wp2_with fail
  go_loopw [3, 10] (fun x i wr => ∃ j : Nat, j ≤ n ∧ i = .int .i64 j ∧ x = .int .i64 (rdL (L.take j)) ∧ CntM wr w.heap.size j (fun t => (cntT (L.take j) t : Int)) ∧ (∀ k (hk : k < L.length), k < j → okR (L.take k) L[k] = true) ∧ Below w.heap.size w wr) (fun _ i _ => n - (intOf i).toNat)
  case atStart => exact ⟨0, Nat.zero_le _, rfl, rfl, CntM.new w, (fun k _ h => by omega), below_alloc w _⟩
  case round =>
    obtain ⟨j, hj, rfl, rfl, hm, hok, hb⟩ := hrel
    have HB := Lib.hid hb
    have HM := Lib.hid hm
    have HK := Lib.hid hok
    by_cases hjn : j < n
    · have hjl : j < L.length := by rw [HLN.out]; exact hjn
      obtain ⟨g, off, eA, hr⟩ := HRC.out.at' hjl
      subst eA
      have HTK := Lib.hid (List.take_succ_eq_append_getElem hjl)
      have hx := HOK.out L[j] (List.getElem_mem hjl)
      have HNO : Hid (okR (L.take j) L[j] = false → res = false) := Lib.hid fun e => by rw [← HRES.out]; exact rightL_no hjl e
      have HYE : Hid (okR (L.take j) L[j] = true → ∀ k (hk : k < L.length), k < j + 1 → okR (L.take k) L[k] = true) := Lib.hid fun e k hk hlt => by
        by_cases e2 : k = j
        · subst e2; exact e
        · exact hok k hk (by omega)
      obtain ⟨x, hxe⟩ : ∃ y, L[j] = y := ⟨_, rfl⟩
      rw [hxe] at hr HTK hx HNO HYE
      obtain ⟨rd, hrd⟩ : ∃ y, rdL (L.take j) = y := ⟨_, rfl⟩
      rw [hrd]
      obtain ⟨ct, hct⟩ : ∃ y : Nat, cntT (L.take j) x.tt = y := ⟨_, rfl⟩
      have hctj : ct ≤ j := by rw [← hct]; exact Nat.le_trans (cntT_le _ _) (by rw [List.length_take]; omega)
      have HOKE : Hid (okR (L.take j) x = !(decide (x.rd < rd) || x.sq != (ct : Int) || decide (x.gt < 0) || decide (x.tt < 0) || decide (x.bb < 0))) := Lib.hid (by unfold okR; rw [hrd, hct])
      have HCS : Hid (∀ t, (cntT (L.take (j + 1)) t : Int) = if t = x.tt then (ct : Int) + 1 else (cntT (L.take j) t : Int)) := Lib.hid fun t => by rw [HTK.out, cntT_snoc, hct]
      have HRD : Hid (rdL (L.take (j + 1)) = x.rd) := Lib.hid (by rw [HTK.out, rdL_snoc])
      have HR := Lib.hid (rc_range_below hr hb)
      obtain ⟨w1, hw1, hX1, hB1⟩ := rec_box wr x
      have x0 : w1.cell? ⟨wr.heap.size, 0, none⟩ = some (.int .i64 x.sq) := cell_blk hX1 0
      have x1 : w1.cell? ⟨wr.heap.size, 1, none⟩ = some (.int .i64 x.gt) := cell_blk hX1 1
      have x2 : w1.cell? ⟨wr.heap.size, 2, none⟩ = some (.int .i64 x.tt) := cell_blk hX1 2
      have x4 : w1.cell? ⟨wr.heap.size, 4, none⟩ = some (.int .i64 x.rd) := cell_blk hX1 4
      have x5 : w1.cell? ⟨wr.heap.size, 5, none⟩ = some (.int .i32 x.bb) := cell_blk hX1 5
      have hm1 := hm.below hB1
      have lk := hm1.look hx.2.2.1
      rw [hct] at lk
      have HM1 := Lib.hid hm1
      have HZ := Lib.hid (rec_zero wr)
      have HW1 := Lib.hid hw1
      have HB1 := Lib.hid (hb.trans (hB1.mono hb.size))
      have i1 : (0 : Int) ≤ (j : Int) ∧ (j : Int) < n := by omega
      have HXT := Lib.hid hx.2.2.1
      have HCJ := Lib.hid hctj
      have HWR : Hid (wrap64 ((ct : Int) + 1) = (ct : Int) + 1) := Lib.hid (by first | exact (show IntKind.i64.wrap ((ct : Int) + 1) = (ct : Int) + 1 from IntWalk.i64_in _ (by omega)) | (unfold wrap64; omega))
      clear hr hjl hw1 hX1 hB1 hb hm hm1 hxe hct hrd hx hok hctj
      go_upto_region 6 with (first | (refine load_recMid rfl _ rfl g (off + j * 6) x rfl HR.out ?_; simp only [recA]) | (refine store_rec rfl _ _ rfl rfl wr.heap.size x rfl rfl _ zR HZ.out ?_; rw [← HW1.out]) | fail)
      by_cases q1 : x.rd < rd
      · have z1 : decide (x.rd < rd) = true := by simpa using q1
        obtain rfl := HNO.out (by rw [HOKE.out, z1]; rfl)
        go_wp2_with fail
        go_ret
        exact ⟨rfl, HB1.out⟩
      have z1 : decide (x.rd < rd) = false := by simpa using q1
      by_cases q2 : x.sq = (ct : Int)
      rotate_left
      · have z2 : (x.sq != (ct : Int)) = true := by simpa using q2
        obtain rfl := HNO.out (by rw [HOKE.out, z1, z2]; rfl)
        go_wp2_with fail
        go_ret
        exact ⟨rfl, HB1.out⟩
      have z2 : (x.sq != (ct : Int)) = false := by simpa using q2
      clear q1 q2
      by_cases q3 : x.gt < 0
      · have z3 : decide (x.gt < 0) = true := by simpa using q3
        obtain rfl := HNO.out (by rw [HOKE.out, z1, z2, z3]; rfl)
        go_wp2_with fail
        go_ret
        exact ⟨rfl, HB1.out⟩
      have z3 : decide (x.gt < 0) = false := by simpa using q3
      by_cases q4 : x.tt < 0
      · have z4 : decide (x.tt < 0) = true := by simpa using q4
        obtain rfl := HNO.out (by rw [HOKE.out, z1, z2, z3, z4]; rfl)
        go_wp2_with fail
        go_ret
        exact ⟨rfl, HB1.out⟩
      have z4 : decide (x.tt < 0) = false := by simpa using q4
      by_cases q5 : x.bb < 0
      · have z5 : decide (x.bb < 0) = true := by simpa using q5
        obtain rfl := HNO.out (by rw [HOKE.out, z1, z2, z3, z4, z5]; rfl)
        go_wp2_with fail
        go_ret
        exact ⟨rfl, HB1.out⟩
      have z5 : decide (x.bb < 0) = false := by simpa using q5
      have HK1 := Lib.hid (HYE.out (by rw [HOKE.out, z1, z2, z3, z4, z5]; rfl))
      clear q3 q4 q5
      go_wp2_with (first | (at_mapUpdate; refine cnt_put rfl _ _ _ rfl HM1.out (by omega) rfl x.tt (wrap64 ((ct : Int) + 1)) rfl rfl HXT.out (by rw [HWR.out]; have := HCJ.out; exact ⟨by omega, by omega⟩) ?_) | fail)
      intro w3 hm3 hg3
      have HM3 : Hid (CntM w3 w.heap.size (j + 1) (fun t => (cntT (L.take (j + 1)) t : Int))) := Lib.hid (by
        have e1 : (fun t => (cntT (L.take (j + 1)) t : Int)) = (fun t' => if t' = x.tt then (ct : Int) + 1 else (cntT (L.take j) t' : Int)) := funext HCS.out
        rw [e1, ← HWR.out]; exact hm3)
      have HB3 : Hid (Below w.heap.size w w3) := Lib.hid (HB1.out.grown hg3 HB1.out.size (fun k e => by injection e with e; omega))
      clear hm3 hg3
      go_wp2_with fail
      go_roundw
      case rel => exact ⟨j + 1, by omega, by go_num, by rw [HRD.out], HM3.out, HK1.out, HB3.out⟩
      case measure => simp [intOf]; omega
    · obtain rfl : n = j := by omega
      obtain rfl : res = true := by rw [← HRES.out]; exact rightL_yes fun k hk => HK.out k hk (by rw [← HLN.out]; exact hk)
      go_wp2_with fail
      go_ret
      exact ⟨rfl, HB.out⟩

end Go.Proofs.Ytmcphlklknfbmaa
