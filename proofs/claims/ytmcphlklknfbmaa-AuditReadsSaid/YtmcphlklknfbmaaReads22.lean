/- AuditReads returns true for every input and changes nothing: Read returns the documented list or error for arbitrary, modified, extended and truncated bytes, and inverts Put. No condition. -/
import Derived.Test.YtmcphlklknfbmaaRq22
import Derived.Test.YtmcphlklknfbmaaOpen
import Derived.Deep.DeepCutAuto
import Derived.Deep.CutRange
import Derived.Laws.BitsAllLaws
namespace Go.Proofs.Ytmcphlklknfbmaa.auditReads
set_option maxRecDepth 100000
open Go.RowKit Go.WideShapes Go.ChangeShapes Go.ChangeAt

section
variable {H : Type} {enc : TypeId × Value → H} {W : World}
theorem open_bytes_cap {base : Nat} {v : Value} {d : DataW H} {ps : List MemPlace} (hv : Value.okWide Try.prog W .any base 54 v) (h : DataW.Trod enc Try.prog W 0 (fun _ => true) true 54 v d ps) :
    ∃ A l c, v = .slice A l.length c ∧ l.length ≤ c ∧ c ≤ maxLen ∧ IsBytes l ∧ Lies W W.heap.size A (u8s l) := by
  obtain ⟨a0, len, cap, rfl⟩ := okWide_slice Try.underlying54 hv
  obtain ⟨A, l, c, hv2, _, hb, hl⟩ := open_bytes hv h
  injection hv2 with h1 h2 h3
  subst h1 h2 h3
  obtain ⟨fuel, hf⟩ := h
  rcases open_ints Try.underlying54 Try.underlying5 (by kernel_rfl) hf with ⟨hcs, _⟩ | ⟨a, len', cap', zs, hcs, _, hle, hm, _⟩
  · simp [Value.cells] at hcs
    obtain ⟨rfl, e2, rfl⟩ := hcs
    exact ⟨none, l, 0, rfl, by (first | omega | (rw [e2]; exact Nat.le_refl 0)), Nat.zero_le _, hb, hl⟩
  · simp [Value.cells] at hcs
    obtain ⟨rfl, e2, rfl⟩ := hcs
    exact ⟨_, l, _, rfl, by omega, hm, hb, hl⟩
end
theorem u8s_set (l : List Int) (m : Nat) (z : Int) : (u8s l).set m (.int .u8 z) = u8s (l.set m z) := by unfold u8s; rw [List.map_set]
theorem bytes_set {l : List Int} (h : IsBytes l) (m : Nat) {z : Int} (hz : 0 ≤ z ∧ z ≤ 255) : IsBytes (l.set m z) := fun u hu => by
  rcases List.mem_or_eq_of_mem_set hu with hu | rfl
  · exact h u hu
  · exact hz
theorem xor_byte {x : Int} {c : Nat} (hx : 0 ≤ x ∧ x ≤ 255) (hc : c ≤ 255) : 0 ≤ bits .xor .u8 x c ∧ bits .xor .u8 x c ≤ 255 := by
  rw [Go.u8_xor x c (by omega) (by omega) (by omega) (by omega)]
  have : x.toNat ^^^ (c : Int).toNat < 2 ^ 8 := Nat.xor_lt_two_pow (by omega) (by omega)
  omega
theorem u8s_take (l : List Int) (m : Nat) : u8s (l.take m) = (u8s l).take m := by unfold u8s; rw [List.map_take]
/-- A slice of bytes in memory. -/
def BS (w : World) (v : Value) (l : List Int) : Prop := ∃ A c, v = .slice A l.length c ∧ l.length ≤ c ∧ c ≤ maxLen ∧ IsBytes l ∧ l.length ≤ 90000 ∧ Lies w w.heap.size A (u8s l)
theorem BS.later {w w' : World} {v : Value} {l : List Int} (h : BS w v l) (hb : Below w.heap.size w w') : BS w' v l := by
  obtain ⟨A, c, h1, h2, h3, h4, h5, h6⟩ := h
  exact ⟨A, c, h1, h2, h3, h4, h5, (h6.below hb).more hb.size⟩
theorem BS.own {w : World} {base n : Nat} {v : Value} {l : List Int} (h : w.ownsRow base 5 1 v n (u8s l)) (hn : l.length = n) (hb : IsBytes l) (hm : l.length ≤ 90000) : BS w v l := by
  obtain ⟨A, c, e, h1, h2, _, hl, _⟩ := Lies.of_own h
  exact ⟨A, c, by rw [hn]; exact e, by omega, h2, hb, hm, hl⟩
theorem BS.cut {w : World} {A : Option Addr} {n c m : Nat} {l : List Int} (h : BS w (.slice A n c) l) (hm : m ≤ n) : BS w (.slice A m c) (l.take m) := by
  obtain ⟨A', c', h1, h2, h3, h4, h5, h6⟩ := h
  injection h1 with e1 e2 e3
  subst e1 e2 e3
  have hl : (l.take m).length = m := by rw [List.length_take]; omega
  refine ⟨A, c, by rw [hl], by omega, h3, fun u hu => h4 u (List.mem_of_mem_take hu), by omega, ?_⟩
  rw [u8s_take]
  intro hp
  obtain ⟨b, off, e, hb, hc⟩ := h6 (by rw [List.length_take] at hp; omega)
  exact ⟨b, off, e, hb, fun j u hu => hc j u (by
    rw [List.getElem?_take] at hu
    split at hu
    · exact hu
    · cases hu)⟩
theorem step_append_B {w : World} {ops : Array Oper} {o : Oper} {a : Act} {K : Act → World → Prop} {Q : Exit → Act → World → Prop} {E : Prop} (hgd : o.guard = none) (s x : Operand)
    (ho : o.op = .call { callee := .builtin .append, args := #[s, x], argTypes := #[54, 54] })
    (base : Nat) (v : Value) (n : Nat) (xs : List Value) (hs : a.eval s = v) (hown : w.ownsRow base 5 1 v n xs)
    (vx : Value) (l : List Int) (hx : a.eval x = vx) (hv : BS w vx l) (hsz : n ≤ 100000) (hbase : base ≤ w.heap.size) (n' : Nat) (hn' : n + l.length = n')
    (h : ∀ A c w', w'.ownsRow base 5 1 (.slice A n' c) n' (xs ++ u8s l) → w.grownBy w' v.ownBlock → Below base w w' → K (a.put o.dst (.slice A n' c)) w') :
    if Region.wanted o (yielded ops a.tmps) = true then Oper.wp Try.prog o a w K Q else E := by
  have hw : Region.wanted o (yielded ops a.tmps) = true := by simp [Region.wanted, hgd]
  rw [if_pos hw]
  subst hn'
  obtain ⟨A, c, rfl, _, _, _, h5, h6⟩ := hv
  obtain ⟨i0, hi, hz0, hz1, hz2⟩ := info_parts inf_u8
  have fin : ∀ v' w', w'.ownsRow base 5 1 v' (n + l.length) (xs ++ u8s l) → w.grownBy w' v.ownBlock → K (a.put o.dst v') w' := fun v' w' ho' hg => by
    have hb : Below base w w' := (Below.refl _ _).grown hg hbase (fun k hk => (hown.lt k hk).1)
    obtain ⟨A', c', e, _⟩ := Lies.of_own ho'
    subst e
    exact h A' c' w' ho' hg hb
  cases A with
  | none =>
    have hl0 : l = [] := by
      rcases Nat.eq_zero_or_pos l.length with h0 | h0
      · exact List.eq_nil_of_length_eq_zero h0
      · obtain ⟨b, off, e, _⟩ := h6 (by simpa [u8s] using h0)
        cases e
    subst hl0
    have hrun := append_none (ty := o.type) Try.underlying54 inf_u8 hown c
    unfold Oper.wp
    simp [execOp, ho, resolve, invoke, builtin, hs, hx, hrun, Result.andThen]
    exact fin v w (by simpa [u8s] using hown) (World.grownBy.refl w _)
  | some ad =>
    obtain ⟨v', w', hr, h2, h3, _⟩ := run_append_own_at (P := Try.prog) w base 54 o.type 5 i0 _ 1 1 Try.underlying54 hi hz0 hz1 hz2 rfl (by decide) v n xs hown ad l.length c (u8s l) (by simp [u8s]) (fun j u hu => by
      obtain ⟨b, off, e, hb, hc⟩ := h6 (by have := (List.getElem?_eq_some_iff.1 hu).1; omega)
      injection e with e; subst e
      have ea : (⟨b, off, none⟩ : Addr).add j = ⟨b, off + j, none⟩ := by unfold Addr.add; split <;> simp_all
      rw [ea]
      exact hc j u hu) (one_u8 l) (by unfold maxLen; omega) (by omega) hbase
    unfold Oper.wp execOp
    simp only [ho, resolve, invoke, builtin, Sem.run_bind, Sem.run_pure, Result.andThen_ok, List.map_toArray, List.map_cons, List.map_nil, hs, hx, hr]
    exact fin v' w' h2 h3
theorem putL_pos {L : List RecX} (h : rightL L = true) : 0 < (putL L).length := by
  unfold putL recsB
  rw [h]
  have e : encs [L.length] = enc L.length := by simp [encs]
  simp only [if_true, List.length_append, e, enc_length]
  omega
theorem putL_len {L : List RecX} (hn : L.length ≤ 30) (hk : ∀ x ∈ L, RcOk x) : (putL L).length ≤ 70000 := by
  unfold putL
  split
  · rename_i h
    have h1 := outB_len (right_pos h hk) (by omega) L.length
    unfold outB at h1
    rwa [List.take_length] at h1
  · simp
theorem readQ_len {l : List Int} (hm : l.length ≤ 90000) : (readQ l).1.length ≤ 100000 := by
  unfold readQ
  split
  · exact takeR_len hm
  · exact Nat.zero_le _

set_option maxRecDepth 100000 in
set_option maxHeartbeats 16000000 in
theorem walk {w : World} {A0 A4 : Option Addr} {raw more : List Int} {cr cm : Nat} {v1 : Value} {Q : List (List Int)} (at' c : Nat)
    (hr1 : raw.length ≤ cr) (hr2 : cr ≤ maxLen) (hr3 : IsBytes raw) (hr4 : Lies w w.heap.size A0 (u8s raw)) (h1 : RowsV [.u8, .u8, .u8, .u8] w w.heap.size v1 Q) (hat : at' ≤ 65535) (hc : c ≤ 255)
    (hm1 : more.length ≤ cm) (hm2 : cm ≤ maxLen) (hm3 : IsBytes more) (hm4 : Lies w w.heap.size A4 (u8s more)) :
    Calls Try.prog 9 #[.slice A0 raw.length cr, v1, .int .u16 at', .int .u8 c, .slice A4 more.length cm] w fun e w' => e = .returned (.bool true) ∧ Below w.heap.size w w' := by
  have HQ := Lib.hid h1
  obtain ⟨A1, c1, e1, hj4, hj5, hj6⟩ := h1
  clear hj4 hj5 hj6
  have HBR : Hid (raw.length ≤ 80 → BS w (.slice A0 raw.length cr) raw) := Lib.hid (fun h => ⟨A0, cr, rfl, hr1, hr2, hr3, by omega, hr4⟩)
  have HBM : Hid (more.length ≤ 8 → BS w (.slice A4 more.length cm) more) := Lib.hid (fun h => ⟨A4, cm, rfl, hm1, hm2, hm3, by omega, hm4⟩)
  clear hr1 hr2 hr3 hr4 hm1 hm2 hm3 hm4
  obtain ⟨n0, hn0⟩ : ∃ n, raw.length = n := ⟨_, rfl⟩
  obtain ⟨n, hn⟩ : ∃ n, Q.length = n := ⟨_, rfl⟩
  obtain ⟨n4, hn4⟩ : ∃ n, more.length = n := ⟨_, rfl⟩
  rw [hn0] at HBR ⊢
  rw [hn] at e1
  rw [hn4] at HBM ⊢
  subst e1
  have HLQ := Lib.hid hn; have HL4 := Lib.hid hn4; have HL0 := Lib.hid hn0
  clear hn0 hn hn4
  by_cases m0 : n0 ≤ 80
  case neg =>
    have g0 : (80 : Int) < (n0 : Int) := by omega
    clear m0
    go_enter Try.func9, Try.ntmps9
    go_wp2_with fail
    refine (known22_any w).mono ?_
    rintro e w1 ⟨rfl, hb1⟩
    have HB1 := Lib.hid hb1
    clear hb1
    go_wp2_with fail
    go_ret
    exact ⟨rfl, HB1.out⟩
  by_cases m1 : n ≤ 20
  case neg =>
    have g0 : ¬ ((80 : Int) < (n0 : Int)) := by omega
    have g1 : (20 : Int) < (n : Int) := by omega
    clear m0 m1
    go_enter Try.func9, Try.ntmps9
    go_wp2_with fail
    refine (known22_any w).mono ?_
    rintro e w1 ⟨rfl, hb1⟩
    have HB1 := Lib.hid hb1
    clear hb1
    go_wp2_with fail
    go_ret
    exact ⟨rfl, HB1.out⟩
  by_cases m4 : n4 ≤ 8
  case neg =>
    have g0 : ¬ ((80 : Int) < (n0 : Int)) := by omega
    have g1 : ¬ ((20 : Int) < (n : Int)) := by omega
    have g4 : (8 : Int) < (n4 : Int) := by omega
    clear m0 m1 m4
    go_enter Try.func9, Try.ntmps9
    go_wp2_with fail
    refine (known22_any w).mono ?_
    rintro e w1 ⟨rfl, hb1⟩
    have HB1 := Lib.hid hb1
    clear hb1
    go_wp2_with fail
    go_ret
    exact ⟨rfl, HB1.out⟩
  have g0 : ¬ ((80 : Int) < (n0 : Int)) := by omega
  have g1 : ¬ ((20 : Int) < (n : Int)) := by omega
  have g4 : ¬ ((8 : Int) < (n4 : Int)) := by omega
  have HRAW := Lib.hid (HBR.out m0); have HMORE := Lib.hid (HBM.out m4)
  have HM1 := Lib.hid m1; have HM4 := Lib.hid m4
  clear m0 m1 m4 HBR HBM
  have hsg := smG_of (P := Q) (by obtain ⟨_, _, _, _, _, h⟩ := HQ.out; exact h) (by have := HM1.out; rw [HLQ.out]; omega)
  obtain ⟨L, hL⟩ : ∃ L, (smL Q).1 = L := ⟨_, rfl⟩
  have hlen := hsg.len; have hright := hsg.right; have hok := hsg.ok
  rw [hL] at hlen hright hok
  rw [HLQ.out] at hlen
  have HLL := Lib.hid hlen; have HRG := Lib.hid hright; have HOK := Lib.hid hok; have HL := Lib.hid hL
  have HBACK := Lib.hid (read_back hright hok (by have := HM1.out; omega))
  have HPB := Lib.hid (putL_bytes L)
  have hp0 := putL_pos hright
  have hp1 := putL_len (by have := HM1.out; omega) hok
  have HPUR := Lib.hid (fun (W : World) (v : Value) (h : RcV W v L) => refAPut_any h (by rw [HLL.out]; have := HM1.out; omega) HOK.out)
  have HPUP := Lib.hid (fun (W : World) (v : Value) (h : RcV W v L) => auditPut_any h (by rw [HLL.out]; have := HM1.out; omega) HOK.out)
  obtain ⟨B, hB⟩ : ∃ B, putL L = B := ⟨_, rfl⟩
  rw [hB] at HBACK HPB HPUR HPUP hp0 hp1
  obtain ⟨nb, hnb⟩ : ∃ nb, B.length = nb := ⟨_, rfl⟩
  have HNB := Lib.hid hnb
  rw [hnb] at hp0 hp1
  have HRD : Hid (∀ W v l, BS W v l → Calls Try.prog 43 #[v] W (ReadMade W (readQ l))) := Lib.hid (fun W v l h => by
    obtain ⟨A, c, rfl, _, _, h4, h5, h6⟩ := h
    exact readB_any h5 h6 h4)
  have HRF : Hid (∀ W v l, BS W v l → Calls Try.prog 44 #[v] W (ReadMade W (readQ l))) := Lib.hid (fun W v l h => by
    obtain ⟨A, c, rfl, h2, h3, h4, h5, h6⟩ := h
    exact refARead_any h5 h2 h3 h6 h4)
  clear hsg hlen hright hok hL hB hnb
  go_enter Try.func9, Try.ntmps9
  go_wp2_with fail
  refine (known22_any w).mono ?_
  rintro e w1 ⟨rfl, hb1⟩
  have HSO := Lib.hid (some22_any ((HQ.out.below hb1).more hb1.size) (by have := HM1.out; rw [HLQ.out]; omega))
  rw [HL.out] at HSO
  have HB1 := Lib.hid hb1
  clear hb1
  go_wp2_with fail
  refine HSO.out.mono ?_
  rintro e w2 ⟨v2, rfl, o2, b2⟩
  obtain ⟨A2, c2, e2⟩ := o2.shape
  rw [HLL.out] at e2
  subst e2
  have HRX := Lib.hid o2.rc
  have HB2 := Lib.hid (nextB HB1.out b2)
  have HP2 := Lib.hid (HPUR.out _ _ o2.rc)
  clear o2 b2 g0 g1 g4
  go_wp2_with fail
  refine HP2.out.mono ?_
  rintro e w3 ⟨v3, rfl, o3, b3⟩
  rw [HNB.out] at o3
  obtain ⟨gb, cb, e3, hgb, hgb2⟩ := World.ownsRow.form o3 hp0
  subst e3
  have HBB := Lib.hid (BS.own o3 HNB.out HPB.out (by rw [HNB.out]; omega))
  have HB3 := Lib.hid b3
  have HBW3 := Lib.hid (nextB HB2.out b3)
  have HLB : Hid (Lies w3 w3.heap.size (some ⟨gb, 0, none⟩) (u8s B)) := Lib.hid (by
    obtain ⟨A', c', e, _, _, _, hl, _⟩ := Lies.of_own o3
    injection e with e1 _ _
    rw [← e1] at hl
    exact hl)
  clear o3 b3 hgb hgb2
  go_wp2_with (at_builtin; go_must (refine wpList_append_lies rfl _ _ rfl w3.heap.size _ _ _ rfl (World.ownsRow_nil _ _ _ _) w3.heap.size (some ⟨gb, 0, none⟩) nb cb B rfl HNB.out HLB.out ?c1 ?c2 ?_))
  case c1 => omega
  case c2 => omega
  intro v4 w4 o4 b4
  have o4' : w4.ownsRow w3.heap.size 5 1 v4 nb (u8s B) := by simpa [u8s] using o4
  obtain ⟨gd, cd, e4, hgd, hgd2⟩ := World.ownsRow.form o4' hp0
  subst e4
  obtain ⟨m, hm⟩ : ∃ m, at' % nb = m := ⟨_, rfl⟩
  have hm2 : m < nb := by rw [← hm]; exact Nat.mod_lt _ hp0
  have hmi : (at' : Int) % (nb : Int) = (m : Int) := by rw [← hm]; omega
  have hmB : m < B.length := by rw [HNB.out]; exact hm2
  have hcell : w4.cell? ⟨gd, m, none⟩ = some (.int .u8 B[m]) := by
    rw [o4'.cellAt m (by omega)]
    simp [u8s, hmB]
  have hfr := o4'.frozenAt m
  have hx := HPB.out _ (List.getElem_mem hmB)
  obtain ⟨x, hxe⟩ : ∃ x, B[m] = x := ⟨_, rfl⟩
  rw [hxe] at hcell hx
  have hz := xor_byte hx hc
  have ho5 := (o4'.stored m (.int .u8 (bits .xor .u8 x c)))
  rw [u8s_set] at ho5
  obtain ⟨w5, hw5⟩ : ∃ y, y = w4.setCell ⟨gd, m, none⟩ (.int .u8 (bits .xor .u8 x c)) := ⟨_, rfl⟩
  rw [← hw5] at ho5
  have hb35 : Below w3.heap.size w3 w5 := b4.grown ho5.2 b4.size (fun k e => by injection e with e; omega)
  have HW5 := Lib.hid hw5
  have HBD := Lib.hid (BS.own ho5.1 (by rw [List.length_set, HNB.out]) (bytes_set HPB.out m hz) (by rw [List.length_set, HNB.out]; omega))
  have HB5 := Lib.hid (HBB.out.later hb35)
  have HRX5 := Lib.hid ((HRX.out.later HB3.out).later hb35)
  have HBW5 := Lib.hid (nextB HBW3.out hb35)
  have HRAW5 := Lib.hid (HRAW.out.later HBW5.out)
  have HMORE5 := Lib.hid (HMORE.out.later HBW5.out)
  have HMI := Lib.hid hmi
  have i1 : (0 : Int) ≤ (m : Int) ∧ (m : Int) < (nb : Int) := by omega
  have i2 : ¬ ((nb : Int) = 0) := by omega
  have i3 : ((nb : Int) == 0) = false := by rw [beq_eq_false_iff_ne]; exact i2
  have i4 : (0 : Int) < (nb : Int) := by omega
  clear o4 o4' b4 hgd hgd2 hm hx hz ho5 hw5 hb35 hxe hmB HRAW HMORE HBB HRX
  have HB5D : Hid (BS w5.drew (.slice (some ⟨gb, 0, none⟩) nb cb) B) := Lib.hid (HB5.out.later ⟨rfl, rfl, rfl, Nat.le_refl _, fun _ _ => rfl⟩)
  have HMD : Hid (BS w5.drew (.slice A4 n4 cm) more) := Lib.hid (HMORE5.out.later ⟨rfl, rfl, rfl, Nat.le_refl _, fun _ _ => rfl⟩)
  have HN4 : Hid (nb + more.length = nb + n4) := Lib.hid (by rw [HL4.out])
  have HNBZ : Hid (0 + B.length = nb) := Lib.hid (by rw [HNB.out]; omega)
  have HML : Hid (nb ≤ 70000) := Lib.hid hp1
  have HN8 : Hid ((B ++ more).length = nb + n4) := Lib.hid (by rw [List.length_append, HNB.out, HL4.out])
  have HBM8 : Hid (IsBytes (B ++ more)) := Lib.hid (HPB.out.append (by obtain ⟨_, _, _, _, _, h, _⟩ := HMORE5.out; exact h))
  go_upto_region 9 with (fail)
  rw [← HW5.out]
  have i5 : ¬ (nb = 0) := by omega
  have htm : (IntKind.i64.wrap (at' : Int)).tmod (nb : Int) = (m : Int) := by
    rw [IntWalk.i64_in (at' : Int) (by omega), Int.tmod_eq_emod_of_nonneg (by omega)]; exact HMI.out
  clear hcell hfr
  have hmc : m ≤ cb := by
    obtain ⟨A', c', e, h2, _⟩ := HB5.out
    injection e with _ _ e3
    rw [HNB.out] at h2
    omega
  have hmci : (m : Int) ≤ (cb : Int) := by omega
  clear hmi
  go_cut [68, 69, 70] from 54 to 70 (fun s l i wx => ∃ zb A5 c5, s = .slice (some ⟨zb, 0, none⟩) 5 5 ∧ l = .int .i64 5 ∧ i = .int .i64 0 ∧ wx.heap[zb]? = some (.cells #[.slice A0 n0 cr, .slice (some ⟨gb, 0, none⟩) nb cb, .slice (some ⟨gd, 0, none⟩) nb cd, .slice (some ⟨gb, 0, none⟩) m cb, .slice A5 (nb + n4) c5] 54 (0, 0)) ∧ BS wx (.slice A5 (nb + n4) c5) (B ++ more) ∧ Below w5.heap.size w5 wx)
  case first =>
    go_region_law (first
      | (refine step_append_B (w := w5.drew) ?g1 (.const (.slice none 0 0)) (.tmp 64) ?g2 w5.heap.size (.slice none 0 0) 0 [] ?g3 ?g4 (.slice (some ⟨gb, 0, none⟩) nb cb) B ?g5 HB5D.out (Nat.zero_le _) (Nat.le_refl _) nb HNBZ.out ?_
         case g1 => rfl
         case g2 => rfl
         case g3 => rfl
         case g4 => exact World.ownsRow_nil _ _ _ _
         case g5 => go_simp
         intro A6 c6 w6 o6 g6 b6
         have HO6 := Lib.hid o6; have HB6 := Lib.hid b6
         clear o6 g6 b6)
      | (refine step_append_B (w := w6) ?g1 (.tmp 65) (.tmp 66) ?g2 w5.heap.size (.slice A6 nb c6) nb (u8s B) ?g3 HO6.out (.slice A4 n4 cm) more ?g5 (HMD.out.later HB6.out) (Nat.le_trans HML.out (by decide)) HB6.out.size (nb + n4) HN4.out ?_
         case g1 => rfl
         case g2 => rfl
         case g3 => go_simp
         case g5 => go_simp
         intro A7 c7 w7 o7 g7 b7
         have HO7 := Lib.hid o7; have HB7 := Lib.hid (HB6.out.trans b7)
         clear o7 g7 b7))
    all_goals
      go_wp2_with fail
      go_meet
      refine ⟨w7.heap.size, A7, c7, ?e1, ?e2, ?e3, ?e4, ?e5, ?e6⟩
      case e1 => go_simp
      case e2 => go_simp
      case e3 => go_simp
      case e5 => exact (BS.own (by rw [show u8s (B ++ more) = u8s B ++ u8s more from List.map_append ..]; exact HO7.out) HN8.out HBM8.out (by rw [HN8.out]; have := HML.out; have := HM4.out; omega)).later (below_alloc _ _)
      case e6 => exact nextB ((show Below w5.heap.size w5 w5.drew from ⟨rfl, rfl, rfl, Nat.le_refl _, fun _ _ => rfl⟩).trans HB7.out) (below_alloc _ _)
      case e4 => exact heap_alloc_new _ _
  case rest =>
    clear htm hmc hmci i5
    obtain ⟨zb, A5, c5, rfl, rfl, rfl, hzb, hbs5, hbx⟩ := hcut
    have HZ : Hid (∀ j, j < 5 → ∃ A k c l, wc.cell? ⟨zb, j, none⟩ = some (.slice A k c) ∧ BS wc (.slice A k c) l) := Lib.hid (fun j hj => by
      rcases (by omega : j = 0 ∨ j = 1 ∨ j = 2 ∨ j = 3 ∨ j = 4) with rfl | rfl | rfl | rfl | rfl
      · exact ⟨_, _, _, raw, cell_blk hzb 0, HRAW5.out.later hbx⟩
      · exact ⟨_, _, _, B, cell_blk hzb 1, HB5.out.later hbx⟩
      · exact ⟨_, _, _, _, cell_blk hzb 2, HBD.out.later hbx⟩
      · exact ⟨_, _, _, _, cell_blk hzb 3, (HB5.out.later hbx).cut (by omega)⟩
      · exact ⟨_, _, _, _, cell_blk hzb 4, hbs5⟩)
    have HRX6 := Lib.hid (HRX5.out.later hbx)
    have HBW6 := Lib.hid (nextB HBW5.out hbx)
    clear hzb hbs5 hbx
    go_wp2_with fail
    go_loopw [70] (fun i wr => ∃ j : Nat, j ≤ 5 ∧ i = .int .i64 j ∧ Below wc.heap.size wc wr) (fun i _ => 5 - (intOf i).toNat)
    case atStart => exact ⟨0, by omega, rfl, Below.refl _ _⟩
    case round =>
      obtain ⟨j, hj, rfl, hb⟩ := hrel
      have HB := Lib.hid hb
      by_cases hj5 : j < 5
      · obtain ⟨Az, kz, cz, lz, dz, hbz⟩ := HZ.out j hj5
        have d1 : wr.cell? ⟨zb, j, none⟩ = some (.slice Az kz cz) := (hb.cell (p := ⟨zb, j, none⟩) (World.block_lt_of_cell? wc _ dz)).trans dz
        have j1 : (0 : Int) ≤ (j : Int) ∧ (j : Int) < 5 := by omega
        have HR1 := Lib.hid (HRD.out wr _ lz (hbz.later hb))
        have HR2 := Lib.hid (fun w' (h : Below wr.heap.size wr w') => HRF.out w' _ lz ((hbz.later hb).later h))
        have hql : (readQ lz).1.length ≤ 100000 := readQ_len (by obtain ⟨_, _, _, _, _, _, h, _⟩ := hbz; exact h)
        obtain ⟨ql, hq⟩ : ∃ q, (readQ lz).1 = q := ⟨_, rfl⟩
        obtain ⟨qe, hqe⟩ : ∃ q, (readQ lz).2 = q := ⟨_, rfl⟩
        unfold ReadMade at HR1 HR2
        rw [hq, hqe] at HR1 HR2
        rw [hq] at hql
        have HQL := Lib.hid hql
        have z1 : (qe != qe) = false := bne_self_eq_false _
        clear dz hbz hq hqe hql hb
        go_wp2_with fail
        refine HR1.out.mono ?_
        rintro e w7 ⟨v7, rfl, o7, b7⟩
        obtain ⟨A7, c7, e7⟩ := o7.shape
        have HO7 := Lib.hid o7
        have HR7 := Lib.hid (HR2.out w7 b7)
        have HB7 := Lib.hid (nextB HB.out b7)
        clear o7 b7
        obtain ⟨k7, hk7⟩ : ∃ k, ql.length = k := ⟨_, rfl⟩
        rw [hk7] at e7
        subst e7
        clear hk7
        go_wp2_with fail
        refine HR7.out.mono ?_
        rintro e w8 ⟨v8, rfl, o8, b8⟩
        obtain ⟨A8, c8, e8⟩ := o8.shape
        have HSA := Lib.hid (sameAudit_any (HO7.out.rc.later b8) o8.rc HQL.out)
        have HB8 := Lib.hid (nextB HB7.out b8)
        obtain ⟨k8, hk8⟩ : ∃ k, ql.length = k := ⟨_, rfl⟩
        rw [hk8] at e8
        subst e8
        clear o8 b8 hk8
        go_wp2_with fail
        refine HSA.out.mono ?_
        rintro e w9 ⟨rfl, b9⟩
        have HB9 := Lib.hid (nextB HB8.out b9)
        clear b9
        go_wp2_with fail
        go_roundw
        case rel => exact ⟨j + 1, by omega, by go_num, HB9.out⟩
        case measure => simp [intOf]; omega
      · obtain rfl : j = 5 := by omega
        rw [show ((5 : Nat) : Int) = 5 from rfl]
        have HRX7 := Lib.hid (HRX6.out.later hb)
        have HP7 := Lib.hid (HPUP.out wr _ HRX7.out)
        have HBF := Lib.hid (nextB HBW6.out hb)
        clear hb
        go_wp2_with fail
        refine HP7.out.mono ?_
        rintro e w7 ⟨v7, rfl, o7, b7⟩
        rw [HNB.out] at o7
        have HR8 := Lib.hid (HRD.out w7 v7 B (BS.own o7 HNB.out HPB.out (by rw [HNB.out]; have := HML.out; omega)))
        rw [HBACK.out] at HR8
        unfold ReadMade at HR8
        obtain ⟨g7, c7, e7, _, _⟩ := World.ownsRow.form o7 hp0
        subst e7
        have HRX8 := Lib.hid (HRX7.out.later b7)
        have HB7 := Lib.hid (nextB HBF.out b7)
        clear o7 b7
        go_wp2_with fail
        refine HR8.out.mono ?_
        rintro e w8 ⟨v8, rfl, o8, b8⟩
        have HSA := Lib.hid (sameAudit_any (HRX8.out.later b8) o8.rc (by rw [HLL.out]; have := HM1.out; omega))
        have HB8 := Lib.hid (nextB HB7.out b8)
        obtain ⟨A8, c8, e8⟩ := o8.shape
        have e8 : v8 = .slice A8 L.length c8 := e8
        rw [HLL.out] at e8
        subst e8
        clear o8 b8
        go_wp2_with fail
        refine HSA.out.mono ?_
        rintro e w9 ⟨rfl, b9⟩
        have HB9 := Lib.hid (nextB HB8.out b9)
        clear b9
        go_wp2_with fail
        go_ret
        exact ⟨rfl, HB9.out⟩

/- The claim. -/

set_option maxRecDepth 100000 in
theorem lifted (os : Os) (started : os.Started) (H : Type) (enc : TypeId × Value → H) :
    ReturnsInHanded {} Try.checked os 9 .any (Rows.auditReadsSpec.pre6 enc Try.prog Try.f9 Rows.auditReadsRow.domain false) (Rows.auditReadsSpec.post enc Try.prog Try.f9 false true false false) := by
  refine returnsInHanded_of_change (C := Try.checked) ownKnobs started (by kernel_rfl) Try.func9
    (ChangeSpec.witness6 (enc := enc) (C := Try.checked) false ⟨#[], #[.slice none 0 0, .slice none 0 0, .int .u16 0, .int .u8 0, .slice none 0 0], []⟩ 8 (by kernel_rfl) (by kernel_rfl) (by kernel_rfl) (by kernel_rfl)) ?_
  intro W base args ds gs before hval hW _ _
  refine law_contract rfl rfl (fun ds h => by match ds, h with | [d1, d2, d3, d4, d5], _ => rfl) (by decide +kernel) hW ?_
  obtain ⟨p, q, hA0, _⟩ := hW
  have hA : DataW.TrodAll enc Try.prog W 0 (fun _ => true) true Try.f9.params.toList args.toList ds p := hA0
  have hval' : ∀ (j : Nat) t v, Try.f9.params[j]? = some t → args[j]? = some v → Value.okWide Try.prog W .any base t v := hval
  rw [Try.params9] at hA hval'
  obtain ⟨v0, vs0, d0, ds0, p0, q0, hargs, rfl, rfl, h0, r0⟩ := trodAll_cons hA
  obtain ⟨v1, vs1, d1, ds1, p1, q1, rfl, rfl, rfl, h1, r1⟩ := trodAll_cons r0
  obtain ⟨v2, vs2, d2, ds2, p2, q2, rfl, rfl, rfl, h2, r2⟩ := trodAll_cons r1
  obtain ⟨v3, vs3, d3, ds3, p3, q3, rfl, rfl, rfl, h3, r3⟩ := trodAll_cons r2
  obtain ⟨v4, vs4, d4, ds4, p4, q4, rfl, rfl, rfl, h4, r4⟩ := trodAll_cons r3
  obtain ⟨rfl, rfl, rfl⟩ := trodAll_nil r4
  obtain rfl : args = #[v0, v1, v2, v3, v4] := by cases args; simp_all
  obtain ⟨A0, l0, c0, rfl, m0, n0, y0, h0⟩ := open_bytes_cap (hval' 0 _ v0 rfl rfl) h0
  obtain ⟨l1, h1, m1⟩ := open_rows4 (hval' 1 _ v1 rfl rfl) h1
  obtain ⟨z2, rfl, rfl, rfl, w2⟩ := open_int Try.underlying80 (hval' 2 _ v2 rfl rfl) h2
  have b2 : 0 ≤ z2 ∧ z2 ≤ 65535 := by simpa [Lit.wf, IntKind.min, IntKind.max, IntKind.signed, IntKind.bits] using w2
  obtain ⟨a2, rfl⟩ : ∃ n : Nat, z2 = n := ⟨z2.toNat, by omega⟩
  obtain ⟨z3, rfl, rfl, rfl, w3⟩ := open_int Try.underlying5 (hval' 3 _ v3 rfl rfl) h3
  have b3 : 0 ≤ z3 ∧ z3 ≤ 255 := by simpa [Lit.wf, IntKind.min, IntKind.max, IntKind.signed, IntKind.bits] using w3
  obtain ⟨a3, rfl⟩ : ∃ n : Nat, z3 = n := ⟨z3.toNat, by omega⟩
  obtain ⟨A4, l4, c4, rfl, m4, n4, y4, h4⟩ := open_bytes_cap (hval' 4 _ v4 rfl rfl) h4
  exact walk a2 a3 m0 n0 y0 h0 h1 (by omega) (by omega) m4 n4 y4 h4

theorem proved : Rows.AuditReadsSaid :=
  OpenClaim.holds_of_wide 9 Try.f9 rfl rfl rfl rfl rfl rfl rfl ⟨rfl, rfl, rfl, rfl, rfl⟩ rfl rfl rfl rfl rfl (by kernel_rfl) Try.func9 (by kernel_rfl)
    (of_decide_eq_true (by kernel_rfl)) (by unfold Func.isWrapper; first | (rw [if_pos (by decide +kernel)]; kernel_rfl) | (rw [if_neg (by decide +kernel)]; exact ⟨rfl, rfl⟩))
    (fun os started H enc _ => lifted os started H enc)

end Go.Proofs.Ytmcphlklknfbmaa.auditReads
