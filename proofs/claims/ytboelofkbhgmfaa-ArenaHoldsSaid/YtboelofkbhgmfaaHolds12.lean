/- ArenaHolds returns true for every input and changes nothing: setting references changes their values only, not their labels, and not other references. No condition. -/
import Derived.Test.YtboelofkbhgmfaaOpen12
import Derived.Test.YtboelofkbhgmfaaArg10
import Derived.Test.YtboelofkbhgmfaaBytV
import Derived.IntWalk
namespace Go.Proofs.Ytboelofkbhgmfaa.arenaHolds
set_option maxRecDepth 100000
open Go.RowKit Go.ChangeShapes Go.WideShapes Go.ChangeAt

/-- The references of a list of values. -/
def rowR (W : List Int) : List RefX := (List.range W.length).map fun j => ⟨((j % 16 : Nat) : Int), W.getD j 0⟩
theorem rowR_length (W : List Int) : (rowR W).length = W.length := by simp [rowR]
theorem rowR_get {W : List Int} {j : Nat} (h : j < W.length) : (rowR W)[j]? = some ⟨((j % 16 : Nat) : Int), W[j]⟩ := by simp [rowR, h]
theorem rowR_snoc (W : List Int) (x : Int) : rowR (W ++ [x]) = rowR W ++ [⟨((W.length % 16 : Nat) : Int), x⟩] := by
  unfold rowR
  rw [List.length_append, List.length_singleton, List.range_succ, List.map_append]
  congr 1
  · apply List.map_congr_left
    intro j hj
    have := List.mem_range.1 hj
    simp [List.getElem?_append_left this]
  · simp
theorem rowR_set (W : List Int) (k : Nat) (x : Int) (h : k < W.length) : (rowR W).set k ⟨((k % 16 : Nat) : Int), x⟩ = rowR (W.set k x) := by
  apply List.ext_getElem?
  intro j
  rw [List.getElem?_set]
  by_cases hj : j < W.length
  · rw [rowR_get hj, rowR_get (W := W.set k x) (by simpa using hj)]
    by_cases e : k = j
    · subst e; simp [rowR_length, h]
    · simp [e]
  · have h1 : (rowR W)[j]? = none := List.getElem?_eq_none (by rw [rowR_length]; omega)
    have h2 : (rowR (W.set k x))[j]? = none := List.getElem?_eq_none (by rw [rowR_length]; simp; omega)
    rw [h1, h2, if_neg (by omega)]
theorem one_mk (R : List RefX) (x : RefX) (h : R.length < 30) : mkB [30] [R] 0 = true ∧ mkId [30] [R] 0 = (R.length : Nat) ∧ mkL [30] [R] 0 x = [R ++ [x]] := by
  have h0 : mkB [30] [R] 0 = true := by simp [mkB, cntZ, quoZ]; omega
  exact ⟨h0, by unfold mkId; rw [h0]; simp [cntZ], by unfold mkL; rw [h0]; simp⟩
theorem one_in (R : List RefX) (j : Nat) (hj : j < 65536) : isIn [R] (j : Int) = decide (j < R.length) ∧ (∀ x d, R[j]? = some x → itmZ [R] (j : Int) d = x ∧ ∀ f, setZ [R] (j : Int) f = [R.set j (f x)]) := by
  have h0 : (0 : Int) ≤ (j : Int) := by omega
  have e1 : labelZ (j : Int) = ((0 : Nat) : Int) := by rw [labelZ_pos h0]; omega
  have e2 : numberZ (j : Int) = (j : Nat) := by rw [numberZ_pos h0]; omega
  have hv : validB (j : Int) (([R] : List (List RefX)).length : Nat) = true := by
    unfold validB; rw [e1, decide_eq_true h0]; rfl
  have hi : isIn [R] (j : Int) = decide (j < R.length) := by
    unfold isIn
    rw [hv, e1, e2, cntZ_in (by simp : 0 < [R].length), Bool.true_and]
    simp
  refine ⟨hi, fun x d hx => ?_⟩
  have hl := (List.getElem?_eq_some_iff.1 hx).1
  have hix : isIn [R] (j : Int) = true := by rw [hi]; simpa using hl
  have hg : R[j] = x := (List.getElem?_eq_some_iff.1 hx).2
  refine ⟨?_, fun f => ?_⟩
  · unfold itmZ
    rw [if_pos hix, e1, e2]
    simp [hl, hg]
  · unfold setZ
    rw [if_pos hix, e1, e2]
    simp only [Int.toNat_natCast, List.getD_cons_zero, List.set_cons_zero]
    congr 1
    apply List.ext_getElem?
    intro i
    rw [List.getElem?_modify, List.getElem?_set]
    by_cases e : j = i
    · subst e; simp [hl, hg]
    · simp [e]
theorem one_neg (R : List RefX) (f : RefX → RefX) : isIn [R] (-1) = false ∧ setZ [R] (-1) f = [R] := by
  have h : isIn [R] (-1) = false := by
    unfold isIn
    rw [show validB (-1) (([R] : List (List RefX)).length : Nat) = false from rfl]; rfl
  exact ⟨h, setZ_no h f⟩

theorem own32_set {w : World} {base : Nat} {W : List Int} {b n c k : Nat} (h : Own32 w base (.slice (some ⟨b, 0, none⟩) n c) W) (hk : k < W.length) (x : Int) : Own32 (w.setCell ⟨b, k, none⟩ (.int .i32 x)) base (.slice (some ⟨b, 0, none⟩) n c) (W.set k x) := by
  rcases h.2 with ⟨e, _⟩ | ⟨g, cap, cur, e, hb, hg, hn, hm, hs, ht⟩
  · cases e
  · injection e with e1 e2 e3
    injection e1 with e1
    injection e1 with e1 _
    subst e1
    refine ⟨by simp [i32s], .inr ⟨b, cap, cur.setIfInBounds k (.int .i32 x), by rw [e2, e3, List.length_set], hb, set_blk hg k _, by simpa using hn, hm, by simpa using hs, ?_⟩⟩
    rw [Array.toList_setIfInBounds, List.length_set, List.take_set, ht]
    simp [i32s, List.map_set]
theorem Own32.keep1 {w w' : World} {base b n c : Nat} {W : List Int} (h : Own32 w base (.slice (some ⟨b, 0, none⟩) n c) W) (hb : w'.heap[b]? = w.heap[b]?) : Own32 w' base (.slice (some ⟨b, 0, none⟩) n c) W :=
  ownsRow_keep h fun b' e => by injection e with e; subst e; exact hb
theorem own_shape {w : World} {base e sz n : Nat} {v : Value} {xs : List Value} (h : w.ownsRow base e sz v n xs) : ∃ A c, v = .slice A n c := by
  rcases h.2 with ⟨rfl, rfl⟩ | ⟨g, cap, cur, rfl, _⟩
  · exact ⟨_, _, rfl⟩
  · exact ⟨_, _, rfl⟩
theorem own_some {w : World} {base e sz n : Nat} {v : Value} {xs : List Value} (h : w.ownsRow base e sz v n xs) (h0 : 0 < n) : ∃ g c, v = .slice (some ⟨g, 0, none⟩) n c ∧ w.frozen? ⟨g, 0, none⟩ = false := by
  rcases h.2 with ⟨_, rfl⟩ | ⟨g, cap, cur, rfl, _, hg, _⟩
  · omega
  · exact ⟨g, cap, rfl, frozen_blk hg 0⟩
theorem i32s_at {W : List Int} {j : Nat} (h : j < W.length) : (i32s W)[j]? = some (.int .i32 W[j]) := by simp [i32s, h]
theorem addr_add0 (g j : Nat) : (⟨g, 0, none⟩ : Addr).add j = ⟨g, j, none⟩ := by unfold Addr.add; split <;> simp_all
theorem size_setC (w : World) (a : Addr) (u : Value) : (w.setCell a u).heap.size = w.heap.size := by simp [World.setCell]
/-- What holds of the loops: the arena, and the list of what is wanted. -/
structure HdK (w wr : World) (S : Nat → Prop) (lo a : Nat) (v : Value) (W : List Int) : Prop where
  ar : ArV wr S a [30] [rowR W]
  own : Own32 wr lo v W
  ap : ∀ b, v.ownBlock = some b → ¬ S b
  low : ∀ i, S i → lo ≤ i
  bel : Below w.heap.size w wr
  hh : w.heap.size ≤ lo
section
variable {w wr w5 w6 : World} {S S5 : Nat → Prop} {lo a : Nat} {v v' : Value} {W : List Int}
theorem HdK.lo_le (h : HdK w wr S lo a v W) : lo ≤ wr.heap.size := by
  have h1 := h.ar.lt a h.ar.2.1
  have h2 := h.low a h.ar.2.1
  omega
theorem HdK.made {x : Int} (h : HdK w wr S lo a v W) (h5 : ArV w5 S5 a [30] [rowR (W ++ [x])]) (t5 : Stp S S5 wr w5) (o6 : Own32 w6 lo v' (W ++ [x])) (g6 : w5.grownBy w6 v.ownBlock) (hat : v'.ownBlock = v.ownBlock ∨ ∃ b, v'.ownBlock = some b ∧ w5.heap.size ≤ b) : ∃ S, HdK w w6 S lo a v' (W ++ [x]) := by
  have hap : ∀ b, v.ownBlock = some b → ¬ S5 b := fun b hb e => h.ap b hb (t5.old b (h.own.lt b hb).2 e)
  have hlow := t5.low h.low h.lo_le
  have hf : Frm (fun k => some k = v.ownBlock) w5 w6 := ⟨g6.os, g6.tape, g6.output, g6.size, fun k hk hn => g6.block k hk hn⟩
  refine ⟨S5, h5.keep hf (fun i hi e => hap i e.symm hi), o6, fun b hb e => ?_, hlow, ?_, h.hh⟩
  · rcases hat with e2 | ⟨b', e2, hb'⟩
    · rw [e2] at hb; exact hap b hb e
    · rw [e2] at hb; injection hb with hb; subst hb
      have := h5.lt _ e; omega
  · have h1 := h.bel.trans ((t5.below h.low h.lo_le).mono h.hh)
    exact h1.grown g6 h1.size (fun k hk => Nat.le_trans h.hh (h.own.lt k hk).1)
theorem HdK.stored {b n c k : Nat} (h : HdK w wr S lo a (.slice (some ⟨b, 0, none⟩) n c) W) (hk : k < W.length) (x : Int) :
    ArV (wr.setCell ⟨b, k, none⟩ (.int .i32 x)) S a [30] [rowR W] ∧ Own32 (wr.setCell ⟨b, k, none⟩ (.int .i32 x)) lo (.slice (some ⟨b, 0, none⟩) n c) (W.set k x) ∧ Below w.heap.size w (wr.setCell ⟨b, k, none⟩ (.int .i32 x)) := by
  have hb := h.ap b rfl
  exact ⟨h.ar.keep (T := One b) (Frm.setCell (S := One b) (p := ⟨b, k, none⟩) rfl _) (fun i hi e => hb (by rw [← show i = b from e]; exact hi)), own32_set h.own hk x, h.bel.setCell (by show w.heap.size ≤ b; exact Nat.le_trans h.hh (h.own.lt b rfl).1) _⟩
theorem HdK.seen {b n c : Nat} {W' : List Int} (hap : ¬ S b) (hlow : ∀ i, S i → lo ≤ i) (hh : w.heap.size ≤ lo) (hl : lo ≤ w5.heap.size) (o5 : Own32 w5 lo (.slice (some ⟨b, 0, none⟩) n c) W') (b5 : Below w.heap.size w w5) (h6 : ArV w6 S5 a [30] [rowR W']) (t6 : Stp S S5 w5 w6) : HdK w w6 S5 lo a (.slice (some ⟨b, 0, none⟩) n c) W' := by
  have hb5 := (o5.lt b rfl).2
  exact ⟨h6, Own32.keep1 o5 (t6.frm.block b hb5 hap), fun b' e => by injection e with e; subst e; exact fun e2 => hap (t6.old _ hb5 e2), t6.low hlow hl, b5.trans ((t6.below hlow hl).mono hh), hh⟩
end

set_option maxRecDepth 100000 in
set_option maxHeartbeats 16000000 in
theorem walk (v sv : Value) (l ss : List Int) (w : World) (hl : I32V w w.heap.size v l) (hm : l.length ≤ maxLen) (hs : BytV w w.heap.size sv ss) (hms : ss.length ≤ maxLen) (hx : ∀ x ∈ l, -2147483648 ≤ x ∧ x ≤ 2147483647) (hy : IsByt ss) :
    Calls Try.prog 5 #[v, sv] w fun e w' => e = .returned (.bool true) ∧ Below w.heap.size w w' := by
  obtain ⟨A, c, rfl, hc, hL⟩ := hl
  obtain ⟨A2, c2, rfl, hc2, hL2⟩ := hs
  have HL := Lib.hid hL; have HL2 := Lib.hid hL2; have HX := Lib.hid hx; have HY := Lib.hid hy
  obtain ⟨n, hn⟩ : ∃ n, l.length = n := ⟨_, rfl⟩
  obtain ⟨m, hmm⟩ : ∃ m, ss.length = m := ⟨_, rfl⟩
  have HN := Lib.hid hn; have HM := Lib.hid hmm
  rw [hn] at hm hc ⊢
  rw [hmm] at hms hc2 ⊢
  unfold maxLen at hm hms
  clear hL hL2 hx hy hn hmm
  by_cases hok : n ≤ 20 ∧ n ≠ 0 ∧ m ≤ 40
  · obtain ⟨h20, h0, h40⟩ := hok
    have z1 : decide (20 < n) = false := by simp; omega
    have z2 : ((n : Int) == 0) = false := by simp; omega
    have z3 : decide (40 < m) = false := by simp; omega
    have z4 : decide ((20 : Int) < (n : Int)) = false := by simp; omega
    have z5 : decide ((40 : Int) < (m : Int)) = false := by simp; omega
    have HQ : Hid (quotasZ [30] = [30]) := Lib.hid (by decide)
    go_enter Try.func5, Try.ntmps5
    go_wp2_with fail
    refine (known12_any w).mono ?_
    rintro e w1 ⟨rfl, hb1⟩
    have B1 := Lib.hid hb1; clear hb1
    obtain ⟨w2, hw2⟩ : ∃ w2, w2 = w1.alloc (.cells #[.int .i64 30] 3) := ⟨_, rfl⟩
    have B2 : Hid (Below w.heap.size w w2) := Lib.hid (by rw [hw2]; exact B1.out.alloc B1.out.size _)
    have HAN := Lib.hid (arNew_any (.slice (some ⟨w1.heap.size, 0, none⟩) 1 1) [30] w2 (by rw [hw2]; exact numv_new w1 [30]) (by simp))
    have HW2 := Lib.hid hw2
    clear hw2
    go_wp2_with fail
    rw [← HW2.out]
    with_reducible refine HAN.out.mono ?_
    rintro e w3 ⟨a, rfl, hA, hb⟩
    rw [HQ.out] at hA
    have H0 : Hid (∃ S, HdK w w3 S w2.heap.size a (.slice none 0 0) []) := Lib.hid ⟨_, hA, World.ownsRow_nil _ _ _ 1, (fun b e => by cases e), fun i h => h.1, B2.out.trans (hb.mono B2.out.size), B2.out.size⟩
    clear hA hb HAN
    go_wp2_with fail
    clear z1 z2 z3 z4 z5
    go_loopw [6, 7] (fun v i wr => ∃ k : Nat, ∃ S, k ≤ n ∧ i = .int .i64 k ∧ HdK w wr S w2.heap.size a v (l.take k)) (fun _ i _ => n - (intOf i).toNat)
    case atStart => obtain ⟨S, h⟩ := H0.out; exact ⟨0, S, Nat.zero_le _, rfl, h⟩
    case round =>
      clear H0
      obtain ⟨k, S, hk, rfl, hK⟩ := hrel
      have HK := Lib.hid hK
      obtain ⟨Av, cv, hv0⟩ := own_shape hK.own
      clear hK
      have hlk : (l.take k).length = k := by rw [List.length_take, HN.out]; omega
      rw [hlk] at hv0
      subst hv0
      have HLK := Lib.hid hlk
      by_cases hkn : k < n
      · have hkl : k < l.length := by rw [HN.out]; exact hkn
        obtain ⟨b, off, rfl, hb, d0⟩ := lie_i32 HL.out hkl
        have d1 : wr.cell? ⟨b, off + k, none⟩ = some (.int .i32 l[k]) := by rw [HK.out.bel.cell (p := ⟨b, off + k, none⟩) hb, d0]
        have hbr := World.block_lt_of_cell? wr _ d1
        have HTK := Lib.hid (List.take_succ_eq_append_getElem hkl)
        clear d0
        generalize l[k] = x at *
        obtain ⟨tB, tI, tL⟩ := one_mk (rowR (l.take k)) ⟨((k % 16 : Nat) : Int), x⟩ (by rw [rowR_length, hlk]; omega)
        have HMK := Lib.hid (arMake_any HK.out.ar 0 ((k % 16 : Nat) : Int) x (by decide))
        unfold ArMk at HMK
        rw [tB, tI, tL, rowR_length, hlk] at HMK
        have hsn := rowR_snoc (l.take k) x
        rw [hlk] at hsn
        rw [← hsn, ← HTK.out] at HMK
        have HMADE := Lib.hid (fun (w5 w6 : World) (S5 : Nat → Prop) (v' : Value) => HK.out.made (x := x) (w5 := w5) (w6 := w6) (S5 := S5) (v' := v'))
        rw [← HTK.out] at HMADE
        obtain ⟨lb, hlb⟩ : ∃ lb : Nat, lb = k % 16 := ⟨_, rfl⟩
        rw [← hlb] at HMK
        have e1 : (k : Int) % 16 = (lb : Int) := by omega
        have i1 : (0 : Int) ≤ (k : Int) ∧ (k : Int) < n := by omega
        have e2 : ((k : Int) != (k : Int)) = false := by simp
        have ho := HK.out.own
        unfold Own32 at ho
        rw [hlk] at ho
        have HO := Lib.hid ho
        clear hsn tB tI tL hlk hlb ho hkl
        go_wp2_with fail
        refine HMK.out.mono ?_
        rintro e w5 ⟨rfl, S5, h5, t5⟩
        have hbS : ¬ S b := fun e => by have := HK.out.low _ e; have := HK.out.hh; omega
        have d5 : w5.cell? ⟨b, off + k, none⟩ = _ := (t5.frm.cell hbr hbS).trans d1
        have hl5 := World.block_lt_of_cell? w5 _ d5
        have HO5 := Lib.hid (show w5.ownsRow w2.heap.size 21 1 (.slice Av k cv) k (i32s (l.take k)) from ownsRow_keep HO.out fun b' e => t5.frm.block b' (HO.out.lt b' e).2 (HK.out.ap b' e))
        have H5 := Lib.hid h5; have T5 := Lib.hid t5
        have HLO5 : Hid (w2.heap.size ≤ w5.heap.size) := Lib.hid (Nat.le_trans HK.out.lo_le t5.frm.size)
        clear h5 t5 d1 hbS
        go_wp2_with (at_builtin; go_must (refine wpList_append_new 47 21 (.int .i32 0) 1 4 Try.underlying47 inf_i32 rfl (by decide) (by decide) rfl (.tmp 57) (.tmp 62) rfl w2.heap.size _ _ _ _ [.int .i32 x] rfl rfl HO5.out rfl rfl ?c1 ?c2 ?c3 ?_))
        case c1 => intro u hu; obtain rfl : u = .int .i32 x := by simpa using hu
                   rfl
        case c2 => omega
        case c3 => exact HLO5.out
        intro v3 w6 ho6 hg6 hat
        have HF := Lib.hid (HMADE.out w5 w6 S5 v3 H5.out T5.out (by
          unfold Own32
          have e : (l.take (k + 1)).length = k + 1 := by rw [HTK.out, List.length_append, HLK.out]; rfl
          rw [e, HTK.out, i32s_append]
          exact ho6) hg6 hat)
        clear ho6 hg6 hat
        go_wp2_with fail
        go_roundw
        case rel => obtain ⟨S6, h6⟩ := HF.out; exact ⟨k + 1, S6, by omega, by go_num, h6⟩
        case measure => simp [intOf]; omega
      · obtain rfl : k = n := by omega
        have hfull : l.take k = l := List.take_of_length_le (by rw [HN.out]; omega)
        rw [hfull] at HK
        have ho0 := HK.out.own
        obtain ⟨g, cg, hg0, hf0⟩ := own_some ho0 (by rw [HN.out]; omega)
        injection hg0 with hg1 hg2 hg3
        clear hg2
        subst hg1 hg3
        have HK2 : Hid (∃ S W, W.length = k ∧ HdK w wr S w2.heap.size a (.slice (some ⟨g, 0, none⟩) k cv) W) := Lib.hid ⟨S, l, HN.out, HK.out⟩
        clear hfull ho0 hf0 HK hlk hkn
        go_wp2_with fail
        go_loopw [10] (fun i wr => ∃ q : Nat, ∃ S W, q ≤ m ∧ i = .int .i64 q ∧ W.length = k ∧ HdK w wr S w2.heap.size a (.slice (some ⟨g, 0, none⟩) k cv) W) (fun i _ => m - (intOf i).toNat)
        case atStart => obtain ⟨S, W, h1, h2⟩ := HK2.out; exact ⟨0, S, W, Nat.zero_le _, rfl, h1, h2⟩
        case round =>
          clear HK2
          obtain ⟨q, S, W, hq, rfl, hW, hK⟩ := hrel
          have HK := Lib.hid hK; have HW := Lib.hid hW
          clear hK hW
          by_cases hqm : q < m
          · have hql : q < ss.length := by rw [HM.out]; exact hqm
            obtain ⟨b, off, rfl, hb, d0⟩ := lie_u8 HL2.out hql
            have d1 : wr.cell? ⟨b, off + q, none⟩ = some (.int .u8 ss[q]) := by rw [HK.out.bel.cell (p := ⟨b, off + q, none⟩) hb, d0]
            have hby := HY.out ss[q] (List.getElem_mem hql)
            clear d0
            generalize ss[q] = y at *
            obtain ⟨u, rfl⟩ : ∃ u : Nat, y = u := ⟨y.toNat, by omega⟩
            obtain ⟨j, hj⟩ : ∃ j : Nat, j = u % k := ⟨_, rfl⟩
            have hjk : j < k := by rw [hj]; exact Nat.mod_lt _ (by omega)
            have e1 : (u : Int).tmod (k : Int) = (j : Int) := by rw [hj]; rfl
            have e2 : (u : Int) % (k : Int) = (j : Int) := by rw [hj]; exact (Int.natCast_emod u k).symm
            have hjW : j < W.length := by rw [HW.out]; exact hjk
            obtain ⟨t1, t2, t3⟩ := HK.out.stored hjW (q : Int)
            have hS := one_in (rowR W) j (by omega)
            have hrx := rowR_get hjW
            have HSET := Lib.hid (arSet_any t1 (j : Int) (q : Int) (by omega))
            unfold ArSt at HSET
            rw [hS.1, rowR_length, decide_eq_true hjW, (hS.2 _ zR hrx).2, rowR_set W j (q : Int) hjW] at HSET
            have o1 := HK.out.own.cells (g := g) rfl j (.int .i32 W[j]) (i32s_at hjW)
            have x1 : wr.cell? ⟨g, j, none⟩ = some (.int .i32 W[j]) := by
              have ea : (⟨g, 0, none⟩ : Addr).add j = ⟨g, j, none⟩ := addr_add0 g j
              rwa [ea] at o1
            obtain ⟨cur, hcur⟩ : ∃ cur, wr.heap[g]? = some (.cells cur 21 (0, 0)) := by
              rcases HK.out.own.2 with ⟨e, _⟩ | ⟨g', cap, cur, e, _, hg, _⟩
              · cases e
              · injection e with e; injection e with e; injection e with e _; subst e; exact ⟨cur, hg⟩
            have f1 : wr.frozen? ⟨g, j, none⟩ = false := frozen_blk hcur j
            have HSEEN := Lib.hid (fun (w6 : World) (S5 : Nat → Prop) (h6 : ArV w6 S5 a [30] [rowR (W.set j (q : Int))]) (t6 : Stp S S5 _ w6) => HdK.seen (HK.out.ap g rfl) HK.out.low HK.out.hh (by rw [size_setC]; exact HK.out.lo_le) t2 t3 h6 t6)
            have HWL : Hid ((W.set j (q : Int)).length = k) := Lib.hid (by rw [List.length_set]; exact HW.out)
            generalize W.set j (q : Int) = W' at *
            generalize W[j] = old at *
            clear hS hrx t1 t2 t3 o1 hjW hcur hj hql hb
            have i1 : (0 : Int) ≤ (q : Int) ∧ (q : Int) < m := by omega
            have i2 : (0 : Int) ≤ (j : Int) ∧ (j : Int) < k := by omega
            go_wp2_with fail
            refine HSET.out.mono ?_
            rintro e w6 ⟨rfl, S6, h6, t6⟩
            have HF := Lib.hid (HSEEN.out w6 S6 h6 t6)
            clear h6 t6 x1 f1 d1 e1 e2
            go_wp2_with fail
            go_roundw
            case rel => exact ⟨q + 1, S6, W', by omega, by go_num, HWL.out, HF.out⟩
            case measure => simp [intOf]; omega
          · obtain rfl : q = m := by omega
            have HK2 : Hid (HdK w wr S w2.heap.size a (.slice (some ⟨g, 0, none⟩) k cv) W) := HK
            obtain ⟨wo, rfl⟩ : ∃ wo, wo = wr := ⟨_, rfl⟩
            have HGET := Lib.hid (fun (w' : World) (hb : Below wo.heap.size wo w') (id : Int) hid => arGet_any (HK.out.ar.below hb) id hid)
            clear hqm
            go_wp2_with fail
            go_loopw [12] (fun i wr => ∃ q : Nat, q ≤ k ∧ i = .int .i64 q ∧ Below wo.heap.size wo wr) (fun i _ => k - (intOf i).toNat)
            case atStart => exact ⟨0, Nat.zero_le _, rfl, Below.refl _ _⟩
            case round =>
              obtain ⟨j, hj, rfl, hbo⟩ := hrel
              have HBO := Lib.hid hbo; clear hbo
              by_cases hjk : j < k
              · have hjW : j < W.length := by rw [HW.out]; exact hjk
                have hS := one_in (rowR W) j (by omega)
                have hrx := rowR_get hjW
                have HG := Lib.hid (HGET.out wr HBO.out (j : Int) (by omega))
                unfold GotR at HG
                rw [hS.1, rowR_length, decide_eq_true hjW, (hS.2 _ zR hrx).1] at HG
                have o1 := HK.out.own.cells (g := g) rfl j (.int .i32 W[j]) (i32s_at hjW)
                have x0 : wo.cell? ⟨g, j, none⟩ = some (.int .i32 W[j]) := by
                  have ea : (⟨g, 0, none⟩ : Addr).add j = ⟨g, j, none⟩ := addr_add0 g j
                  rwa [ea] at o1
                have x1 : wr.cell? ⟨g, j, none⟩ = _ := (HBO.out.cell (p := ⟨g, j, none⟩) (World.block_lt_of_cell? wo _ x0)).trans x0
                generalize W[j] = y at *
                obtain ⟨lb, hlb⟩ : ∃ lb : Nat, lb = j % 16 := ⟨_, rfl⟩
                rw [← hlb, show refA ⟨(lb : Int), y⟩ = #[.int .i64 (lb : Int), .int .i32 y] from rfl] at HG
                have e1 : (j : Int) % 16 = (lb : Int) := by omega
                have i1 : (0 : Int) ≤ (j : Int) ∧ (j : Int) < k := by omega
                have R1 : Hid ((y != y) = false) := Lib.hid (by simp)
                have R2 : Hid (((lb : Int) != (lb : Int)) = false) := Lib.hid (by simp)
                clear hS hrx o1 x0 hjW hlb
                go_wp2_with fail
                refine HG.out.mono ?_
                rintro e w6 ⟨rfl, b6⟩
                have x6 : w6.cell? ⟨g, j, none⟩ = _ := (b6.cell (p := ⟨g, j, none⟩) (World.block_lt_of_cell? wr _ x1)).trans x1
                have g6 := World.block_lt_of_cell? w6 _ x6
                have HB7 : Hid (∀ n, Below wo.heap.size wo ((w6.alloc (.cells #[.int .i64 (lb : Int), .int .i32 y] 35)).drewN n)) := Lib.hid fun n => below_drewN ((HBO.out.trans (b6.mono HBO.out.size)).alloc (Nat.le_trans HBO.out.size b6.size) _) n
                clear b6 x1
                go_wp2_with fail
                have r1 := R1.out; have r2 := R2.out
                go_quiet (fail)
                clear r1 r2
                go_wp2_with fail
                go_roundw
                case rel => exact ⟨j + 1, by omega, by go_num, HB7.out _⟩
                case measure => simp [intOf]; omega
              · obtain rfl : j = k := by omega
                have hA := HK.out.ar.below HBO.out
                have hS := one_in (rowR W) j (by omega)
                have hng := fun f => one_neg (rowR W) f
                have hnj : isIn [rowR W] (j : Int) = false := by rw [hS.1, rowR_length, HW.out]; simp
                have M1 := Lib.hid (arSet_any hA (j : Int) 0 (by omega))
                unfold ArSt at M1
                rw [hnj, setZ_no hnj] at M1
                have M2 := Lib.hid (fun (w5 : World) (S5 : Nat → Prop) (h5 : ArV w5 S5 a [30] [rowR W]) => arSet_any h5 (-1) 0 (by decide))
                unfold ArSt at M2
                rw [(hng id).1, (hng fun x => { x with v := 0 }).2] at M2
                have M3 := Lib.hid (fun (w5 : World) (S5 : Nat → Prop) (h5 : ArV w5 S5 a [30] [rowR W]) => arCount_any h5 0)
                rw [show cntZ [rowR W] 0 = j from by simp [cntZ, rowR_length, HW.out]] at M3
                have r1 : IntKind.i32.wrap (j : Int) = (j : Int) := by simp [IntKind.wrap, IntKind.bits, IntKind.signed]; omega
                have r2 : ((j : Int) == (j : Int)) = true := beq_self_eq_true _
                have HLT := Lib.hid hA.lt
                clear hA hS hng hnj
                go_wp2_with fail
                refine M1.out.mono ?_
                rintro e w5 ⟨rfl, S5, h5, t5⟩
                have H5 := Lib.hid h5; have T5 := Lib.hid t5
                clear h5 t5
                go_wp2_with fail
                refine (M2.out _ _ H5.out).mono ?_
                rintro e w6 ⟨rfl, S6, h6, t6⟩
                have H6 := Lib.hid h6
                have HF : Hid (Below w.heap.size w w6) := Lib.hid (by
                  have hl := HK.out.lo_le
                  have hlr := Nat.le_trans hl HBO.out.size
                  have h1 := (T5.out.trans t6).below HK.out.low hlr
                  exact (HK.out.bel.trans (HBO.out.mono HK.out.bel.size)).trans (h1.mono HK.out.hh))
                clear h6 t6
                go_wp2_with fail
                refine (M3.out _ _ H6.out).mono ?_
                rintro e w7 ⟨rfl, rfl⟩
                go_wp2_with fail
                go_ret
                exact ⟨rfl, HF.out⟩
  · by_cases h20 : 20 < n
    · have z0 : n ≠ 0 := by omega
      have z4 : decide ((20 : Int) < (n : Int)) = true := by simp; omega
      go_enter Try.func5, Try.ntmps5
      go_wp2_with fail
      refine (known12_any w).mono ?_
      rintro e w1 ⟨rfl, hb1⟩
      go_wp2_with fail
      go_ret
      exact ⟨rfl, hb1⟩
    by_cases h0 : n = 0
    · subst h0
      go_enter Try.func5, Try.ntmps5
      go_wp2_with fail
      refine (known12_any w).mono ?_
      rintro e w1 ⟨rfl, hb1⟩
      go_wp2_with fail
      go_ret
      exact ⟨rfl, hb1⟩
    · have h40 : 40 < m := by omega
      have z2 : ((n : Int) == 0) = false := by simp; omega
      have z4 : decide ((20 : Int) < (n : Int)) = false := by simp; omega
      have z5 : decide ((40 : Int) < (m : Int)) = true := by simp; omega
      go_enter Try.func5, Try.ntmps5
      go_wp2_with fail
      refine (known12_any w).mono ?_
      rintro e w1 ⟨rfl, hb1⟩
      go_wp2_with fail
      go_ret
      exact ⟨rfl, hb1⟩

/- The claim. -/

set_option maxRecDepth 100000 in
theorem lifted (os : Os) (started : os.Started) (H : Type) (enc : TypeId × Value → H) :
    ReturnsInHanded {} Try.checked os 5 .any (Rows.arenaHoldsSpec.pre6 enc Try.prog Try.f5 Rows.arenaHoldsRow.domain false) (Rows.arenaHoldsSpec.post enc Try.prog Try.f5 false true false false) := by
  refine returnsInHanded_of_change (C := Try.checked) ownKnobs started (by kernel_rfl) Try.func5
    (ChangeSpec.witness6 (enc := enc) (C := Try.checked) false ⟨#[], #[.slice none 0 0, .slice none 0 0], []⟩ 8 (by kernel_rfl) (by kernel_rfl) (by kernel_rfl) (by kernel_rfl)) ?_
  intro W base args ds gs before hval hW _ _
  refine law_contract rfl rfl (fun ds h => by match ds, h with | [d1, d2], _ => rfl) (by decide +kernel) hW ?_
  obtain ⟨p, q, hA0, _⟩ := hW
  have hA : DataW.TrodAll enc Try.prog W 0 (fun _ => true) true Try.f5.params.toList args.toList ds p := hA0
  have hval' : ∀ (j : Nat) t v, Try.f5.params[j]? = some t → args[j]? = some v → Value.okWide Try.prog W .any base t v := hval
  rw [Try.params5] at hA hval'
  obtain ⟨v0, vs0, d0, ds0, p0, q0, hargs, rfl, rfl, h0, r0⟩ := trodAll_cons hA
  obtain ⟨v1, vs1, d1, ds1, p1, q1, rfl, rfl, rfl, h1, r1⟩ := trodAll_cons r0
  obtain ⟨rfl, rfl, rfl⟩ := trodAll_nil r1
  obtain rfl : args = #[v0, v1] := by cases args; simp_all
  obtain ⟨l0, y0, m0, x0⟩ := open_i32s (hval' 0 _ v0 rfl rfl) h0
  obtain ⟨l1, h1, m1, y1⟩ := open_bytv (hval' 1 _ v1 rfl rfl) h1
  exact walk v0 v1 l0 l1 W y0 m0 h1 m1 x0 y1

theorem proved : Rows.ArenaHoldsSaid :=
  OpenClaim.holds_of_wide 5 Try.f5 rfl rfl rfl rfl rfl rfl rfl ⟨rfl, rfl, rfl, rfl, rfl⟩ rfl rfl rfl rfl rfl (by kernel_rfl) Try.func5 (by kernel_rfl)
    (of_decide_eq_true (by kernel_rfl)) (by unfold Func.isWrapper; first | (rw [if_pos (by decide +kernel)]; kernel_rfl) | (rw [if_neg (by decide +kernel)]; exact ⟨rfl, rfl⟩))
    (fun os started H enc _ => lifted os started H enc)

end Go.Proofs.Ytboelofkbhgmfaa.arenaHolds
