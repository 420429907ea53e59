/- TaskStacks returns true for every input and changes nothing: instructions replace the values that they take by the documented ones and leave the values below as they are. No condition. -/
import Derived.Test.YtjnlgmjcabbaaaaKnown10
import Derived.Test.YtjnlgmjcabbaaaaOwnI8
import Derived.Test.YtjnlgmjcabbaaaaArg10
import Derived.Test.YtjnlgmjcabbaaaaLaw
import Derived.Deep.QuietTactic
import Derived.BigQuiet
import Derived.Deep.CutRange
import Derived.Deep.DeepCutAuto
namespace Go.Proofs.Ytjnlgmjcabbaaaa.taskStacks
set_option maxRecDepth 100000
open Go.RowKit Go.ChangeShapes Go.WideShapes Go.ChangeAt

def opL : List Int := [4, 5, 6, 8, 9, 2, 3, 13, 1, 14]
def opT (i : Nat) : Int := opL.getD i 0
def wantL (a b : Int) (i : Nat) : List Int :=
  ([[addZ a b], [subZ a b], [mulZ a b], [truthZ (decide (a < b))], [truthZ (a == b)], [a], [a, b, b], [a], [a, b, 0], [a, b, 3]] : List (List Int)).getD i []
def ts (l : List Int) (a b : Int) : TK := ⟨0, 0, 0, l ++ [a, b], 0, 0, 0, 0, 3, 0, 0, 0⟩
theorem top0 (l : List Int) (a b : Int) : topZ (l ++ [a, b]) 0 = b := by
  unfold topZ
  rw [List.getD_eq_getElem?_getD, List.length_append, List.getElem?_append_right (by simp)]
  rw [show l.length + [a, b].length - 1 - 0 - l.length = 1 by simp only [List.length_cons, List.length_nil]; omega]
  rfl
theorem top1 (l : List Int) (a b : Int) : topZ (l ++ [a, b]) 1 = a := by
  unfold topZ
  rw [List.getD_eq_getElem?_getD, List.length_append, List.getElem?_append_right (by simp)]
  rw [show l.length + [a, b].length - 1 - 1 - l.length = 0 by simp only [List.length_cons, List.length_nil]; omega]
  rfl
theorem cur_ts (l : List Int) (a b op : Int) : curZ [[(op, 0)]] (ts l a b).fn (ts l a b).pc = ((op, 0), knownB op) := rfl
theorem len_ts (l : List Int) (a b : Int) : (l ++ [a, b]).length = l.length + 2 := by simp
theorem do_ts (l : List Int) (a b op : Int) (h1 : knownB op = true) (h2 : hasB op 0 = true) (h3 : popsZ op ≤ 2) : stepZ (ts l a b) [[(op, 0)]] = doZ (ts l a b) op 0 := by
  unfold stepZ
  rw [cur_ts]
  refine if_pos ⟨h1, ?_⟩
  show rightS (l ++ [a, b]).length op 0 = true
  unfold rightS
  rw [h2, len_ts, decide_eq_true (by omega)]; rfl
theorem went_ts (l : List Int) (a b op : Int) (ps : List Int) : (wentZ (ts l a b) op ps).pc = 1 ∧ (wentZ (ts l a b) op ps).st = (l ++ [a, b]).take (keptN (l.length + 2) (popsZ op)) ++ ps := by
  unfold wentZ dropZ
  refine ⟨by show wrap64 ((0 : Int) + 1) = 1; unfold wrap64; omega, ?_⟩
  show (l ++ [a, b]).take (keptN (l ++ [a, b]).length (popsZ op)) ++ ps = _
  rw [len_ts]
theorem take2 (l : List Int) (a b : Int) : (l ++ [a, b]).take (keptN (l.length + 2) 2) = l := by
  rw [show keptN (l.length + 2) 2 = l.length by unfold keptN; omega]; simp
theorem take1 (l : List Int) (a b : Int) : (l ++ [a, b]).take (keptN (l.length + 2) 1) = l ++ [a] := by
  rw [show keptN (l.length + 2) 1 = l.length + 1 by unfold keptN; omega, List.take_append]; simp [List.take_of_length_le]
theorem take0 (l : List Int) (a b : Int) : (l ++ [a, b]).take (keptN (l.length + 2) 0) = l ++ [a, b] := by
  rw [show keptN (l.length + 2) 0 = l.length + 2 by unfold keptN; omega]; exact List.take_of_length_le (by simp)
theorem step_ts (l : List Int) (a b : Int) (i : Nat) (hi : i < 10) : ∃ z, stepZ (ts l a b) [[(opT i, 0)]] = (z, 1, 0, 0) ∧ z.pc = 1 ∧ z.st = l ++ wantL a b i := by
  have c2 : ∀ (op : Int) (y : Int), popsZ op = 2 → (wentZ (ts l a b) op [y]).pc = 1 ∧ (wentZ (ts l a b) op [y]).st = l ++ [y] := by
    intro op y h; have := went_ts l a b op [y]; rw [h, take2] at this; exact this
  rcases (by omega : i = 0 ∨ i = 1 ∨ i = 2 ∨ i = 3 ∨ i = 4 ∨ i = 5 ∨ i = 6 ∨ i = 7 ∨ i = 8 ∨ i = 9) with rfl | rfl | rfl | rfl | rfl | rfl | rfl | rfl | rfl | rfl
  · refine ⟨_, do_ts l a b 4 rfl rfl (by decide), c2 4 _ rfl |>.1, ?_⟩
    show (wentZ (ts l a b) 4 [addZ (topZ (l ++ [a, b]) 1) (topZ (l ++ [a, b]) 0)]).st = _
    rw [top0, top1]; exact (c2 4 _ rfl).2
  · refine ⟨_, do_ts l a b 5 rfl rfl (by decide), c2 5 _ rfl |>.1, ?_⟩
    show (wentZ (ts l a b) 5 [subZ (topZ (l ++ [a, b]) 1) (topZ (l ++ [a, b]) 0)]).st = _
    rw [top0, top1]; exact (c2 5 _ rfl).2
  · refine ⟨_, do_ts l a b 6 rfl rfl (by decide), c2 6 _ rfl |>.1, ?_⟩
    show (wentZ (ts l a b) 6 [mulZ (topZ (l ++ [a, b]) 1) (topZ (l ++ [a, b]) 0)]).st = _
    rw [top0, top1]; exact (c2 6 _ rfl).2
  · refine ⟨_, do_ts l a b 8 rfl rfl (by decide), c2 8 _ rfl |>.1, ?_⟩
    show (wentZ (ts l a b) 8 [truthZ (decide (topZ (l ++ [a, b]) 1 < topZ (l ++ [a, b]) 0))]).st = _
    rw [top0, top1]; exact (c2 8 _ rfl).2
  · refine ⟨_, do_ts l a b 9 rfl rfl (by decide), c2 9 _ rfl |>.1, ?_⟩
    show (wentZ (ts l a b) 9 [truthZ (topZ (l ++ [a, b]) 1 == topZ (l ++ [a, b]) 0)]).st = _
    rw [top0, top1]; exact (c2 9 _ rfl).2
  · refine ⟨_, do_ts l a b 2 rfl rfl (by decide), (went_ts l a b 2 _).1, ?_⟩
    show (wentZ (ts l a b) 2 []).st = _
    rw [(went_ts l a b 2 []).2, show popsZ 2 = 1 from rfl, take1]; simp [wantL]
  · refine ⟨_, do_ts l a b 3 rfl rfl (by decide), (went_ts l a b 3 _).1, ?_⟩
    show (wentZ (ts l a b) 3 [topZ (l ++ [a, b]) 0, topZ (l ++ [a, b]) 0]).st = _
    rw [(went_ts l a b 3 _).2, show popsZ 3 = 1 from rfl, take1, top0]; simp [wantL]
  · refine ⟨_, do_ts l a b 13 rfl rfl (by decide), (went_ts l a b 13 []).1, ?_⟩
    show (setVar (wentZ (ts l a b) 13 []) 0 (topZ (l ++ [a, b]) 0)).st = _
    rw [setVar_st, (went_ts l a b 13 []).2, show popsZ 13 = 1 from rfl, take1]; simp [wantL]
  · refine ⟨_, do_ts l a b 1 rfl rfl (by decide), (went_ts l a b 1 _).1, ?_⟩
    show (wentZ (ts l a b) 1 [0]).st = _
    rw [(went_ts l a b 1 _).2, show popsZ 1 = 0 from rfl, take0]; simp [wantL]
  · refine ⟨_, do_ts l a b 14 rfl rfl (by decide), (went_ts l a b 14 _).1, ?_⟩
    show (wentZ (ts l a b) 14 [wrap32 3]).st = _
    rw [(went_ts l a b 14 _).2, show popsZ 14 = 0 from rfl, take0, show wrap32 3 = 3 from by unfold wrap32; omega]; simp [wantL]

theorem wantL_len (a b : Int) (i : Nat) (hi : i < 10) : 1 ≤ (wantL a b i).length ∧ (wantL a b i).length ≤ 3 := by
  rcases (by omega : i = 0 ∨ i = 1 ∨ i = 2 ∨ i = 3 ∨ i = 4 ∨ i = 5 ∨ i = 6 ∨ i = 7 ∨ i = 8 ∨ i = 9) with rfl | rfl | rfl | rfl | rfl | rfl | rfl | rfl | rfl | rfl <;> exact ⟨by simp [wantL], by simp [wantL]⟩
theorem I32V.block {w : World} {g : Nat} {l : List Int} (h : w.heap[g]? = some (.cells (i32s l).toArray 21 (0, 0))) : I32V w w.heap.size (.slice (some ⟨g, 0, none⟩) l.length l.length) l :=
  ⟨_, _, rfl, Nat.le_refl _, fun _ => ⟨g, 0, rfl, (Array.getElem?_eq_some_iff.1 h).1, fun j u hu => by rw [Nat.zero_add, cell_blk h]; simpa using hu⟩⟩
theorem I32V.drop {w : World} {B b off m c n : Nat} {l l2 : List Int} (h : I32V w B (.slice (some ⟨b, off, none⟩) m c) (l ++ l2)) (hn : l.length = n) : I32V w B (.slice (some ⟨b, off + n, none⟩) (m - n) (c - n)) l2 := by
  obtain ⟨A', c', e, hc, hl⟩ := h
  injection e with e1 e2 e3
  subst e1; subst e3
  rw [List.length_append] at e2 hc
  refine ⟨some ⟨b, off + n, none⟩, c - n, by rw [show m - n = l2.length by omega], by omega, fun h0 => ?_⟩
  obtain ⟨b', o', e, hb, hcc⟩ := hl (by rw [i32s_length, List.length_append]; rw [i32s_length] at h0; omega)
  injection e with e; injection e with eb eo
  subst eb; subst eo
  refine ⟨b, off + n, rfl, hb, fun j u hu => ?_⟩
  have := hcc (n + j) u (by rw [i32s_append, List.getElem?_append_right (by rw [i32s_length]; omega), i32s_length, show n + j - l.length = j by omega]; exact hu)
  rw [← this, Nat.add_assoc]
theorem opT_at (i : Nat) (hi : i < 10) : (#[.int .i64 4, .int .i64 5, .int .i64 6, .int .i64 8, .int .i64 9, .int .i64 2, .int .i64 3, .int .i64 13, .int .i64 1, .int .i64 14] : Array Value)[i]? = some (.int .i64 (opT i)) := by
  rcases (by omega : i = 0 ∨ i = 1 ∨ i = 2 ∨ i = 3 ∨ i = 4 ∨ i = 5 ∨ i = 6 ∨ i = 7 ∨ i = 8 ∨ i = 9) with rfl | rfl | rfl | rfl | rfl | rfl | rfl | rfl | rfl | rfl <;> rfl

set_option maxRecDepth 100000 in
set_option maxHeartbeats 16000000 in
theorem walk (l : List Int) (v : Value) (a b : Int) (k : Nat) (w : World) (hv : I32V w w.heap.size v l) (hl : l.length ≤ maxLen) (hlr : ∀ x ∈ l, -2147483648 ≤ x ∧ x ≤ 2147483647) (ha : -2147483648 ≤ a ∧ a ≤ 2147483647) (hb : -2147483648 ≤ b ∧ b ≤ 2147483647) :
    Calls Try.prog 13 #[v, .int .i32 a, .int .i32 b, .int .u8 k] w fun e w' => e = .returned (.bool true) ∧ Below w.heap.size w w' := by
  have HV := Lib.hid hv
  obtain ⟨A, c, rfl, hnc, _⟩ := hv
  obtain ⟨n, hn⟩ : ∃ n, l.length = n := ⟨_, rfl⟩
  have HN := Lib.hid hn
  rw [hn] at HV hl hnc ⊢
  have hn63 : n ≤ 9223372036854775807 := by unfold maxLen at hl; omega
  by_cases h20 : n ≤ 20
  rotate_left
  · clear hn hnc hl hlr ha hb
    go_enter Try.func13, Try.ntmps13
    go_wp2_with fail
    refine (known10_any w).mono ?_
    rintro e w1 ⟨rfl, hb⟩
    go_wp2_with fail
    go_ret
    exact ⟨rfl, hb⟩
  · have hi10 : k % 10 < 10 := Nat.mod_lt _ (by decide)
    have HI := Lib.hid hi10
    obtain ⟨z, hz, hzp, hzs⟩ := step_ts l a b (k % 10) hi10
    have HS : Hid (∀ w s c, I32V w w.heap.size s (l ++ [a, b]) → ImgV w w.heap.size c [[(opT (k % 10), 0)]] → Calls Try.prog 40 #[taskV (ts l a b) s, c] w (TO w z 1 0 0)) := Lib.hid fun w s c h1 h2 => step_lit _ s _ c w z 1 0 0 hz h1 (by show (l ++ [a, b]).length ≤ _; rw [len_ts, hn]; omega) (by
      intro y hy
      have : y ∈ l ∨ y = a ∨ y = b := by simpa [ts] using hy
      rcases this with h | rfl | rfl
      · exact hlr y h
      · exact ha
      · exact hb) h2
    have HZP := Lib.hid hzp; have HZS := Lib.hid hzs; have HA := Lib.hid ha; have HB := Lib.hid hb
    clear hz hzp hzs hlr ha hb hn hl
    go_enter Try.func13, Try.ntmps13
    go_wp2_with fail
    refine (known10_any w).mono ?_
    rintro e w1 ⟨rfl, hb⟩
    have B1 := Lib.hid hb; clear hb
    go_upto_region 5 with (fail)
    have harr := opT_at (k % 10) hi10
    have hcell : (w1.alloc (.cells #[.int .i64 4, .int .i64 5, .int .i64 6, .int .i64 8, .int .i64 9, .int .i64 2, .int .i64 3, .int .i64 13, .int .i64 1, .int .i64 14] 3)).cell? ⟨w1.heap.size, k % 10, none⟩ = some (.int .i64 (opT (k % 10))) := (cell_blk (heapNew rfl) _).trans harr
    go_upto_region 6 with (fail)
    obtain ⟨w2, h2⟩ : ∃ w2, w2 = w1.alloc (.cells #[.int .i64 4, .int .i64 5, .int .i64 6, .int .i64 8, .int .i64 9, .int .i64 2, .int .i64 3, .int .i64 13, .int .i64 1, .int .i64 14] 3) := ⟨_, rfl⟩
    rw [show Code.wp Try.prog _ _ _ _ = Code.wp Try.prog _ _ _ w2 from by rw [h2]]
    have B2 := Lib.hid (nextB B1.out (show Below w1.heap.size w1 w2 by rw [h2]; exact below_alloc _ _))
    have HV2 := Lib.hid (HV.out.later B2.out)
    obtain ⟨op, hop⟩ : ∃ op, opT (k % 10) = op := ⟨_, rfl⟩
    rw [hop] at HS ⊢
    clear h2 harr hcell hi10 hop B1
    go_wp2_with (at_builtin; go_must (refine wpList_append_L 54 21 _ 4 Try.underlying54 inf_i32 rfl rfl (.const (.slice none 0 0)) (.tmp 25) rfl w2.heap.size _ _ _ rfl (World.ownsRow_nil w2 w2.heap.size _ 1) w2.heap.size A n c (i32s l) rfl (by rw [i32s_length]; exact HN.out) HV2.out.lies.2 (one_i32 l) ?c3 ?c4 ?c5 ?_))
    case c3 => omega
    case c4 => omega
    case c5 => exact Nat.le_refl _
    intro v3 w3 ho3 _ hb3
    have O3 : Hid (Own32 w3 w2.heap.size v3 l) := Lib.hid (by unfold Own32; rw [HN.out]; simpa using ho3)
    have B3 := Lib.hid hb3
    clear ho3 hb3
    have BA := Lib.hid (below_alloc w3 (.cells (i32s [a, b]).toArray 21))
    go_wp2_with (at_builtin; go_must (refine wpList_append_L 54 21 _ 4 Try.underlying54 inf_i32 rfl rfl (.tmp 26) (.tmp 29) rfl w2.heap.size _ _ _ rfl (O3.out.below BA.out) (w3.heap.size + 1) (some ⟨w3.heap.size, 0, none⟩) 2 2 (i32s [a, b]) rfl rfl (lies_new w3 (i32s [a, b]) 21) (one_i32 [a, b]) ?c3 ?c4 ?c5 ?_))
    case c3 => have := HN.out; omega
    case c4 => omega
    case c5 => exact (B3.out.trans (BA.out.mono B3.out.size)).size
    intro v4 w4 ho4 _ hb4
    have O4 : Hid (Own32 w4 w2.heap.size v4 (l ++ [a, b])) := Lib.hid (by unfold Own32; rw [i32s_append, List.length_append]; exact ho4)
    have B4 := Lib.hid (B3.out.trans ((BA.out.mono B3.out.size).trans hb4))
    obtain ⟨A4, c4, rfl⟩ := O4.out.shapeN
    rw [len_ts, HN.out] at O4 ⊢
    clear ho4 hb4 O3 BA B3
    go_upto_region 7 with (fail)
    obtain ⟨w5, h5⟩ : ∃ w5, w5 = w4.alloc (.cells (taskA (ts l a b) (.slice A4 (n + 2) c4)) 66) := ⟨_, rfl⟩
    rw [show Code.wp Try.prog _ _ _ _ = Code.wp Try.prog _ _ _ w5 from by rw [h5]; rfl]
    have hb5 : Below w4.heap.size w4 w5 := by rw [h5]; exact below_alloc _ _
    have F10 : Hid (w5.heap[w4.heap.size]? = some (.cells (taskA (ts l a b) (.slice A4 (n + 2) c4)) 66 (0, 0))) := Lib.hid (by rw [h5]; exact heapNew rfl)
    obtain ⟨p10, hp10⟩ : ∃ p, p = w4.heap.size := ⟨_, rfl⟩
    rw [← hp10] at F10 ⊢
    have O5 := Lib.hid (O4.out.below hb5)
    have B5 := Lib.hid (nextB B2.out (nextB B4.out hb5))
    have HV5 := Lib.hid (HV2.out.later (nextB B4.out hb5))
    clear h5 hb5 hp10 O4 B4 HV2 B2 HV
    have hba : Below w5.heap.size w5 ((w5.alloc (.cells #[.int .i64 op, .int .i32 0] 32)).alloc (.cells #[.slice (some ⟨w5.heap.size, 0, none⟩) 1 1] 29)) := nextB (below_alloc _ _) (below_alloc _ _)
    have BA := Lib.hid hba
    have hI : ∀ p ∈ [((op : Int), (0 : Int))], I32 p.2 := by
      intro p hp
      have : p = (op, 0) := by simpa using hp
      rw [this]; exact ⟨by show (-2147483648 : Int) ≤ 0; decide, by show (0 : Int) ≤ 2147483647; decide⟩
    have hrow : RowI (w5.alloc (.cells #[.int .i64 op, .int .i32 0] 32)) (w5.alloc (.cells #[.int .i64 op, .int .i32 0] 32)).heap.size (.slice (some ⟨w5.heap.size, 0, none⟩) 1 1) [(op, 0)] := RowI.fresh w5 [((op : Int), (0 : Int))] hI
    have him := ImgV.one hrow (by simp) 29
    have him2 : ImgV ((w5.alloc (.cells #[.int .i64 op, .int .i32 0] 32)).alloc (.cells #[.slice (some ⟨w5.heap.size, 0, none⟩) 1 1] 29)) ((w5.alloc (.cells #[.int .i64 op, .int .i32 0] 32)).alloc (.cells #[.slice (some ⟨w5.heap.size, 0, none⟩) 1 1] 29)).heap.size (.slice (some ⟨w5.heap.size + 1, 0, none⟩) 1 1) [[(op, 0)]] := by
      have e : (w5.alloc (.cells #[.int .i64 op, .int .i32 0] 32)).heap.size = w5.heap.size + 1 := by simp
      rw [e] at him; exact him
    have HIM := Lib.hid him2
    have hcl := HS.out ((w5.alloc (.cells #[.int .i64 op, .int .i32 0] 32)).alloc (.cells #[.slice (some ⟨w5.heap.size, 0, none⟩) 1 1] 29)) (.slice A4 (n + 2) c4) (.slice (some ⟨w5.heap.size + 1, 0, none⟩) 1 1) (O5.out.v.later hba) him2
    have HCL := Lib.hid hcl
    clear hba hI hrow him him2 hcl
    go_wp2_with (first | (refine load_taskAt rfl _ rfl _ (ts l a b) _ rfl _ _ F10.out ?_) | fail)
    refine HCL.out.mono ?_
    rintro e w6 ⟨⟨s', rfl, ho⟩, hb⟩
    have hbb := nextB BA.out hb
    obtain ⟨A6, c6, rfl⟩ := ho.shapeN
    obtain ⟨wl, hwl⟩ : ∃ wl, wantL a b (k % 10) = wl := ⟨_, rfl⟩
    have hzs := HZS.out
    rw [hwl] at hzs
    have HWL := Lib.hid hwl
    have hwn := wantL_len a b (k % 10) HI.out
    rw [hwl] at hwn
    obtain ⟨q, hq⟩ : ∃ q, wl.length = q := ⟨_, rfl⟩
    have HQ := Lib.hid hq
    rw [hq] at hwn
    rw [hzs] at ho
    rw [show z.st.length = n + q by rw [hzs, List.length_append, HN.out, hq]]
    rw [show (l ++ wl).length = n + q by rw [List.length_append, HN.out, hq]] at ho
    have HZPC := HZP.out
    have O6 := Lib.hid ho.v
    have F10' := Lib.hid (heapLater hbb (Array.getElem?_eq_some_iff.1 F10.out).1 F10.out)
    have B6 := Lib.hid (nextB B5.out hbb)
    have HV6 := Lib.hid (HV5.out.later hbb)
    clear ho hb hbb BA HIM HCL B5 HV5 O5 F10 HS hzs hwl hq HZS
    unfold taskV taskA outV outA
    rw [HZPC]
    clear HZPC
    go_upto_region 8 with (fail)
    obtain ⟨zt, hzt⟩ : ∃ zt : TK, zt = { z with pc := 1 } := ⟨_, rfl⟩
    obtain ⟨w7, h7⟩ : ∃ w7, w7 = (w6.alloc (.cells (taskA zt (.slice A6 (n + q) c6)) 66)).alloc (.cells (outA 1 0 0) 71) := ⟨_, rfl⟩
    rw [show Code.wp Try.prog _ _ _ _ = Code.wp Try.prog _ _ _ w7 from by rw [h7, hzt]; rfl]
    have hb7 : Below w6.heap.size w6 w7 := by rw [h7]; exact nextB (below_alloc _ _) (below_alloc _ _)
    have F11 : Hid (w7.heap[w6.heap.size]? = some (.cells (taskA zt (.slice A6 (n + q) c6)) 66 (0, 0))) := Lib.hid (by rw [h7]; exact heapOld (heapNew rfl))
    have F12 : Hid (w7.heap[w6.heap.size + 1]? = some (.cells (outA 1 0 0) 71 (0, 0))) := Lib.hid (by rw [h7]; exact heapNew (by simp))
    obtain ⟨p12, hp12⟩ : ∃ p, p = w6.heap.size + 1 := ⟨_, rfl⟩
    rw [← hp12] at F12 ⊢
    obtain ⟨p11, hp11⟩ : ∃ p, p = w6.heap.size := ⟨_, rfl⟩
    rw [← hp11] at F11 ⊢
    have HPC1 : Hid (zt.pc = 1) := Lib.hid (by rw [hzt])
    have F10 := Lib.hid (heapLater hb7 (Array.getElem?_eq_some_iff.1 F10'.out).1 F10'.out)
    have B7 := Lib.hid (nextB B6.out hb7); have HV7 := Lib.hid (HV6.out.later hb7); have O7 := Lib.hid (O6.out.later hb7)
    clear h7 hb7 hp11 hp12 F10' B6 HV6 O6 hzt
    have d12_0 : w7.cell? ⟨p12, 0, none⟩ = some (.int .i64 1) := cell_blk F12.out 0
    have d11_2 : w7.cell? ⟨p11, 2, none⟩ = some (.int .i64 1) := by rw [← HPC1.out]; exact cell_blk F11.out 2
    have d11_3 : w7.cell? ⟨p11, 3, none⟩ = some (.slice A6 (n + q) c6) := cell_blk F11.out 3
    have hlt : ¬ ((n : Int) + (q : Int) < (n : Int)) := by omega
    have hlt2 : ¬ (((n + q : Nat) : Int) < (n : Int)) := by omega
    go_upto_region 10 with (fail)
    clear d12_0 d11_2 d11_3
    go_wp2_with fail
    go_loopw [13] (fun i wr => ∃ j : Nat, j ≤ n ∧ i = .int .i64 j ∧ Below w7.heap.size w7 wr) (fun i _ => n - (intOf i).toNat)
    case atStart => exact ⟨0, Nat.zero_le _, rfl, Below.refl _ _⟩
    case round =>
      obtain ⟨j, hj, rfl, hb⟩ := hrel
      have HB7 := Lib.hid hb; clear hb
      by_cases hjn : j < n
      · obtain ⟨b1, o1, hA1, _, x1⟩ := lie_i32 (HV7.out.below HB7.out).lies.2 (k := j) (by rw [HN.out]; exact hjn)
        obtain ⟨b2, o2, hA2, _, x2⟩ := lie_i32 (O7.out.below HB7.out).lies.2 (k := j) (by rw [List.length_append, HN.out]; omega)
        have hsame : (l ++ wl)[j]'(by rw [List.length_append, HN.out]; omega) = l[j]'(by rw [HN.out]; exact hjn) := List.getElem_append_left (by rw [HN.out]; exact hjn)
        rw [hsame] at x2
        generalize l[j]'(by rw [HN.out]; exact hjn) = y at x1 x2 hsame
        subst hA1 hA2
        have d3 : wr.cell? ⟨p11, 3, none⟩ = some (.slice (some ⟨b2, o2, none⟩) (n + q) c6) := cell_blk (heapLater HB7.out (Array.getElem?_eq_some_iff.1 F11.out).1 F11.out) 3
        have i1 : (0 : Int) ≤ (j : Int) ∧ (j : Int) < n := by omega
        have i2 : (j : Int) < (n : Int) + (q : Int) := by omega
        have i3 : (j : Int) < ((n + q : Nat) : Int) := by omega
        have i4 : j < n + q := by omega
        have e1 : (y == y) = true := beq_self_eq_true y
        have e2 : (y != y) = false := by simp
        clear hsame
        go_wp2_with fail
        go_quiet (fail)
        go_wp2_with fail
        go_roundw
        case rel => exact ⟨j + 1, by omega, by go_num, below_drewN HB7.out _⟩
        case measure => simp [intOf]; omega
      · obtain rfl : n = j := by omega
        go_upto_region 15 with (fail)
        clear hlt hlt2 hj hjn
        have hi10 := HI.out
        obtain ⟨sl, harr, hI, hbF⟩ : ∃ sl : Value, (#[.slice (some ⟨wr.heap.size, 0, none⟩) 1 1, .slice (some ⟨wr.heap.size + 1, 0, none⟩) 1 1, .slice (some ⟨wr.heap.size + 1 + 1, 0, none⟩) 1 1, .slice (some ⟨wr.heap.size + 1 + 1 + 1, 0, none⟩) 1 1, .slice (some ⟨wr.heap.size + 1 + 1 + 1 + 1, 0, none⟩) 1 1, .slice (some ⟨wr.heap.size + 1 + 1 + 1 + 1 + 1, 0, none⟩) 1 1, .slice (some ⟨wr.heap.size + 1 + 1 + 1 + 1 + 1 + 1, 0, none⟩) 3 3, .slice (some ⟨wr.heap.size + 1 + 1 + 1 + 1 + 1 + 1 + 1, 0, none⟩) 1 1, .slice (some ⟨wr.heap.size + 1 + 1 + 1 + 1 + 1 + 1 + 1 + 1, 0, none⟩) 3 3, .slice (some ⟨wr.heap.size + 1 + 1 + 1 + 1 + 1 + 1 + 1 + 1 + 1, 0, none⟩) 3 3] : Array Value)[k % 10]? = some sl ∧ I32V (((((((((((wr.alloc (.cells #[.int .i32 (wrap32 (a + b))] 21)).alloc (.cells #[.int .i32 (wrap32 (a - b))] 21)).alloc (.cells #[.int .i32 (wrap32 (a * b))] 21)).alloc (.cells #[.int .i32 (truthZ (decide (a < b)))] 21)).alloc (.cells #[.int .i32 (truthZ (a == b))] 21)).alloc (.cells #[.int .i32 a] 21)).alloc (.cells #[.int .i32 a, .int .i32 b, .int .i32 b] 21)).alloc (.cells #[.int .i32 a] 21)).alloc (.cells #[.int .i32 a, .int .i32 b, .int .i32 0] 21)).alloc (.cells #[.int .i32 a, .int .i32 b, .int .i32 3] 21)).alloc (.cells #[.slice (some ⟨wr.heap.size, 0, none⟩) 1 1, .slice (some ⟨wr.heap.size + 1, 0, none⟩) 1 1, .slice (some ⟨wr.heap.size + 1 + 1, 0, none⟩) 1 1, .slice (some ⟨wr.heap.size + 1 + 1 + 1, 0, none⟩) 1 1, .slice (some ⟨wr.heap.size + 1 + 1 + 1 + 1, 0, none⟩) 1 1, .slice (some ⟨wr.heap.size + 1 + 1 + 1 + 1 + 1, 0, none⟩) 1 1, .slice (some ⟨wr.heap.size + 1 + 1 + 1 + 1 + 1 + 1, 0, none⟩) 3 3, .slice (some ⟨wr.heap.size + 1 + 1 + 1 + 1 + 1 + 1 + 1, 0, none⟩) 1 1, .slice (some ⟨wr.heap.size + 1 + 1 + 1 + 1 + 1 + 1 + 1 + 1, 0, none⟩) 3 3, .slice (some ⟨wr.heap.size + 1 + 1 + 1 + 1 + 1 + 1 + 1 + 1 + 1, 0, none⟩) 3 3] 54)) (((((((((((wr.alloc (.cells #[.int .i32 (wrap32 (a + b))] 21)).alloc (.cells #[.int .i32 (wrap32 (a - b))] 21)).alloc (.cells #[.int .i32 (wrap32 (a * b))] 21)).alloc (.cells #[.int .i32 (truthZ (decide (a < b)))] 21)).alloc (.cells #[.int .i32 (truthZ (a == b))] 21)).alloc (.cells #[.int .i32 a] 21)).alloc (.cells #[.int .i32 a, .int .i32 b, .int .i32 b] 21)).alloc (.cells #[.int .i32 a] 21)).alloc (.cells #[.int .i32 a, .int .i32 b, .int .i32 0] 21)).alloc (.cells #[.int .i32 a, .int .i32 b, .int .i32 3] 21)).alloc (.cells #[.slice (some ⟨wr.heap.size, 0, none⟩) 1 1, .slice (some ⟨wr.heap.size + 1, 0, none⟩) 1 1, .slice (some ⟨wr.heap.size + 1 + 1, 0, none⟩) 1 1, .slice (some ⟨wr.heap.size + 1 + 1 + 1, 0, none⟩) 1 1, .slice (some ⟨wr.heap.size + 1 + 1 + 1 + 1, 0, none⟩) 1 1, .slice (some ⟨wr.heap.size + 1 + 1 + 1 + 1 + 1, 0, none⟩) 1 1, .slice (some ⟨wr.heap.size + 1 + 1 + 1 + 1 + 1 + 1, 0, none⟩) 3 3, .slice (some ⟨wr.heap.size + 1 + 1 + 1 + 1 + 1 + 1 + 1, 0, none⟩) 1 1, .slice (some ⟨wr.heap.size + 1 + 1 + 1 + 1 + 1 + 1 + 1 + 1, 0, none⟩) 3 3, .slice (some ⟨wr.heap.size + 1 + 1 + 1 + 1 + 1 + 1 + 1 + 1 + 1, 0, none⟩) 3 3] 54)).heap.size sl wl ∧ Below wr.heap.size wr (((((((((((wr.alloc (.cells #[.int .i32 (wrap32 (a + b))] 21)).alloc (.cells #[.int .i32 (wrap32 (a - b))] 21)).alloc (.cells #[.int .i32 (wrap32 (a * b))] 21)).alloc (.cells #[.int .i32 (truthZ (decide (a < b)))] 21)).alloc (.cells #[.int .i32 (truthZ (a == b))] 21)).alloc (.cells #[.int .i32 a] 21)).alloc (.cells #[.int .i32 a, .int .i32 b, .int .i32 b] 21)).alloc (.cells #[.int .i32 a] 21)).alloc (.cells #[.int .i32 a, .int .i32 b, .int .i32 0] 21)).alloc (.cells #[.int .i32 a, .int .i32 b, .int .i32 3] 21)).alloc (.cells #[.slice (some ⟨wr.heap.size, 0, none⟩) 1 1, .slice (some ⟨wr.heap.size + 1, 0, none⟩) 1 1, .slice (some ⟨wr.heap.size + 1 + 1, 0, none⟩) 1 1, .slice (some ⟨wr.heap.size + 1 + 1 + 1, 0, none⟩) 1 1, .slice (some ⟨wr.heap.size + 1 + 1 + 1 + 1, 0, none⟩) 1 1, .slice (some ⟨wr.heap.size + 1 + 1 + 1 + 1 + 1, 0, none⟩) 1 1, .slice (some ⟨wr.heap.size + 1 + 1 + 1 + 1 + 1 + 1, 0, none⟩) 3 3, .slice (some ⟨wr.heap.size + 1 + 1 + 1 + 1 + 1 + 1 + 1, 0, none⟩) 1 1, .slice (some ⟨wr.heap.size + 1 + 1 + 1 + 1 + 1 + 1 + 1 + 1, 0, none⟩) 3 3, .slice (some ⟨wr.heap.size + 1 + 1 + 1 + 1 + 1 + 1 + 1 + 1 + 1, 0, none⟩) 3 3] 54)) := by
          have hcase : k % 10 = 0 ∨ k % 10 = 1 ∨ k % 10 = 2 ∨ k % 10 = 3 ∨ k % 10 = 4 ∨ k % 10 = 5 ∨ k % 10 = 6 ∨ k % 10 = 7 ∨ k % 10 = 8 ∨ k % 10 = 9 := by omega
          have hw := HWL.out
          rcases hcase with hk | hk | hk | hk | hk | hk | hk | hk | hk | hk
          · rw [hk] at hw ⊢
            rw [← hw]
            refine ⟨_, rfl, I32V.block (l := [addZ a b]) ?_, nextB (nextB (nextB (nextB (nextB (nextB (nextB (nextB (nextB (nextB (below_alloc _ _) (below_alloc _ _)) (below_alloc _ _)) (below_alloc _ _)) (below_alloc _ _)) (below_alloc _ _)) (below_alloc _ _)) (below_alloc _ _)) (below_alloc _ _)) (below_alloc _ _)) (below_alloc _ _)⟩
            iterate 10 refine heapOld ?_
            exact heapNew (by simp)
          · rw [hk] at hw ⊢
            rw [← hw]
            refine ⟨_, rfl, I32V.block (l := [subZ a b]) ?_, nextB (nextB (nextB (nextB (nextB (nextB (nextB (nextB (nextB (nextB (below_alloc _ _) (below_alloc _ _)) (below_alloc _ _)) (below_alloc _ _)) (below_alloc _ _)) (below_alloc _ _)) (below_alloc _ _)) (below_alloc _ _)) (below_alloc _ _)) (below_alloc _ _)) (below_alloc _ _)⟩
            iterate 9 refine heapOld ?_
            exact heapNew (by simp)
          · rw [hk] at hw ⊢
            rw [← hw]
            refine ⟨_, rfl, I32V.block (l := [mulZ a b]) ?_, nextB (nextB (nextB (nextB (nextB (nextB (nextB (nextB (nextB (nextB (below_alloc _ _) (below_alloc _ _)) (below_alloc _ _)) (below_alloc _ _)) (below_alloc _ _)) (below_alloc _ _)) (below_alloc _ _)) (below_alloc _ _)) (below_alloc _ _)) (below_alloc _ _)) (below_alloc _ _)⟩
            iterate 8 refine heapOld ?_
            exact heapNew (by simp)
          · rw [hk] at hw ⊢
            rw [← hw]
            refine ⟨_, rfl, I32V.block (l := [truthZ (decide (a < b))]) ?_, nextB (nextB (nextB (nextB (nextB (nextB (nextB (nextB (nextB (nextB (below_alloc _ _) (below_alloc _ _)) (below_alloc _ _)) (below_alloc _ _)) (below_alloc _ _)) (below_alloc _ _)) (below_alloc _ _)) (below_alloc _ _)) (below_alloc _ _)) (below_alloc _ _)) (below_alloc _ _)⟩
            iterate 7 refine heapOld ?_
            exact heapNew (by simp)
          · rw [hk] at hw ⊢
            rw [← hw]
            refine ⟨_, rfl, I32V.block (l := [truthZ (a == b)]) ?_, nextB (nextB (nextB (nextB (nextB (nextB (nextB (nextB (nextB (nextB (below_alloc _ _) (below_alloc _ _)) (below_alloc _ _)) (below_alloc _ _)) (below_alloc _ _)) (below_alloc _ _)) (below_alloc _ _)) (below_alloc _ _)) (below_alloc _ _)) (below_alloc _ _)) (below_alloc _ _)⟩
            iterate 6 refine heapOld ?_
            exact heapNew (by simp)
          · rw [hk] at hw ⊢
            rw [← hw]
            refine ⟨_, rfl, I32V.block (l := [a]) ?_, nextB (nextB (nextB (nextB (nextB (nextB (nextB (nextB (nextB (nextB (below_alloc _ _) (below_alloc _ _)) (below_alloc _ _)) (below_alloc _ _)) (below_alloc _ _)) (below_alloc _ _)) (below_alloc _ _)) (below_alloc _ _)) (below_alloc _ _)) (below_alloc _ _)) (below_alloc _ _)⟩
            iterate 5 refine heapOld ?_
            exact heapNew (by simp)
          · rw [hk] at hw ⊢
            rw [← hw]
            refine ⟨_, rfl, I32V.block (l := [a, b, b]) ?_, nextB (nextB (nextB (nextB (nextB (nextB (nextB (nextB (nextB (nextB (below_alloc _ _) (below_alloc _ _)) (below_alloc _ _)) (below_alloc _ _)) (below_alloc _ _)) (below_alloc _ _)) (below_alloc _ _)) (below_alloc _ _)) (below_alloc _ _)) (below_alloc _ _)) (below_alloc _ _)⟩
            iterate 4 refine heapOld ?_
            exact heapNew (by simp)
          · rw [hk] at hw ⊢
            rw [← hw]
            refine ⟨_, rfl, I32V.block (l := [a]) ?_, nextB (nextB (nextB (nextB (nextB (nextB (nextB (nextB (nextB (nextB (below_alloc _ _) (below_alloc _ _)) (below_alloc _ _)) (below_alloc _ _)) (below_alloc _ _)) (below_alloc _ _)) (below_alloc _ _)) (below_alloc _ _)) (below_alloc _ _)) (below_alloc _ _)) (below_alloc _ _)⟩
            iterate 3 refine heapOld ?_
            exact heapNew (by simp)
          · rw [hk] at hw ⊢
            rw [← hw]
            refine ⟨_, rfl, I32V.block (l := [a, b, 0]) ?_, nextB (nextB (nextB (nextB (nextB (nextB (nextB (nextB (nextB (nextB (below_alloc _ _) (below_alloc _ _)) (below_alloc _ _)) (below_alloc _ _)) (below_alloc _ _)) (below_alloc _ _)) (below_alloc _ _)) (below_alloc _ _)) (below_alloc _ _)) (below_alloc _ _)) (below_alloc _ _)⟩
            iterate 2 refine heapOld ?_
            exact heapNew (by simp)
          · rw [hk] at hw ⊢
            rw [← hw]
            refine ⟨_, rfl, I32V.block (l := [a, b, 3]) ?_, nextB (nextB (nextB (nextB (nextB (nextB (nextB (nextB (nextB (nextB (below_alloc _ _) (below_alloc _ _)) (below_alloc _ _)) (below_alloc _ _)) (below_alloc _ _)) (below_alloc _ _)) (below_alloc _ _)) (below_alloc _ _)) (below_alloc _ _)) (below_alloc _ _)) (below_alloc _ _)⟩
            iterate 1 refine heapOld ?_
            exact heapNew (by simp)
        have HII := Lib.hid hI; have HBF := Lib.hid hbF
        have hcell : (((((((((((wr.alloc (.cells #[.int .i32 (wrap32 (a + b))] 21)).alloc (.cells #[.int .i32 (wrap32 (a - b))] 21)).alloc (.cells #[.int .i32 (wrap32 (a * b))] 21)).alloc (.cells #[.int .i32 (truthZ (decide (a < b)))] 21)).alloc (.cells #[.int .i32 (truthZ (a == b))] 21)).alloc (.cells #[.int .i32 a] 21)).alloc (.cells #[.int .i32 a, .int .i32 b, .int .i32 b] 21)).alloc (.cells #[.int .i32 a] 21)).alloc (.cells #[.int .i32 a, .int .i32 b, .int .i32 0] 21)).alloc (.cells #[.int .i32 a, .int .i32 b, .int .i32 3] 21)).alloc (.cells #[.slice (some ⟨wr.heap.size, 0, none⟩) 1 1, .slice (some ⟨wr.heap.size + 1, 0, none⟩) 1 1, .slice (some ⟨wr.heap.size + 1 + 1, 0, none⟩) 1 1, .slice (some ⟨wr.heap.size + 1 + 1 + 1, 0, none⟩) 1 1, .slice (some ⟨wr.heap.size + 1 + 1 + 1 + 1, 0, none⟩) 1 1, .slice (some ⟨wr.heap.size + 1 + 1 + 1 + 1 + 1, 0, none⟩) 1 1, .slice (some ⟨wr.heap.size + 1 + 1 + 1 + 1 + 1 + 1, 0, none⟩) 3 3, .slice (some ⟨wr.heap.size + 1 + 1 + 1 + 1 + 1 + 1 + 1, 0, none⟩) 1 1, .slice (some ⟨wr.heap.size + 1 + 1 + 1 + 1 + 1 + 1 + 1 + 1, 0, none⟩) 3 3, .slice (some ⟨wr.heap.size + 1 + 1 + 1 + 1 + 1 + 1 + 1 + 1 + 1, 0, none⟩) 3 3] 54)).cell? ⟨wr.heap.size + 1 + 1 + 1 + 1 + 1 + 1 + 1 + 1 + 1 + 1, k % 10, none⟩ = some sl := (cell_blk (heapNew (by simp)) _).trans harr
        clear hI hbF
        go_wp2_with fail
        refine (refTruth_any _ _).mono ?_
        rintro e wt ⟨rfl, rfl⟩
        go_wp2_with fail
        refine (refTruth_any _ _).mono ?_
        rintro e wt ⟨rfl, rfl⟩
        go_upto_region 16 with (fail)
        obtain ⟨wF, hF⟩ : ∃ wF, wF = ((((((((((wr.alloc (.cells #[.int .i32 (wrap32 (a + b))] 21)).alloc (.cells #[.int .i32 (wrap32 (a - b))] 21)).alloc (.cells #[.int .i32 (wrap32 (a * b))] 21)).alloc (.cells #[.int .i32 (truthZ (decide (a < b)))] 21)).alloc (.cells #[.int .i32 (truthZ (a == b))] 21)).alloc (.cells #[.int .i32 a] 21)).alloc (.cells #[.int .i32 a, .int .i32 b, .int .i32 b] 21)).alloc (.cells #[.int .i32 a] 21)).alloc (.cells #[.int .i32 a, .int .i32 b, .int .i32 0] 21)).alloc (.cells #[.int .i32 a, .int .i32 b, .int .i32 3] 21)).alloc (.cells #[.slice (some ⟨wr.heap.size, 0, none⟩) 1 1, .slice (some ⟨wr.heap.size + 1, 0, none⟩) 1 1, .slice (some ⟨wr.heap.size + 1 + 1, 0, none⟩) 1 1, .slice (some ⟨wr.heap.size + 1 + 1 + 1, 0, none⟩) 1 1, .slice (some ⟨wr.heap.size + 1 + 1 + 1 + 1, 0, none⟩) 1 1, .slice (some ⟨wr.heap.size + 1 + 1 + 1 + 1 + 1, 0, none⟩) 1 1, .slice (some ⟨wr.heap.size + 1 + 1 + 1 + 1 + 1 + 1, 0, none⟩) 3 3, .slice (some ⟨wr.heap.size + 1 + 1 + 1 + 1 + 1 + 1 + 1, 0, none⟩) 1 1, .slice (some ⟨wr.heap.size + 1 + 1 + 1 + 1 + 1 + 1 + 1 + 1, 0, none⟩) 3 3, .slice (some ⟨wr.heap.size + 1 + 1 + 1 + 1 + 1 + 1 + 1 + 1 + 1, 0, none⟩) 3 3] 54) := ⟨_, rfl⟩
        rw [show Code.wp Try.prog _ _ _ _ = Code.wp Try.prog _ _ _ wF from by rw [hF]]
        have HI2 : Hid (I32V wF wF.heap.size sl wl) := Lib.hid (by rw [hF]; exact HII.out)
        have HBC := Lib.hid (nextB HB7.out (show Below wr.heap.size wr wF by rw [hF]; exact HBF.out))
        clear hF HII HBF harr hcell hi10 HB7
        have hi2 := HI2.out
        obtain ⟨Aw, cw, hsl, _⟩ := hi2
        rw [HQ.out] at hsl
        subst hsl
        have O8 := Lib.hid (O7.out.later HBC.out)
        obtain ⟨b6, o6, hA6, _, _⟩ := lie_i32 O8.out.lies.2 (k := 0) (by rw [List.length_append, HN.out, HQ.out]; omega)
        subst hA6
        have hn6 := O8.out.lies.1
        have HD := Lib.hid (I32V.drop O8.out HN.out)
        have d11_3 : wF.cell? ⟨p11, 3, none⟩ = some (.slice (some ⟨b6, o6, none⟩) (n + q) c6) := cell_blk (heapLater HBC.out (Array.getElem?_eq_some_iff.1 F11.out).1 F11.out) 3
        have hc6 : n + q ≤ c6 := by
          obtain ⟨A', c', e, hc', _⟩ := O8.out
          injection e with e1 e2 e3
          subst e3; omega
        clear hn6
        go_wp2_with fail
        have hd2 := HD.out
        rw [show n + q - n = q by omega] at hd2
        refine (sameInts_any wF hd2 HI2.out (by rw [HQ.out]; omega)).mono ?_
        rintro e wG ⟨rfl, hb⟩
        rw [show intsB wl wl = true by simp [intsB]]
        have hbb := nextB HBC.out hb
        have d10_3 : wG.cell? ⟨p10, 3, none⟩ = some (.slice A4 (n + 2) c4) := cell_blk (heapLater hbb (Array.getElem?_eq_some_iff.1 F10.out).1 F10.out) 3
        have HE := Lib.hid (nextB B7.out hbb)
        have e2 : (((n + 2 : Nat) : Int) == (n : Int) + 2) = true := by simp
        clear hb hbb hd2 d11_3
        go_wp2_with fail
        go_ret
        exact ⟨rfl, HE.out⟩

/- The claim. -/

set_option maxRecDepth 100000 in
theorem lifted (os : Os) (started : os.Started) (H : Type) (enc : TypeId × Value → H) :
    ReturnsInHanded {} Try.checked os 13 .any (Rows.taskStacksSpec.pre6 enc Try.prog Try.f13 Rows.taskStacksRow.domain false) (Rows.taskStacksSpec.post enc Try.prog Try.f13 false true false false) := by
  refine returnsInHanded_of_change (C := Try.checked) ownKnobs started (by kernel_rfl) Try.func13
    (ChangeSpec.witness6 (enc := enc) (C := Try.checked) false ⟨#[], #[.slice none 0 0, .int .i32 0, .int .i32 0, .int .u8 0], []⟩ 8 (by kernel_rfl) (by kernel_rfl) (by kernel_rfl) (by kernel_rfl)) ?_
  intro W base args ds gs before hval hW _ _
  refine law_contract rfl rfl (fun ds h => by match ds, h with | [d1, d2, d3, d4], _ => rfl) (by decide +kernel) hW ?_
  obtain ⟨p, q, hA0, _⟩ := hW
  have hA : DataW.TrodAll enc Try.prog W 0 (fun _ => true) true Try.f13.params.toList args.toList ds p := hA0
  have hval' : ∀ (j : Nat) t v, Try.f13.params[j]? = some t → args[j]? = some v → Value.okWide Try.prog W .any base t v := hval
  rw [Try.params13] at hA hval'
  obtain ⟨v0, vs0, d0, ds0, p0, q0, hargs, rfl, rfl, h0, r0⟩ := trodAll_cons hA
  obtain ⟨v1, vs1, d1, ds1, p1, q1, rfl, rfl, rfl, h1, r1⟩ := trodAll_cons r0
  obtain ⟨v2, vs2, d2, ds2, p2, q2, rfl, rfl, rfl, h2, r2⟩ := trodAll_cons r1
  obtain ⟨v3, vs3, d3, ds3, p3, q3, rfl, rfl, rfl, h3, r3⟩ := trodAll_cons r2
  obtain ⟨rfl, rfl, rfl⟩ := trodAll_nil r3
  obtain rfl : args = #[v0, v1, v2, v3] := by cases args; simp_all
  obtain ⟨l0, y0, m0, x0⟩ := open_i32s (hval' 0 _ v0 rfl rfl) h0
  obtain ⟨a1, rfl, rfl, rfl, w1⟩ := open_int Try.underlying21 (hval' 1 _ v1 rfl rfl) h1
  have b1 : -2147483648 ≤ a1 ∧ a1 ≤ 2147483647 := by simpa [Lit.wf, IntKind.min, IntKind.max, IntKind.signed, IntKind.bits] using w1
  obtain ⟨a2, rfl, rfl, rfl, w2⟩ := open_int Try.underlying21 (hval' 2 _ v2 rfl rfl) h2
  have b2 : -2147483648 ≤ a2 ∧ a2 ≤ 2147483647 := by simpa [Lit.wf, IntKind.min, IntKind.max, IntKind.signed, IntKind.bits] using w2
  obtain ⟨z3, rfl, rfl, rfl, w3⟩ := open_int Try.underlying5 (hval' 3 _ v3 rfl rfl) h3
  have b3 : 0 ≤ z3 ∧ z3 ≤ 255 := by simpa [Lit.wf, IntKind.min, IntKind.max, IntKind.signed, IntKind.bits] using w3
  obtain ⟨a3, rfl⟩ : ∃ n : Nat, z3 = n := ⟨z3.toNat, by omega⟩
  exact walk l0 v0 a1 a2 a3 W y0 m0 x0 b1 b2

theorem proved : Rows.TaskStacksSaid :=
  OpenClaim.holds_of_wide 13 Try.f13 rfl rfl rfl rfl rfl rfl rfl ⟨rfl, rfl, rfl, rfl, rfl⟩ rfl rfl rfl rfl rfl (by kernel_rfl) Try.func13 (by kernel_rfl)
    (of_decide_eq_true (by kernel_rfl)) (by unfold Func.isWrapper; first | (rw [if_pos (by decide +kernel)]; kernel_rfl) | (rw [if_neg (by decide +kernel)]; exact ⟨rfl, rfl⟩))
    (fun os started H enc _ => lifted os started H enc)

end Go.Proofs.Ytjnlgmjcabbaaaa.taskStacks
