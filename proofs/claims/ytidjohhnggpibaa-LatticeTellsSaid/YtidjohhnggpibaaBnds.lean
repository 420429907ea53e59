/- Upper and Lower, by the program and by the reference. -/
import Derived.Test.YtidjohhnggpibaaFlow
namespace Go.Proofs.Ytidjohhnggpibaa
open Go.RowKit

def upK (k : Nat) (Z : Nat → Nat → Bool) (a b : Nat) : List Nat := (List.range k).filter fun c => Z a c && Z b c
theorem upK_yes {k a b : Nat} {Z : Nat → Nat → Bool} (h : (Z a k && Z b k) = true) : upK (k + 1) Z a b = upK k Z a b ++ [k] := by
  unfold upK
  rw [List.range_succ, List.filter_append]
  simp [h]
theorem upK_no {k a b : Nat} {Z : Nat → Nat → Bool} (h : (Z a k && Z b k) = false) : upK (k + 1) Z a b = upK k Z a b := by
  unfold upK
  rw [List.range_succ, List.filter_append]
  have : List.filter (fun c => Z a c && Z b c) [k] = [] := by simp only [List.filter_cons, List.filter_nil]; rw [h]; rfl
  rw [this, List.append_nil]
theorem upK_length (k a b : Nat) (Z : Nat → Nat → Bool) : (upK k Z a b).length ≤ k := by
  unfold upK
  refine Nat.le_trans (List.length_filter_le _ _) ?_
  simp
theorem upK_lt {k a b x : Nat} {Z : Nat → Nat → Bool} (h : x ∈ upK k Z a b) : x < k := by
  unfold upK at h
  simpa using (List.mem_filter.1 h).1
def upperT (T : List (List Bool)) (a b : Int) : List Int := if inT T a && inT T b then nats (upK T.length (atT T) a.toNat b.toNat) else []
def lowerT (T : List (List Bool)) (a b : Int) : List Int := if inT T a && inT T b then nats (upK T.length (fun x y => atT T y x) a.toNat b.toNat) else []
theorem two_in {T : List (List Bool)} {a b : Int} : (inT T a && inT T b) = allIn T [a, b] := by
  unfold inT allIn
  cases sqB T <;> simp
theorem allIn_iff {T : List (List Bool)} {l : List Int} : allIn T l = true ↔ l.all (okL T.length) = true ∧ sqB T = true := by simp [allIn]
theorem upperT_no {T : List (List Bool)} {a b : Int} (h : allIn T [a, b] = false) : upperT T a b = [] := by unfold upperT; rw [two_in, h]; rfl
theorem lowerT_no {T : List (List Bool)} {a b : Int} (h : allIn T [a, b] = false) : lowerT T a b = [] := by unfold lowerT; rw [two_in, h]; rfl
theorem upper_yes {T : List (List Bool)} {a b : Nat} (h : allIn T [(a : Int), (b : Int)] = true) : upperT T a b = nats (upK T.length (atT T) a b) := by unfold upperT; rw [two_in, h]; rfl
theorem lower_yes {T : List (List Bool)} {a b : Nat} (h : allIn T [(a : Int), (b : Int)] = true) : lowerT T a b = nats (upK T.length (fun x y => atT T y x) a b) := by unfold lowerT; rw [two_in, h]; rfl
theorem labels_in {T : List (List Bool)} {a b : Int} (h : allIn T [a, b] = true) : sqB T = true ∧ (0 ≤ a ∧ a < T.length) ∧ 0 ≤ b ∧ b < T.length := by
  obtain ⟨h1, h2⟩ := allIn_iff.1 h
  simp only [List.all_cons, List.all_nil, Bool.and_true, Bool.and_eq_true] at h1
  exact ⟨h2, okL_iff.1 h1.1, okL_iff.1 h1.2⟩
theorem ints_nil (w : World) (B : Nat) : IntsV w B (.slice none 0 0) [] := ⟨none, 0, rfl, Lies.nil⟩
theorem ints_own {w : World} {base n : Nat} {v : Value} {l : List Nat} (h : w.ownsRow base 3 1 v n (i64s (nats l))) : IntsV w w.heap.size v (nats l) := by
  obtain ⟨A, c, rfl, _, _, hl, h2, _⟩ := Lies.of_own h
  refine ⟨A, c, ?_, h2⟩
  rw [← hl]; simp [i64s]

/-- What a function that makes a list of labels answers. -/
def Made (w : World) (l : List Int) (e : Ending) (w' : World) : Prop := ∃ v', e = .returned v' ∧ IntsV w' w'.heap.size v' l ∧ Below w.heap.size w w'
theorem Made.of_below {w w1 w2 : World} {l : List Int} {e : Ending} (h : Made w1 l e w2) (hb : Below w.heap.size w w1) : Made w l e w2 := by
  obtain ⟨v, h1, h2, h3⟩ := h; exact ⟨v, h1, h2, hb.trans (h3.mono hb.size)⟩

set_option maxHeartbeats 2000000 in
theorem upper_no {v : Value} {T : List (List Bool)} {a b : Int} (w : World) (h : TabV w w.heap.size v T) (hno : allIn T [a, b] = false) :
    Calls Try.prog 55 #[v, .int .i64 a, .int .i64 b] w (Made w []) := by
  have hq := hasAll_any (w.alloc (.cells #[.int .i64 a, .int .i64 b] 3)) (h.below (below_alloc w _)) (l := [a, b]) ⟨_, 2, rfl, lies_new w (i64s [a, b]) 3⟩ (by simp)
  rw [hno] at hq
  clear h hno
  go_enter Try.func55, Try.ntmps55
  go_wp2_with fail
  refine hq.mono ?_
  rintro e w' ⟨rfl, rfl⟩
  clear hq
  go_wp2_with fail
  go_ret
  exact ⟨_, rfl, ints_nil _ _, below_alloc w _⟩

set_option maxHeartbeats 2000000 in
theorem upper_any {v : Value} {T : List (List Bool)} {a b : Int} (w : World) (h : TabV w w.heap.size v T) :
    Calls Try.prog 55 #[v, .int .i64 a, .int .i64 b] w (Made w (upperT T a b)) := by
  cases hin : allIn T [a, b] with
  | false => rw [upperT_no hin]; exact upper_no w h hin
  | true =>
    obtain ⟨hs, ⟨ha0, ha1⟩, hb0, hb1⟩ := labels_in hin
    obtain ⟨a, rfl⟩ : ∃ q : Nat, a = q := ⟨a.toNat, by omega⟩
    obtain ⟨b, rfl⟩ : ∃ q : Nat, b = q := ⟨b.toNat, by omega⟩
    rw [upper_yes hin]
    obtain ⟨h1, h2, bk, off, c, G, O, C, rfl, hg⟩ := grid_of h hs
    have haN : a < T.length := by omega
    have hbN : b < T.length := by omega
    have hq := hasAll_any (w.alloc (.cells #[.int .i64 (a : Int), .int .i64 (b : Int)] 3)) (h.below (below_alloc w _)) (l := [(a : Int), (b : Int)]) ⟨_, 2, rfl, lies_new w (i64s [(a : Int), (b : Int)]) 3⟩ (by simp)
    rw [hin] at hq
    clear hin h hs ha0 ha1 hb0 hb1
    generalize T.length = n at *
    generalize atT T = Z at *
    have HG := Lib.hid hg; clear hg
    go_enter Try.func55, Try.ntmps55
    go_wp2_with fail
    refine hq.mono ?_
    rintro e w' ⟨rfl, rfl⟩
    clear hq
    go_wp2_with fail
    go_loopw [7, 17] (fun vo i wr => ∃ k m : Nat, k ≤ n ∧ i = .int .i64 k ∧ m ≤ k ∧ wr.ownsRow w.heap.size 3 1 vo m (i64s (nats (upK k Z a b))) ∧ Below w.heap.size w wr) (fun _ i _ => n - (intOf i).toNat)
    case atStart => exact ⟨0, 0, by omega, rfl, Nat.le_refl _, World.ownsRow_nil _ _ _ _, below_alloc w _⟩
    case round =>
      obtain ⟨k, m, hk, rfl, hmk, ho, hb⟩ := hrel
      have HO := Lib.hid ho; clear ho
      have hsz := hb.size
      have HB1 := Lib.hid hb; clear hb
      by_cases hlt : k < n
      · have c1 := (HG.out.below HB1.out).top a haN
        have c2 := (HG.out.below HB1.out).cel a k haN hlt
        have c3 := (HG.out.below HB1.out).top b hbN
        have c4 := (HG.out.below HB1.out).cel b k hbN hlt
        cases hz : (Z a k && Z b k) with
        | true =>
          obtain ⟨z1, z2⟩ : Z a k = true ∧ Z b k = true := by simpa using hz
          rw [z1] at c2
          rw [z2] at c4
          have HY := Lib.hid (show upK (k + 1) Z a b = upK k Z a b ++ [k] from upK_yes hz)
          clear hz z1 z2
          have HO2 := Lib.hid (HO.out.alloc (.cells #[.int .i64 (k : Int)] 3))
          go_wp2_with (at_builtin; go_must (refine wpList_append_L 41 3 _ 8 Try.underlying41 inf_int rfl rfl _ _ rfl w.heap.size _ _ _ rfl HO2.out (wr.heap.size + 1) _ 1 1 [.int .i64 (k : Int)] rfl rfl (lies_new wr [.int .i64 (k : Int)] 3) ?c2 ?c3 ?c4 ?c5 ?_))
          case c2 => intro u hu; simp at hu; subst hu; rfl
          case c3 => omega
          case c4 => omega
          case c5 => simp; omega
          intro v3 w3 ho3 _ hb3
          have HO3 := Lib.hid ho3; clear ho3
          have HB3 := Lib.hid ((HB1.out.trans ((below_alloc wr (.cells #[.int .i64 (k : Int)] 3)).mono hsz)).trans hb3); clear hb3
          go_wp2_with fail
          go_roundw
          case rel => exact ⟨k + 1, m + 1, by omega, by go_num, by omega, by rw [HY.out, nats_append]; simpa [i64s, nats] using HO3.out, HB3.out⟩
          case measure => simp [intOf]; omega
        | false =>
          have HY := Lib.hid (show upK (k + 1) Z a b = upK k Z a b from upK_no hz)
          cases z1 : Z a k with
          | false =>
            rw [z1] at c2
            clear hz z1
            go_wp2_with fail
            go_roundw
            case rel => exact ⟨k + 1, m, by omega, by go_num, by omega, by rw [HY.out]; exact HO.out, HB1.out⟩
            case measure => simp [intOf]; omega
          | true =>
            have z2 : Z b k = false := by rw [z1] at hz; simpa using hz
            rw [z1] at c2
            rw [z2] at c4
            clear hz z1 z2
            go_wp2_with fail
            go_roundw
            case rel => exact ⟨k + 1, m, by omega, by go_num, by omega, by rw [HY.out]; exact HO.out, HB1.out⟩
            case measure => simp [intOf]; omega
      · obtain rfl : k = n := by omega
        go_wp2_with fail
        go_ret
        exact ⟨_, rfl, ints_own HO.out, HB1.out⟩

set_option maxHeartbeats 2000000 in
theorem refUpper_no {v : Value} {T : List (List Bool)} {a b : Int} (w : World) (h : TabV w w.heap.size v T) (hno : allIn T [a, b] = false) :
    Calls Try.prog 45 #[v, .int .i64 a, .int .i64 b] w (Made w []) := by
  have ha := in_any (x := a) w h
  have hb := in_any (x := b) w h
  rw [← two_in] at hno
  obtain ⟨A, c, rs, rfl, rfl, hL, hr⟩ := h
  clear hL hr
  generalize rs.length = n at *
  generalize inT (rowsOf rs) a = ia at *
  generalize inT (rowsOf rs) b = ib at *
  have HA := Lib.hid ha; clear ha
  have HB := Lib.hid hb; clear hb
  by_cases hn : 0 < n
  · cases ia with
    | false =>
      clear hno
      go_enter Try.func45, Try.ntmps45
      go_wp2_with fail
      go_loop [7, 8] (fun o i => o = .slice none 0 0 ∧ i = .int .i64 0) (fun _ _ => 0)
      case atStart => exact ⟨rfl, rfl⟩
      case round =>
        obtain ⟨rfl, rfl⟩ := hrel
        go_wp2_with (refine HA.out.mono ?_; rintro e w' ⟨rfl, rfl⟩)
        go_ret
        exact ⟨_, rfl, ints_nil _ _, Below.refl _ _⟩
    | true =>
      obtain rfl : ib = false := by simpa using hno
      clear hno
      go_enter Try.func45, Try.ntmps45
      go_wp2_with fail
      go_loop [7, 8] (fun o i => o = .slice none 0 0 ∧ i = .int .i64 0) (fun _ _ => 0)
      case atStart => exact ⟨rfl, rfl⟩
      case round =>
        obtain ⟨rfl, rfl⟩ := hrel
        go_wp2_with fail
        refine HA.out.mono ?_
        rintro e w' ⟨rfl, rfl⟩
        go_wp2_with fail
        refine HB.out.mono ?_
        rintro e w' ⟨rfl, rfl⟩
        go_wp2_with fail
        go_ret
        exact ⟨_, rfl, ints_nil _ _, Below.refl _ _⟩
  · clear hno
    go_enter Try.func45, Try.ntmps45
    go_wp2_with fail
    go_loop [7, 8] (fun o i => o = .slice none 0 0 ∧ i = .int .i64 0) (fun _ _ => 0)
    case atStart => exact ⟨rfl, rfl⟩
    case round =>
      obtain ⟨rfl, rfl⟩ := hrel
      go_wp2_with fail
      go_ret
      exact ⟨_, rfl, ints_nil _ _, Below.refl _ _⟩

set_option maxHeartbeats 2000000 in
theorem refUpper_any {v : Value} {T : List (List Bool)} {a b : Int} (w : World) (h : TabV w w.heap.size v T) :
    Calls Try.prog 45 #[v, .int .i64 a, .int .i64 b] w (Made w (upperT T a b)) := by
  cases hin : allIn T [a, b] with
  | false => rw [upperT_no hin]; exact refUpper_no w h hin
  | true =>
    obtain ⟨hs, ⟨ha0, ha1⟩, hb0, hb1⟩ := labels_in hin
    obtain ⟨a, rfl⟩ : ∃ q : Nat, a = q := ⟨a.toNat, by omega⟩
    obtain ⟨b, rfl⟩ : ∃ q : Nat, b = q := ⟨b.toNat, by omega⟩
    rw [upper_yes hin]
    obtain ⟨h1, h2, bk, off, c, G, O, C, rfl, hg⟩ := grid_of h hs
    have haN : a < T.length := by omega
    have hbN : b < T.length := by omega
    have hqa := fun wr hb => in_any (x := (a : Int)) wr (TabV.below (w' := wr) h hb)
    have hqb := fun wr hb => in_any (x := (b : Int)) wr (TabV.below (w' := wr) h hb)
    rw [← two_in] at hin
    obtain ⟨hia, hib⟩ : inT T a = true ∧ inT T b = true := by simpa using hin
    rw [hia] at hqa
    rw [hib] at hqb
    have HA := Lib.hid hqa; clear hqa
    have HBB := Lib.hid hqb; clear hqb
    clear hin hia hib h hs ha0 ha1 hb0 hb1
    generalize T.length = n at *
    generalize atT T = Z at *
    have HG := Lib.hid hg; clear hg
    go_enter Try.func45, Try.ntmps45
    go_wp2_with fail
    go_loopw [7, 8] (fun vo i wr => ∃ k m : Nat, k ≤ n ∧ i = .int .i64 k ∧ m ≤ k ∧ wr.ownsRow w.heap.size 3 1 vo m (i64s (nats (upK k Z a b))) ∧ Below w.heap.size w wr) (fun _ i _ => n - (intOf i).toNat)
    case atStart => exact ⟨0, 0, by omega, rfl, Nat.le_refl _, World.ownsRow_nil _ _ _ _, Below.refl _ _⟩
    case round =>
      obtain ⟨k, m, hk, rfl, hmk, ho, hb⟩ := hrel
      have HO := Lib.hid ho; clear ho
      have hsz := hb.size
      have HB1 := Lib.hid hb; clear hb
      have HQA := Lib.hid (HA.out wr HB1.out)
      have HQB := Lib.hid (HBB.out wr HB1.out)
      by_cases hlt : k < n
      · have c1 := (HG.out.below HB1.out).top a haN
        have c2 := (HG.out.below HB1.out).cel a k haN hlt
        have c3 := (HG.out.below HB1.out).top b hbN
        have c4 := (HG.out.below HB1.out).cel b k hbN hlt
        cases hz : (Z a k && Z b k) with
        | true =>
          obtain ⟨z1, z2⟩ : Z a k = true ∧ Z b k = true := by simpa using hz
          rw [z1] at c2
          rw [z2] at c4
          have HY := Lib.hid (show upK (k + 1) Z a b = upK k Z a b ++ [k] from upK_yes hz)
          clear hz z1 z2
          have HO2 := Lib.hid (HO.out.alloc (.cells #[.int .i64 (k : Int)] 3))
          go_wp2_with fail
          refine HQA.out.mono ?_
          rintro e w' ⟨rfl, rfl⟩
          go_wp2_with fail
          refine HQB.out.mono ?_
          rintro e w' ⟨rfl, rfl⟩
          go_wp2_with (at_builtin; go_must (refine wpList_append_L 41 3 _ 8 Try.underlying41 inf_int rfl rfl _ _ rfl w.heap.size _ _ _ rfl HO2.out (wr.heap.size + 1) _ 1 1 [.int .i64 (k : Int)] rfl rfl (lies_new wr [.int .i64 (k : Int)] 3) ?c2 ?c3 ?c4 ?c5 ?_))
          case c2 => intro u hu; simp at hu; subst hu; rfl
          case c3 => omega
          case c4 => omega
          case c5 => simp; omega
          intro v3 w3 ho3 _ hb3
          have HO3 := Lib.hid ho3; clear ho3
          have HB3 := Lib.hid ((HB1.out.trans ((below_alloc wr (.cells #[.int .i64 (k : Int)] 3)).mono hsz)).trans hb3); clear hb3
          go_wp2_with fail
          go_roundw
          case rel => exact ⟨k + 1, m + 1, by omega, by go_num, by omega, by rw [HY.out, nats_append]; simpa [i64s, nats] using HO3.out, HB3.out⟩
          case measure => simp [intOf]; omega
        | false =>
          have HY := Lib.hid (show upK (k + 1) Z a b = upK k Z a b from upK_no hz)
          cases z1 : Z a k with
          | false =>
            rw [z1] at c2
            clear hz z1
            go_wp2_with fail
            refine HQA.out.mono ?_
            rintro e w' ⟨rfl, rfl⟩
            go_wp2_with fail
            refine HQB.out.mono ?_
            rintro e w' ⟨rfl, rfl⟩
            go_wp2_with fail
            go_roundw
            case rel => exact ⟨k + 1, m, by omega, by go_num, by omega, by rw [HY.out]; exact HO.out, HB1.out⟩
            case measure => simp [intOf]; omega
          | true =>
            have z2 : Z b k = false := by rw [z1] at hz; simpa using hz
            rw [z1] at c2
            rw [z2] at c4
            clear hz z1 z2
            go_wp2_with fail
            refine HQA.out.mono ?_
            rintro e w' ⟨rfl, rfl⟩
            go_wp2_with fail
            refine HQB.out.mono ?_
            rintro e w' ⟨rfl, rfl⟩
            go_wp2_with fail
            go_roundw
            case rel => exact ⟨k + 1, m, by omega, by go_num, by omega, by rw [HY.out]; exact HO.out, HB1.out⟩
            case measure => simp [intOf]; omega
      · obtain rfl : k = n := by omega
        go_wp2_with fail
        go_ret
        exact ⟨_, rfl, ints_own HO.out, HB1.out⟩

set_option maxHeartbeats 2000000 in
theorem lower_no {v : Value} {T : List (List Bool)} {a b : Int} (w : World) (h : TabV w w.heap.size v T) (hno : allIn T [a, b] = false) :
    Calls Try.prog 57 #[v, .int .i64 a, .int .i64 b] w (Made w []) := by
  have hq := hasAll_any (w.alloc (.cells #[.int .i64 a, .int .i64 b] 3)) (h.below (below_alloc w _)) (l := [a, b]) ⟨_, 2, rfl, lies_new w (i64s [a, b]) 3⟩ (by simp)
  rw [hno] at hq
  clear h hno
  go_enter Try.func57, Try.ntmps57
  go_wp2_with fail
  refine hq.mono ?_
  rintro e w' ⟨rfl, rfl⟩
  clear hq
  go_wp2_with fail
  go_ret
  exact ⟨_, rfl, ints_nil _ _, below_alloc w _⟩

set_option maxHeartbeats 2000000 in
theorem lower_any {v : Value} {T : List (List Bool)} {a b : Int} (w : World) (h : TabV w w.heap.size v T) :
    Calls Try.prog 57 #[v, .int .i64 a, .int .i64 b] w (Made w (lowerT T a b)) := by
  cases hin : allIn T [a, b] with
  | false => rw [lowerT_no hin]; exact lower_no w h hin
  | true =>
    obtain ⟨hs, ⟨ha0, ha1⟩, hb0, hb1⟩ := labels_in hin
    obtain ⟨a, rfl⟩ : ∃ q : Nat, a = q := ⟨a.toNat, by omega⟩
    obtain ⟨b, rfl⟩ : ∃ q : Nat, b = q := ⟨b.toNat, by omega⟩
    rw [lower_yes hin]
    obtain ⟨h1, h2, bk, off, c, G, O, C, rfl, hg⟩ := grid_of h hs
    have haN : a < T.length := by omega
    have hbN : b < T.length := by omega
    have hq := hasAll_any (w.alloc (.cells #[.int .i64 (a : Int), .int .i64 (b : Int)] 3)) (h.below (below_alloc w _)) (l := [(a : Int), (b : Int)]) ⟨_, 2, rfl, lies_new w (i64s [(a : Int), (b : Int)]) 3⟩ (by simp)
    rw [hin] at hq
    clear hin h hs ha0 ha1 hb0 hb1
    generalize T.length = n at *
    generalize atT T = Z at *
    have HG := Lib.hid hg; clear hg
    go_enter Try.func57, Try.ntmps57
    go_wp2_with fail
    refine hq.mono ?_
    rintro e w' ⟨rfl, rfl⟩
    clear hq
    go_wp2_with fail
    go_loopw [7, 17] (fun vo i wr => ∃ k m : Nat, k ≤ n ∧ i = .int .i64 k ∧ m ≤ k ∧ wr.ownsRow w.heap.size 3 1 vo m (i64s (nats (upK k (fun x y => Z y x) a b))) ∧ Below w.heap.size w wr) (fun _ i _ => n - (intOf i).toNat)
    case atStart => exact ⟨0, 0, by omega, rfl, Nat.le_refl _, World.ownsRow_nil _ _ _ _, below_alloc w _⟩
    case round =>
      obtain ⟨k, m, hk, rfl, hmk, ho, hb⟩ := hrel
      have HO := Lib.hid ho; clear ho
      have hsz := hb.size
      have HB1 := Lib.hid hb; clear hb
      by_cases hlt : k < n
      · have c1 := (HG.out.below HB1.out).top k hlt
        have c2 := (HG.out.below HB1.out).cel k a hlt haN
        have c4 := (HG.out.below HB1.out).cel k b hlt hbN
        cases hz : (Z k a && Z k b) with
        | true =>
          obtain ⟨z1, z2⟩ : Z k a = true ∧ Z k b = true := by simpa using hz
          rw [z1] at c2
          rw [z2] at c4
          have HY := Lib.hid (show upK (k + 1) (fun x y => Z y x) a b = upK k (fun x y => Z y x) a b ++ [k] from upK_yes hz)
          clear hz z1 z2
          have HO2 := Lib.hid (HO.out.alloc (.cells #[.int .i64 (k : Int)] 3))
          go_wp2_with (at_builtin; go_must (refine wpList_append_L 41 3 _ 8 Try.underlying41 inf_int rfl rfl _ _ rfl w.heap.size _ _ _ rfl HO2.out (wr.heap.size + 1) _ 1 1 [.int .i64 (k : Int)] rfl rfl (lies_new wr [.int .i64 (k : Int)] 3) ?c2 ?c3 ?c4 ?c5 ?_))
          case c2 => intro u hu; simp at hu; subst hu; rfl
          case c3 => omega
          case c4 => omega
          case c5 => simp; omega
          intro v3 w3 ho3 _ hb3
          have HO3 := Lib.hid ho3; clear ho3
          have HB3 := Lib.hid ((HB1.out.trans ((below_alloc wr (.cells #[.int .i64 (k : Int)] 3)).mono hsz)).trans hb3); clear hb3
          go_wp2_with fail
          go_roundw
          case rel => exact ⟨k + 1, m + 1, by omega, by go_num, by omega, by rw [HY.out, nats_append]; simpa [i64s, nats] using HO3.out, HB3.out⟩
          case measure => simp [intOf]; omega
        | false =>
          have HY := Lib.hid (show upK (k + 1) (fun x y => Z y x) a b = upK k (fun x y => Z y x) a b from upK_no hz)
          cases z1 : Z k a with
          | false =>
            rw [z1] at c2
            clear hz z1
            go_wp2_with fail
            go_roundw
            case rel => exact ⟨k + 1, m, by omega, by go_num, by omega, by rw [HY.out]; exact HO.out, HB1.out⟩
            case measure => simp [intOf]; omega
          | true =>
            have z2 : Z k b = false := by rw [z1] at hz; simpa using hz
            rw [z1] at c2
            rw [z2] at c4
            clear hz z1 z2
            go_wp2_with fail
            go_roundw
            case rel => exact ⟨k + 1, m, by omega, by go_num, by omega, by rw [HY.out]; exact HO.out, HB1.out⟩
            case measure => simp [intOf]; omega
      · obtain rfl : k = n := by omega
        go_wp2_with fail
        go_ret
        exact ⟨_, rfl, ints_own HO.out, HB1.out⟩

set_option maxHeartbeats 2000000 in
theorem refLower_no {v : Value} {T : List (List Bool)} {a b : Int} (w : World) (h : TabV w w.heap.size v T) (hno : allIn T [a, b] = false) :
    Calls Try.prog 47 #[v, .int .i64 a, .int .i64 b] w (Made w []) := by
  have ha := in_any (x := a) w h
  have hb := in_any (x := b) w h
  rw [← two_in] at hno
  obtain ⟨A, c, rs, rfl, rfl, hL, hr⟩ := h
  clear hL hr
  generalize rs.length = n at *
  generalize inT (rowsOf rs) a = ia at *
  generalize inT (rowsOf rs) b = ib at *
  have HA := Lib.hid ha; clear ha
  have HB := Lib.hid hb; clear hb
  by_cases hn : 0 < n
  · cases ia with
    | false =>
      clear hno
      go_enter Try.func47, Try.ntmps47
      go_wp2_with fail
      go_loop [7, 8] (fun o i => o = .slice none 0 0 ∧ i = .int .i64 0) (fun _ _ => 0)
      case atStart => exact ⟨rfl, rfl⟩
      case round =>
        obtain ⟨rfl, rfl⟩ := hrel
        go_wp2_with (refine HA.out.mono ?_; rintro e w' ⟨rfl, rfl⟩)
        go_ret
        exact ⟨_, rfl, ints_nil _ _, Below.refl _ _⟩
    | true =>
      obtain rfl : ib = false := by simpa using hno
      clear hno
      go_enter Try.func47, Try.ntmps47
      go_wp2_with fail
      go_loop [7, 8] (fun o i => o = .slice none 0 0 ∧ i = .int .i64 0) (fun _ _ => 0)
      case atStart => exact ⟨rfl, rfl⟩
      case round =>
        obtain ⟨rfl, rfl⟩ := hrel
        go_wp2_with fail
        refine HA.out.mono ?_
        rintro e w' ⟨rfl, rfl⟩
        go_wp2_with fail
        refine HB.out.mono ?_
        rintro e w' ⟨rfl, rfl⟩
        go_wp2_with fail
        go_ret
        exact ⟨_, rfl, ints_nil _ _, Below.refl _ _⟩
  · clear hno
    go_enter Try.func47, Try.ntmps47
    go_wp2_with fail
    go_loop [7, 8] (fun o i => o = .slice none 0 0 ∧ i = .int .i64 0) (fun _ _ => 0)
    case atStart => exact ⟨rfl, rfl⟩
    case round =>
      obtain ⟨rfl, rfl⟩ := hrel
      go_wp2_with fail
      go_ret
      exact ⟨_, rfl, ints_nil _ _, Below.refl _ _⟩

set_option maxHeartbeats 2000000 in
theorem refLower_any {v : Value} {T : List (List Bool)} {a b : Int} (w : World) (h : TabV w w.heap.size v T) :
    Calls Try.prog 47 #[v, .int .i64 a, .int .i64 b] w (Made w (lowerT T a b)) := by
  cases hin : allIn T [a, b] with
  | false => rw [lowerT_no hin]; exact refLower_no w h hin
  | true =>
    obtain ⟨hs, ⟨ha0, ha1⟩, hb0, hb1⟩ := labels_in hin
    obtain ⟨a, rfl⟩ : ∃ q : Nat, a = q := ⟨a.toNat, by omega⟩
    obtain ⟨b, rfl⟩ : ∃ q : Nat, b = q := ⟨b.toNat, by omega⟩
    rw [lower_yes hin]
    obtain ⟨h1, h2, bk, off, c, G, O, C, rfl, hg⟩ := grid_of h hs
    have haN : a < T.length := by omega
    have hbN : b < T.length := by omega
    have hqa := fun wr hb => in_any (x := (a : Int)) wr (TabV.below (w' := wr) h hb)
    have hqb := fun wr hb => in_any (x := (b : Int)) wr (TabV.below (w' := wr) h hb)
    rw [← two_in] at hin
    obtain ⟨hia, hib⟩ : inT T a = true ∧ inT T b = true := by simpa using hin
    rw [hia] at hqa
    rw [hib] at hqb
    have HA := Lib.hid hqa; clear hqa
    have HBB := Lib.hid hqb; clear hqb
    clear hin hia hib h hs ha0 ha1 hb0 hb1
    generalize T.length = n at *
    generalize atT T = Z at *
    have HG := Lib.hid hg; clear hg
    go_enter Try.func47, Try.ntmps47
    go_wp2_with fail
    go_loopw [7, 8] (fun vo i wr => ∃ k m : Nat, k ≤ n ∧ i = .int .i64 k ∧ m ≤ k ∧ wr.ownsRow w.heap.size 3 1 vo m (i64s (nats (upK k (fun x y => Z y x) a b))) ∧ Below w.heap.size w wr) (fun _ i _ => n - (intOf i).toNat)
    case atStart => exact ⟨0, 0, by omega, rfl, Nat.le_refl _, World.ownsRow_nil _ _ _ _, Below.refl _ _⟩
    case round =>
      obtain ⟨k, m, hk, rfl, hmk, ho, hb⟩ := hrel
      have HO := Lib.hid ho; clear ho
      have hsz := hb.size
      have HB1 := Lib.hid hb; clear hb
      have HQA := Lib.hid (HA.out wr HB1.out)
      have HQB := Lib.hid (HBB.out wr HB1.out)
      by_cases hlt : k < n
      · have c1 := (HG.out.below HB1.out).top k hlt
        have c2 := (HG.out.below HB1.out).cel k a hlt haN
        have c4 := (HG.out.below HB1.out).cel k b hlt hbN
        cases hz : (Z k a && Z k b) with
        | true =>
          obtain ⟨z1, z2⟩ : Z k a = true ∧ Z k b = true := by simpa using hz
          rw [z1] at c2
          rw [z2] at c4
          have HY := Lib.hid (show upK (k + 1) (fun x y => Z y x) a b = upK k (fun x y => Z y x) a b ++ [k] from upK_yes hz)
          clear hz z1 z2
          have HO2 := Lib.hid (HO.out.alloc (.cells #[.int .i64 (k : Int)] 3))
          go_wp2_with fail
          refine HQA.out.mono ?_
          rintro e w' ⟨rfl, rfl⟩
          go_wp2_with fail
          refine HQB.out.mono ?_
          rintro e w' ⟨rfl, rfl⟩
          go_wp2_with (at_builtin; go_must (refine wpList_append_L 41 3 _ 8 Try.underlying41 inf_int rfl rfl _ _ rfl w.heap.size _ _ _ rfl HO2.out (wr.heap.size + 1) _ 1 1 [.int .i64 (k : Int)] rfl rfl (lies_new wr [.int .i64 (k : Int)] 3) ?c2 ?c3 ?c4 ?c5 ?_))
          case c2 => intro u hu; simp at hu; subst hu; rfl
          case c3 => omega
          case c4 => omega
          case c5 => simp; omega
          intro v3 w3 ho3 _ hb3
          have HO3 := Lib.hid ho3; clear ho3
          have HB3 := Lib.hid ((HB1.out.trans ((below_alloc wr (.cells #[.int .i64 (k : Int)] 3)).mono hsz)).trans hb3); clear hb3
          go_wp2_with fail
          go_roundw
          case rel => exact ⟨k + 1, m + 1, by omega, by go_num, by omega, by rw [HY.out, nats_append]; simpa [i64s, nats] using HO3.out, HB3.out⟩
          case measure => simp [intOf]; omega
        | false =>
          have HY := Lib.hid (show upK (k + 1) (fun x y => Z y x) a b = upK k (fun x y => Z y x) a b from upK_no hz)
          cases z1 : Z k a with
          | false =>
            rw [z1] at c2
            clear hz z1
            go_wp2_with fail
            refine HQA.out.mono ?_
            rintro e w' ⟨rfl, rfl⟩
            go_wp2_with fail
            refine HQB.out.mono ?_
            rintro e w' ⟨rfl, rfl⟩
            go_wp2_with fail
            go_roundw
            case rel => exact ⟨k + 1, m, by omega, by go_num, by omega, by rw [HY.out]; exact HO.out, HB1.out⟩
            case measure => simp [intOf]; omega
          | true =>
            have z2 : Z k b = false := by rw [z1] at hz; simpa using hz
            rw [z1] at c2
            rw [z2] at c4
            clear hz z1 z2
            go_wp2_with fail
            refine HQA.out.mono ?_
            rintro e w' ⟨rfl, rfl⟩
            go_wp2_with fail
            refine HQB.out.mono ?_
            rintro e w' ⟨rfl, rfl⟩
            go_wp2_with fail
            go_roundw
            case rel => exact ⟨k + 1, m, by omega, by go_num, by omega, by rw [HY.out]; exact HO.out, HB1.out⟩
            case measure => simp [intOf]; omega
      · obtain rfl : k = n := by omega
        go_wp2_with fail
        go_ret
        exact ⟨_, rfl, ints_own HO.out, HB1.out⟩

end Go.Proofs.Ytidjohhnggpibaa
