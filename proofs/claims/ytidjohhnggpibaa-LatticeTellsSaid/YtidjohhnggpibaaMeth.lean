/- The methods of a lattice. -/
import Derived.Test.YtidjohhnggpibaaNew
namespace Go.Proofs.Ytidjohhnggpibaa
open Go.RowKit

theorem in_ok {T : List (List Bool)} (h : latB T = true) (x : Int) : inT T x = okL T.length x := by unfold inT; rw [lat_sq h]; rfl

theorem has_at {g n b c : Nat} (x : Int) (w : World) (hc : w.cell? ⟨g, 0, none⟩ = some (.slice (some ⟨b, 0, none⟩) n c)) :
    Calls Try.prog 50 #[.pointer (some ⟨g, 0, none⟩), .int .i64 x] w fun e w' => e = .returned (.bool (okL n x)) ∧ w = w' := by
  by_cases hlo : x < 0
  · rw [okL_lo hlo]
    have e1 : decide (0 ≤ x) = false := by simp; omega
    clear hlo
    go_enter Try.func50, Try.ntmps50
    go_wp2_with fail
    go_ret
    exact ⟨rfl, rfl⟩
  · by_cases hhi : x < n
    · rw [show okL n x = true from okL_iff.2 ⟨by omega, hhi⟩]
      have e1 : decide (0 ≤ x) = true := by simp; omega
      have e2 : decide (x < (n : Int)) = true := by simp; omega
      clear hlo hhi
      go_enter Try.func50, Try.ntmps50
      go_wp2_with fail
      go_ret
      exact ⟨rfl, rfl⟩
    · rw [okL_hi (by omega)]
      have e1 : decide (0 ≤ x) = true := by simp; omega
      have e2 : decide (x < (n : Int)) = false := by simp; omega
      clear hlo hhi
      go_enter Try.func50, Try.ntmps50
      go_wp2_with fail
      go_ret
      exact ⟨rfl, rfl⟩

theorem len_any {lo B g : Nat} {T : List (List Bool)} (w : World) (h : LatV w lo B g T) :
    Calls Try.prog 13 #[.pointer (some ⟨g, 0, none⟩)] w fun e w' => e = .returned (.int .i64 (T.length : Int)) ∧ w = w' := by
  obtain ⟨n, bq, cq, bj, cj, bm, cm, Gq, Cq, Gj, Cj, Gm, Cm, h⟩ := h
  have hc := h.c0
  rw [h.len]
  clear h
  go_enter Try.func13, Try.ntmps13
  go_wp2_with fail
  go_ret
  exact ⟨rfl, rfl⟩

theorem flowsT_yes {T : List (List Bool)} {a b : Nat} (h : latB T = true) (ha : a < T.length) (hb : b < T.length) : flowsT T a b = atT T a b := by
  unfold flowsT
  rw [in_ok h, in_ok h, okL_iff.2 ⟨by omega, by omega⟩, okL_iff.2 ⟨by omega, by omega⟩]; rfl

set_option maxHeartbeats 1000000 in
theorem flows_m {lo B g : Nat} {T : List (List Bool)} (x y : Int) (w : World) (h : LatV w lo B g T) :
    Calls Try.prog 18 #[.pointer (some ⟨g, 0, none⟩), .int .i64 x, .int .i64 y] w fun e w' => e = .returned (.bool (flowsT T x y)) ∧ w = w' := by
  have hlat := h.lat
  obtain ⟨n, bq, cq, bj, cj, bm, cm, Gq, Cq, Gj, Cj, Gm, Cm, h⟩ := h
  have hc := h.c0
  have Q1 := Lib.hid (has_at x w hc)
  have Q2 := Lib.hid (has_at y w hc)
  obtain ⟨s1, hs1⟩ : ∃ s, okL n x = s := ⟨_, rfl⟩
  obtain ⟨s2, hs2⟩ : ∃ s, okL n y = s := ⟨_, rfl⟩
  rw [hs1] at Q1
  rw [hs2] at Q2
  have HNO := Lib.hid (show (s1 && s2) = false → flowsT T x y = false by
    intro hno
    rw [← hs1, ← hs2, ← h.len, ← in_ok hlat x, ← in_ok hlat y] at hno
    unfold flowsT; rw [hno]; rfl)
  cases s1 with
  | false =>
    rw [HNO.out rfl]
    clear HNO Q2 h hs2
    go_enter Try.func18, Try.ntmps18
    go_wp2_with fail
    refine Q1.out.mono ?_
    rintro e w' ⟨rfl, rfl⟩
    go_wp2_with fail
    go_ret
    exact ⟨rfl, rfl⟩
  | true =>
  cases s2 with
  | false =>
    rw [HNO.out rfl]
    clear HNO h hs1
    go_enter Try.func18, Try.ntmps18
    go_wp2_with fail
    refine Q1.out.mono ?_
    rintro e w' ⟨rfl, rfl⟩
    go_wp2_with fail
    refine Q2.out.mono ?_
    rintro e w' ⟨rfl, rfl⟩
    go_wp2_with fail
    go_ret
    exact ⟨rfl, rfl⟩
  | true =>
  obtain ⟨a, rfl⟩ : ∃ a : Nat, x = a := ⟨x.toNat, by have := (okL_iff.1 hs1).1; omega⟩
  obtain ⟨b, rfl⟩ : ∃ b : Nat, y = b := ⟨y.toNat, by have := (okL_iff.1 hs2).1; omega⟩
  have ha : a < n := by have := (okL_iff.1 hs1).2; omega
  have hb : b < n := by have := (okL_iff.1 hs2).2; omega
  have t1 := h.leq.top a ha
  have t2 := h.leq.cel a b ha hb
  have tc := h.c0
  rw [flowsT_yes hlat (by rw [h.len]; exact ha) (by rw [h.len]; exact hb)]
  clear HNO hs1 hs2 h hlat
  generalize atT T a b = z at *
  go_enter Try.func18, Try.ntmps18
  go_wp2_with fail
  refine Q1.out.mono ?_
  rintro e w' ⟨rfl, rfl⟩
  go_wp2_with fail
  refine Q2.out.mono ?_
  rintro e w' ⟨rfl, rfl⟩
  go_wp2_with fail
  go_ret
  exact ⟨rfl, rfl⟩

set_option maxHeartbeats 1000000 in
theorem join_m {lo B g : Nat} {T : List (List Bool)} (x y : Int) (w : World) (h : LatV w lo B g T) :
    Calls Try.prog 20 #[.pointer (some ⟨g, 0, none⟩), .int .i64 x, .int .i64 y] w fun e w' => e = .returned (.int .i64 (joinZ T x y)) ∧ w = w' := by
  have hlat := h.lat
  obtain ⟨n, bq, cq, bj, cj, bm, cm, Gq, Cq, Gj, Cj, Gm, Cm, h⟩ := h
  have hc := h.c0
  have Q1 := Lib.hid (has_at x w hc)
  have Q2 := Lib.hid (has_at y w hc)
  obtain ⟨s1, hs1⟩ : ∃ s, okL n x = s := ⟨_, rfl⟩
  obtain ⟨s2, hs2⟩ : ∃ s, okL n y = s := ⟨_, rfl⟩
  rw [hs1] at Q1
  rw [hs2] at Q2
  have HNO := Lib.hid (show (s1 && s2) = false → joinZ T x y = -1 by
    intro hno
    rw [← hs1, ← hs2, ← h.len, ← in_ok hlat x, ← in_ok hlat y] at hno
    rw [two_in] at hno; exact joinZ_no hno)
  cases s1 with
  | false =>
    rw [HNO.out rfl]
    clear HNO Q2 h hs2
    go_enter Try.func20, Try.ntmps20
    go_wp2_with fail
    refine Q1.out.mono ?_
    rintro e w' ⟨rfl, rfl⟩
    go_wp2_with fail
    go_ret
    exact ⟨rfl, rfl⟩
  | true =>
  cases s2 with
  | false =>
    rw [HNO.out rfl]
    clear HNO h hs1
    go_enter Try.func20, Try.ntmps20
    go_wp2_with fail
    refine Q1.out.mono ?_
    rintro e w' ⟨rfl, rfl⟩
    go_wp2_with fail
    refine Q2.out.mono ?_
    rintro e w' ⟨rfl, rfl⟩
    go_wp2_with fail
    go_ret
    exact ⟨rfl, rfl⟩
  | true =>
  obtain ⟨a, rfl⟩ : ∃ a : Nat, x = a := ⟨x.toNat, by have := (okL_iff.1 hs1).1; omega⟩
  obtain ⟨b, rfl⟩ : ∃ b : Nat, y = b := ⟨y.toNat, by have := (okL_iff.1 hs2).1; omega⟩
  have ha : a < n := by have := (okL_iff.1 hs1).2; omega
  have hb : b < n := by have := (okL_iff.1 hs2).2; omega
  have t1 := h.jn.top a ha
  have t2 := h.jn.cel a b ha hb
  have tc := h.c1
  rw [joinZ_yes hlat (by rw [h.len]; exact ha) (by rw [h.len]; exact hb), h.len]
  clear HNO hs1 hs2 h hlat
  generalize jnN n (atT T) a b = z at *
  go_enter Try.func20, Try.ntmps20
  go_wp2_with fail
  refine Q1.out.mono ?_
  rintro e w' ⟨rfl, rfl⟩
  go_wp2_with fail
  refine Q2.out.mono ?_
  rintro e w' ⟨rfl, rfl⟩
  go_wp2_with fail
  go_ret
  exact ⟨rfl, rfl⟩

set_option maxHeartbeats 1000000 in
theorem meet_m {lo B g : Nat} {T : List (List Bool)} (x y : Int) (w : World) (h : LatV w lo B g T) :
    Calls Try.prog 22 #[.pointer (some ⟨g, 0, none⟩), .int .i64 x, .int .i64 y] w fun e w' => e = .returned (.int .i64 (meetZ T x y)) ∧ w = w' := by
  have hlat := h.lat
  obtain ⟨n, bq, cq, bj, cj, bm, cm, Gq, Cq, Gj, Cj, Gm, Cm, h⟩ := h
  have hc := h.c0
  have Q1 := Lib.hid (has_at x w hc)
  have Q2 := Lib.hid (has_at y w hc)
  obtain ⟨s1, hs1⟩ : ∃ s, okL n x = s := ⟨_, rfl⟩
  obtain ⟨s2, hs2⟩ : ∃ s, okL n y = s := ⟨_, rfl⟩
  rw [hs1] at Q1
  rw [hs2] at Q2
  have HNO := Lib.hid (show (s1 && s2) = false → meetZ T x y = -1 by
    intro hno
    rw [← hs1, ← hs2, ← h.len, ← in_ok hlat x, ← in_ok hlat y] at hno
    rw [two_in] at hno; exact meetZ_no hno)
  cases s1 with
  | false =>
    rw [HNO.out rfl]
    clear HNO Q2 h hs2
    go_enter Try.func22, Try.ntmps22
    go_wp2_with fail
    refine Q1.out.mono ?_
    rintro e w' ⟨rfl, rfl⟩
    go_wp2_with fail
    go_ret
    exact ⟨rfl, rfl⟩
  | true =>
  cases s2 with
  | false =>
    rw [HNO.out rfl]
    clear HNO h hs1
    go_enter Try.func22, Try.ntmps22
    go_wp2_with fail
    refine Q1.out.mono ?_
    rintro e w' ⟨rfl, rfl⟩
    go_wp2_with fail
    refine Q2.out.mono ?_
    rintro e w' ⟨rfl, rfl⟩
    go_wp2_with fail
    go_ret
    exact ⟨rfl, rfl⟩
  | true =>
  obtain ⟨a, rfl⟩ : ∃ a : Nat, x = a := ⟨x.toNat, by have := (okL_iff.1 hs1).1; omega⟩
  obtain ⟨b, rfl⟩ : ∃ b : Nat, y = b := ⟨y.toNat, by have := (okL_iff.1 hs2).1; omega⟩
  have ha : a < n := by have := (okL_iff.1 hs1).2; omega
  have hb : b < n := by have := (okL_iff.1 hs2).2; omega
  have t1 := h.mt.top a ha
  have t2 := h.mt.cel a b ha hb
  have tc := h.c2
  rw [meetZ_yes hlat (by rw [h.len]; exact ha) (by rw [h.len]; exact hb), h.len]
  clear HNO hs1 hs2 h hlat
  generalize jnN n (flipZ (atT T)) a b = z at *
  go_enter Try.func22, Try.ntmps22
  go_wp2_with fail
  refine Q1.out.mono ?_
  rintro e w' ⟨rfl, rfl⟩
  go_wp2_with fail
  refine Q2.out.mono ?_
  rintro e w' ⟨rfl, rfl⟩
  go_wp2_with fail
  go_ret
  exact ⟨rfl, rfl⟩

set_option maxHeartbeats 1000000 in
theorem fold_bottom {lo B g : Nat} {T : List (List Bool)} (w : World) (h : LatV w lo B g T) :
    Calls Try.prog 48 #[.pointer (some ⟨g, 0, none⟩), .func (.func 22) #[.pointer (some ⟨g, 0, none⟩)] #[]] w fun e w' => e = .returned (.int .i64 (botT T : Nat)) ∧ w = w' := by
  have HL := Lib.hid h.lat
  have HM := Lib.hid (fun x y => meet_m x y w h)
  obtain ⟨n, bq, cq, bj, cj, bm, cm, Gq, Cq, Gj, Cj, Gm, Cm, h⟩ := h
  have hc := h.c0
  have HN := Lib.hid h.len; clear h
  have hn : 1 ≤ n ∧ n ≤ 16 := by have := lat_len HL.out; rw [HN.out] at this; exact this
  have HJ := Lib.hid (show Jn n (flipZ (atT T)) by have := lat_mt HL.out; rw [HN.out] at this; exact this)
  go_enter Try.func48, Try.ntmps48
  go_wp2_with fail
  go_loop [5, 12] (fun o i => ∃ k c : Nat, k ≤ n ∧ i = .int .i64 k ∧ o = .int .i64 c ∧ c < n ∧ ∀ x, x < k → flipZ (atT T) x c = true) (fun _ i => n - (intOf i).toNat)
  case atStart => exact ⟨0, 0, by omega, rfl, rfl, by omega, fun _ h => by omega⟩
  case round =>
    obtain ⟨k, c, hk, rfl, rfl, hcn, hall⟩ := hrel
    have HA := Lib.hid hall; clear hall
    by_cases hkn : k < n
    · have hmz := HM.out (c : Int) (k : Int)
      rw [meetZ_yes HL.out (by rw [HN.out]; exact hcn) (by rw [HN.out]; exact hkn), HN.out] at hmz
      have HLT := Lib.hid (HJ.out.lt hcn hkn)
      have HNX := Lib.hid (show ∀ x, x < k + 1 → flipZ (atT T) x (jnN n (flipZ (atT T)) c k) = true from all_next (fun x hx => HJ.out.trans _ _ _ (by omega) hcn (HJ.out.lt hcn hkn) (HA.out x hx) (HJ.out.left hcn hkn)) (HJ.out.right hcn hkn))
      generalize jnN n (flipZ (atT T)) c k = d at *
      have HMZ := Lib.hid hmz; clear hmz
      go_wp2_with fail
      refine HMZ.out.mono ?_
      rintro e w' ⟨rfl, rfl⟩
      go_wp2_with fail
      go_round
      case rel => exact ⟨k + 1, d, by omega, by go_num, rfl, HLT.out, HNX.out⟩
      case measure => simp [intOf]; omega
    · obtain rfl : k = n := by omega
      have HE := Lib.hid (bot_of HL.out (by rw [HN.out]; exact hcn) (fun x hx => HA.out x (by rw [HN.out] at hx; exact hx)))
      go_wp2_with fail
      go_ret
      exact ⟨by rw [HE.out]; rfl, rfl⟩

theorem bottom_m {lo B g : Nat} {T : List (List Bool)} (w : World) (h : LatV w lo B g T) :
    Calls Try.prog 14 #[.pointer (some ⟨g, 0, none⟩)] w fun e w' => e = .returned (.int .i64 (botT T : Nat)) ∧ w = w' := by
  have Q := Lib.hid (fold_bottom w h); clear h
  go_enter Try.func14, Try.ntmps14
  go_wp2_with fail
  refine Q.out.mono ?_
  rintro e w' ⟨rfl, rfl⟩
  go_wp2_with fail
  go_ret
  exact ⟨rfl, rfl⟩

set_option maxHeartbeats 1000000 in
theorem fold_top {lo B g : Nat} {T : List (List Bool)} (w : World) (h : LatV w lo B g T) :
    Calls Try.prog 48 #[.pointer (some ⟨g, 0, none⟩), .func (.func 20) #[.pointer (some ⟨g, 0, none⟩)] #[]] w fun e w' => e = .returned (.int .i64 (topT T : Nat)) ∧ w = w' := by
  have HL := Lib.hid h.lat
  have HM := Lib.hid (fun x y => join_m x y w h)
  obtain ⟨n, bq, cq, bj, cj, bm, cm, Gq, Cq, Gj, Cj, Gm, Cm, h⟩ := h
  have hc := h.c0
  have HN := Lib.hid h.len; clear h
  have hn : 1 ≤ n ∧ n ≤ 16 := by have := lat_len HL.out; rw [HN.out] at this; exact this
  have HJ := Lib.hid (show Jn n (atT T) by have := lat_jn HL.out; rw [HN.out] at this; exact this)
  go_enter Try.func48, Try.ntmps48
  go_wp2_with fail
  go_loop [5, 12] (fun o i => ∃ k c : Nat, k ≤ n ∧ i = .int .i64 k ∧ o = .int .i64 c ∧ c < n ∧ ∀ x, x < k → atT T x c = true) (fun _ i => n - (intOf i).toNat)
  case atStart => exact ⟨0, 0, by omega, rfl, rfl, by omega, fun _ h => by omega⟩
  case round =>
    obtain ⟨k, c, hk, rfl, rfl, hcn, hall⟩ := hrel
    have HA := Lib.hid hall; clear hall
    by_cases hkn : k < n
    · have hmz := HM.out (c : Int) (k : Int)
      rw [joinZ_yes HL.out (by rw [HN.out]; exact hcn) (by rw [HN.out]; exact hkn), HN.out] at hmz
      have HLT := Lib.hid (HJ.out.lt hcn hkn)
      have HNX := Lib.hid (show ∀ x, x < k + 1 → atT T x (jnN n (atT T) c k) = true from all_next (fun x hx => HJ.out.trans _ _ _ (by omega) hcn (HJ.out.lt hcn hkn) (HA.out x hx) (HJ.out.left hcn hkn)) (HJ.out.right hcn hkn))
      generalize jnN n (atT T) c k = d at *
      have HMZ := Lib.hid hmz; clear hmz
      go_wp2_with fail
      refine HMZ.out.mono ?_
      rintro e w' ⟨rfl, rfl⟩
      go_wp2_with fail
      go_round
      case rel => exact ⟨k + 1, d, by omega, by go_num, rfl, HLT.out, HNX.out⟩
      case measure => simp [intOf]; omega
    · obtain rfl : k = n := by omega
      have HE := Lib.hid (top_of HL.out (by rw [HN.out]; exact hcn) (fun x hx => HA.out x (by rw [HN.out] at hx; exact hx)))
      go_wp2_with fail
      go_ret
      exact ⟨by rw [HE.out]; rfl, rfl⟩

theorem top_m {lo B g : Nat} {T : List (List Bool)} (w : World) (h : LatV w lo B g T) :
    Calls Try.prog 16 #[.pointer (some ⟨g, 0, none⟩)] w fun e w' => e = .returned (.int .i64 (topT T : Nat)) ∧ w = w' := by
  have Q := Lib.hid (fold_top w h); clear h
  go_enter Try.func16, Try.ntmps16
  go_wp2_with fail
  refine Q.out.mono ?_
  rintro e w' ⟨rfl, rfl⟩
  go_wp2_with fail
  go_ret
  exact ⟨rfl, rfl⟩

/-- The labels below, so far. -/
def belowK (T : List (List Bool)) (k : Nat) (a : Int) : List Nat := (List.range k).filter fun b => flowsT T b a
theorem belowK_yes {T : List (List Bool)} {k : Nat} {a : Int} (h : flowsT T k a = true) : belowK T (k + 1) a = belowK T k a ++ [k] := by
  unfold belowK
  rw [List.range_succ, List.filter_append]
  simp [h]
theorem belowK_no {T : List (List Bool)} {k : Nat} {a : Int} (h : flowsT T k a = false) : belowK T (k + 1) a = belowK T k a := by
  unfold belowK
  rw [List.range_succ, List.filter_append]
  simp [h]
theorem belowK_len (T : List (List Bool)) (k : Nat) (a : Int) : (belowK T k a).length ≤ k := by
  unfold belowK
  refine Nat.le_trans (List.length_filter_le _ _) ?_
  simp

set_option maxHeartbeats 2000000 in
theorem below_m {lo g : Nat} {T : List (List Bool)} (a : Int) (w : World) (h : LatV w lo w.heap.size g T) :
    Calls Try.prog 25 #[.pointer (some ⟨g, 0, none⟩), .int .i64 a] w (Made w (nats (belowT T a))) := by
  have HV := Lib.hid h
  have HL := Lib.hid h.lat
  obtain ⟨n, bq, cq, bj, cj, bm, cm, Gq, Cq, Gj, Cj, Gm, Cm, h⟩ := h
  have hc := h.c0
  have hgl := h.lt.2
  have HN := Lib.hid h.len; clear h
  have hn : 1 ≤ n ∧ n ≤ 16 := by have := lat_len HL.out; rw [HN.out] at this; exact this
  have HC := Lib.hid hc
  go_enter Try.func25, Try.ntmps25
  go_wp2_with fail
  clear hc
  go_loopw [5, 12] (fun v i wr => ∃ k : Nat, k ≤ n ∧ i = .int .i64 k ∧ wr.ownsRow w.heap.size 3 1 v (belowK T k a).length (i64s (nats (belowK T k a))) ∧ Below w.heap.size w wr) (fun _ i _ => n - (intOf i).toNat)
  case atStart => exact ⟨0, by omega, rfl, World.ownsRow_nil _ _ _ _, Below.refl _ _⟩
  case round =>
    obtain ⟨k, hk, rfl, ho, hb⟩ := hrel
    have hsz := hb.size
    have HO := Lib.hid ho; clear ho
    have HB := Lib.hid hb; clear hb
    have hln := belowK_len T k a
    by_cases hkn : k < n
    · have hq := flows_m (k : Int) a wr (HV.out.later HB.out)
      cases hz : flowsT T k a with
      | false =>
        have HE := Lib.hid (belowK_no hz)
        rw [hz] at hq
        have Q := Lib.hid hq; clear hq hz hln
        go_wp2_with fail
        refine Q.out.mono ?_
        rintro e w' ⟨rfl, rfl⟩
        go_wp2_with fail
        go_roundw
        case rel => exact ⟨k + 1, by omega, by go_num, by rw [HE.out]; exact HO.out, HB.out⟩
        case measure => simp [intOf]; omega
      | true =>
        have HE := Lib.hid (belowK_yes hz)
        rw [hz] at hq
        have Q := Lib.hid hq; clear hq hz
        obtain ⟨m, hm⟩ : ∃ m, (belowK T k a).length = m := ⟨_, rfl⟩
        rw [hm] at hln HO
        have HLN := Lib.hid hm; clear hm
        have HO2 := Lib.hid (HO.out.alloc (.cells #[.int .i64 (k : Int)] 3))
        go_wp2_with fail
        refine Q.out.mono ?_
        rintro e w' ⟨rfl, rfl⟩
        go_wp2_with (at_builtin; go_must (refine wpList_append_L 41 3 _ 8 Try.underlying41 inf_int rfl rfl _ _ rfl w.heap.size _ _ _ rfl HO2.out (wr.heap.size + 1) _ 1 1 [.int .i64 (k : Int)] rfl rfl (lies_new wr [.int .i64 (k : Int)] 3) ?c2 ?c3 ?c4 ?c5 ?_))
        case c2 => intro u hu; simp at hu; subst hu; rfl
        case c3 => omega
        case c4 => omega
        case c5 => simp; omega
        intro v3 w3 ho3 _ hb3
        have HO3 := Lib.hid ho3; clear ho3
        have HB3 := Lib.hid ((HB.out.trans ((below_alloc wr (.cells #[.int .i64 (k : Int)] 3)).mono hsz)).trans hb3); clear hb3
        have HLE := Lib.hid (show (belowK T (k + 1) a).length = m + 1 by rw [HE.out, List.length_append, List.length_singleton]; have := HLN.out; omega)
        go_wp2_with fail
        go_roundw
        case rel => exact ⟨k + 1, by omega, by go_num, by rw [HLE.out, HE.out, i64s_one]; exact HO3.out, HB3.out⟩
        case measure => simp [intOf]; omega
    · obtain rfl : k = n := by omega
      have HE := Lib.hid (show belowT T a = belowK T k a by unfold belowT belowK; rw [HN.out])
      clear hln
      go_wp2_with fail
      go_ret
      exact ⟨_, rfl, by rw [HE.out]; exact ints_own HO.out, HB.out⟩

end Go.Proofs.Ytidjohhnggpibaa
