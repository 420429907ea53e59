/- Labels of a table; lists of labels: by the program and by the reference. -/
import Derived.Test.YtidjohhnggpibaaProps
import Derived.Test.YtidjohhnggpibaaApd
namespace Go.Proofs.Ytidjohhnggpibaa
open Go.RowKit

def okL (n : Nat) (x : Int) : Bool := decide (0 ≤ x) && decide (x < n)
theorem okL_iff {n : Nat} {x : Int} : okL n x = true ↔ 0 ≤ x ∧ x < n := by simp [okL]
theorem okL_lo {n : Nat} {x : Int} (h : x < 0) : okL n x = false := by simp [okL]; omega
theorem okL_hi {n : Nat} {x : Int} (h : (n : Int) ≤ x) : okL n x = false := by simp [okL]; omega
def inT (T : List (List Bool)) (x : Int) : Bool := sqB T && okL T.length x
def allIn (T : List (List Bool)) (l : List Int) : Bool := l.all (okL T.length) && sqB T

theorem lie_int {w : World} {B : Nat} {A : Option Addr} {l : List Int} (h : Lies w B A (i64s l)) {k : Nat} (hk : k < l.length) :
    ∃ b off, A = some ⟨b, off, none⟩ ∧ b < B ∧ w.cell? ⟨b, off + k, none⟩ = some (.int .i64 l[k]) := by
  obtain ⟨b, off, e, hb, hc⟩ := h.cell (k := k) (by simpa [i64s] using hk)
  exact ⟨b, off, e, hb, by rw [hc]; simp [i64s]⟩
theorem take_all {α : Type} {p : α → Bool} {l : List α} {k : Nat} (hk : k < l.length) (h : (l.take k).all p = true) (e : p l[k] = true) : (l.take (k + 1)).all p = true := by
  rw [List.take_succ_eq_append_getElem hk, List.all_append, h]
  simp [e]
theorem all_no {α : Type} {p : α → Bool} {l : List α} {k : Nat} (hk : k < l.length) (e : p l[k] = false) : l.all p = false := by
  cases hb : l.all p with
  | false => rfl
  | true => rw [List.all_eq_true.1 hb _ (List.getElem_mem hk)] at e; cases e
theorem all_end {α : Type} {p : α → Bool} {l : List α} {k : Nat} (hk : k = l.length) (h : (l.take k).all p = true) : l.all p = true := by
  subst hk; rwa [List.take_length] at h

set_option maxHeartbeats 1000000 in
theorem hasAll_any {B B2 : Nat} {v lv : Value} {T : List (List Bool)} {l : List Int} (w : World) (h : TabV w B v T) (hl : IntsV w B2 lv l) (hm : l.length ≤ 1000) :
    Calls Try.prog 60 #[v, lv] w fun e w' => e = .returned (.bool (allIn T l)) ∧ w = w' := by
  have hq := sq_any w h
  obtain ⟨A, c, rs, rfl, rfl, hL, hr⟩ := h
  clear hL hr
  obtain ⟨A2, c2, rfl, hl⟩ := hl
  have HL := Lib.hid hl; clear hl
  generalize hres : allIn (rowsOf rs) l = res
  have hn : (rowsOf rs).length = rs.length := by simp [rowsOf]
  unfold allIn at hres
  rw [hn] at hres
  clear hn
  generalize sqB (rowsOf rs) = sb at *
  generalize rs.length = n at *
  generalize hml : l.length = m at *
  have HM := Lib.hid hml; clear hml
  have HR := Lib.hid hres; clear hres
  have HQ := Lib.hid hq; clear hq
  go_enter Try.func60, Try.ntmps60
  go_wp2_with fail
  go_loop [9] (fun i => ∃ k : Nat, k ≤ m ∧ i = .int .i64 k ∧ (l.take k).all (okL n) = true) (fun i => m - (intOf i).toNat)
  case atStart => exact ⟨0, by omega, rfl, by simp⟩
  case round =>
    obtain ⟨k, hk, rfl, hp⟩ := hrel
    have HP := Lib.hid hp; clear hp
    by_cases hlt : k < m
    · have hkl : k < l.length := by rw [HM.out]; exact hlt
      obtain ⟨b, off, rfl, hb, c1⟩ := lie_int HL.out hkl
      have HX : Hid (∃ x, l[k] = x) := ⟨_, rfl⟩
      generalize hx : l[k] = x at *
      have HXE := Lib.hid hx; clear hx
      by_cases h0 : x < 0
      · obtain rfl : res = false := by rw [← HR.out, all_no hkl (by rw [HXE.out]; exact okL_lo h0)]; rfl
        go_wp2_with fail
        go_ret
        exact ⟨rfl, rfl⟩
      by_cases h1 : (n : Int) ≤ x
      · obtain rfl : res = false := by rw [← HR.out, all_no hkl (by rw [HXE.out]; exact okL_hi h1)]; rfl
        go_wp2_with fail
        go_ret
        exact ⟨rfl, rfl⟩
      have HK := Lib.hid (take_all hkl HP.out (by rw [HXE.out]; exact okL_iff.2 ⟨by omega, by omega⟩))
      go_wp2_with fail
      go_round
      case rel => exact ⟨k + 1, by omega, by go_num, HK.out⟩
      case measure => simp [intOf]; omega
    · obtain rfl : k = m := by omega
      obtain rfl : res = sb := by rw [← HR.out, all_end HM.out.symm HP.out]; simp
      go_wp2_with (refine HQ.out.mono ?_; rintro e w' ⟨rfl, rfl⟩)
      go_ret
      exact ⟨rfl, rfl⟩

set_option maxHeartbeats 1000000 in
theorem in_any {B : Nat} {v : Value} {T : List (List Bool)} {x : Int} (w : World) (h : TabV w B v T) :
    Calls Try.prog 51 #[v, .int .i64 x] w fun e w' => e = .returned (.bool (inT T x)) ∧ w = w' := by
  have hq := refSq_any w h
  obtain ⟨A, c, rs, rfl, rfl, hL, hr⟩ := h
  clear hL hr
  generalize hres : inT (rowsOf rs) x = res
  have hn : (rowsOf rs).length = rs.length := by simp [rowsOf]
  unfold inT at hres
  rw [hn] at hres
  clear hn
  generalize sqB (rowsOf rs) = sb at *
  generalize rs.length = n at *
  have HQ := Lib.hid hq; clear hq
  cases sb with
  | false =>
    obtain rfl : res = false := by rw [← hres]; rfl
    clear hres
    go_enter Try.func51, Try.ntmps51
    go_wp2_with (refine HQ.out.mono ?_; rintro e w' ⟨rfl, rfl⟩)
    go_ret
    exact ⟨rfl, rfl⟩
  | true =>
    by_cases h0 : x < 0
    · obtain rfl : res = false := by rw [← hres, okL_lo h0]; rfl
      clear hres
      go_enter Try.func51, Try.ntmps51
      go_wp2_with (refine HQ.out.mono ?_; rintro e w' ⟨rfl, rfl⟩)
      go_ret
      exact ⟨rfl, rfl⟩
    by_cases h1 : (n : Int) ≤ x
    · obtain rfl : res = false := by rw [← hres, okL_hi h1]; rfl
      clear hres
      have hd : decide (x < (n : Int)) = false := by simp; omega
      go_enter Try.func51, Try.ntmps51
      go_wp2_with (refine HQ.out.mono ?_; rintro e w' ⟨rfl, rfl⟩)
      go_ret
      exact ⟨rfl, rfl⟩
    · obtain rfl : res = true := by rw [← hres, okL_iff.2 ⟨by omega, by omega⟩]; rfl
      clear hres
      have hd : decide (x < (n : Int)) = true := by simp; omega
      go_enter Try.func51, Try.ntmps51
      go_wp2_with (refine HQ.out.mono ?_; rintro e w' ⟨rfl, rfl⟩)
      go_ret
      exact ⟨rfl, rfl⟩

def refAll (T : List (List Bool)) (l : List Int) : Bool := l.all (inT T) && decide (0 < l.length)

set_option maxHeartbeats 1000000 in
theorem all_any {B B2 : Nat} {v lv : Value} {T : List (List Bool)} {l : List Int} (w : World) (h : TabV w B v T) (hl : IntsV w B2 lv l) (hm : l.length ≤ 1000) :
    Calls Try.prog 59 #[v, lv] w fun e w' => e = .returned (.bool (refAll T l)) ∧ w = w' := by
  have HV := Lib.hid h; clear h
  obtain ⟨A2, c2, rfl, hl⟩ := hl
  have HL := Lib.hid hl; clear hl
  generalize hres : refAll T l = res
  unfold refAll at hres
  generalize hml : l.length = m at *
  have HM := Lib.hid hml; clear hml
  have HR := Lib.hid hres; clear hres
  go_enter Try.func59, Try.ntmps59
  go_wp2_with fail
  go_loop [5] (fun i => ∃ k : Nat, k ≤ m ∧ i = .int .i64 k ∧ (l.take k).all (inT T) = true) (fun i => m - (intOf i).toNat)
  case atStart => exact ⟨0, by omega, rfl, by simp⟩
  case round =>
    obtain ⟨k, hk, rfl, hp⟩ := hrel
    have HP := Lib.hid hp; clear hp
    by_cases hlt : k < m
    · have hkl : k < l.length := by rw [HM.out]; exact hlt
      obtain ⟨b, off, rfl, hb, c1⟩ := lie_int HL.out hkl
      generalize hx : l[k] = x at *
      have HXE := Lib.hid hx; clear hx
      have hi := in_any (x := x) w HV.out
      cases hin : inT T x with
      | false =>
        obtain rfl : res = false := by rw [← HR.out, all_no hkl (by rw [HXE.out]; exact hin)]; rfl
        rw [hin] at hi
        have HI := Lib.hid hi; clear hi hin
        go_wp2_with (refine HI.out.mono ?_; rintro e w' ⟨rfl, rfl⟩)
        go_ret
        exact ⟨rfl, rfl⟩
      | true =>
        have HK := Lib.hid (take_all hkl HP.out (by rw [HXE.out]; exact hin))
        rw [hin] at hi
        have HI := Lib.hid hi; clear hi hin
        go_wp2_with (refine HI.out.mono ?_; rintro e w' ⟨rfl, rfl⟩)
        go_round
        case rel => exact ⟨k + 1, by omega, by go_num, HK.out⟩
        case measure => simp [intOf]; omega
    · obtain rfl : k = m := by omega
      have hre : res = decide (0 < k) := by rw [← HR.out, all_end HM.out.symm HP.out]; simp
      have HRE := Lib.hid hre; clear hre
      go_wp2_with fail
      go_ret
      exact ⟨by rw [HRE.out]; simp, rfl⟩

end Go.Proofs.Ytidjohhnggpibaa
