/- Instructions as values; which are right; the functions of package instr and of the reference that say so. (Cut out of s6/XIns.) -/
import Derived.Test.YtjnlgmjcabbaaaaWhich
import Derived.Test.YtjnlgmjcabbaaaaNums
namespace Go.Proofs.Ytjnlgmjcabbaaaa
set_option maxRecDepth 100000
open Go.RowKit

/-- An instruction as a value. -/
def insV (op arg : Int) : Value := .agg #[.int .i64 op, .int .i32 arg]
def rightB (op arg : Int) : Bool := knownB op && (if argZ op = 0 then arg == 0 else (decide (0 ≤ arg) || argZ op == 1))
def I32 (x : Int) : Prop := -2147483648 ≤ x ∧ x ≤ 2147483647

theorem argZ_unknown {op : Int} (h : knownB op = false) : argZ op = 0 := by
  have h2 : ¬ (1 ≤ op ∧ op ≤ 26) := fun h2 => by rw [(knownB_iff op).2 h2] at h; cases h
  unfold argZ
  rw [numberB_not (by omega), placeB_not (by omega), localB_not (by omega), tagB_not (by omega), functionB_not (by omega), portB_not (by omega)]; rfl
theorem known_argZ {op : Int} (h : argZ op ≠ 0) : knownB op = true := by
  cases hk : knownB op with
  | true => rfl
  | false => exact absurd (argZ_unknown hk) h
theorem rightB_known {op arg : Int} (h : rightB op arg = true) : knownB op = true := by
  unfold rightB at h; rw [Bool.and_eq_true] at h; exact h.1
theorem argZ_range (op : Int) : 0 ≤ argZ op ∧ argZ op ≤ 6 := by
  unfold argZ
  split
  · omega
  · split
    · omega
    · split
      · omega
      · split
        · omega
        · split
          · omega
          · split <;> omega

set_option maxHeartbeats 1000000 in
theorem hasArg_any (op : Int) (w : World) : Calls Try.prog 104 #[.int .i64 op] w fun e w' => e = .returned (.bool (argZ op != 0)) ∧ Below w.heap.size w w' := by
  go_enter Try.func104, Try.ntmps104
  go_wp2_with fail
  refine (arg_any op w).mono ?_
  rintro e w1 ⟨rfl, hb⟩
  go_wp2_with fail
  go_ret
  exact ⟨rfl, hb⟩

set_option maxHeartbeats 4000000 in
theorem right_any (op arg : Int) (w : World) : Calls Try.prog 77 #[insV op arg] w fun e w' => e = .returned (.bool (rightB op arg)) ∧ Below w.heap.size w w' := by
  obtain ⟨z, hz⟩ : ∃ z, argZ op = z := ⟨_, rfl⟩
  obtain ⟨k, hk⟩ : ∃ k, knownB op = k := ⟨_, rfl⟩
  obtain ⟨r, hr⟩ : ∃ r, rightB op arg = r := ⟨_, rfl⟩
  have R := Lib.hid (show r = (k && (if z = 0 then arg == 0 else (decide (0 ≤ arg) || z == 1))) by rw [← hr]; unfold rightB; rw [hz, hk])
  have HK : Hid (∀ w, Calls Try.prog 88 #[.int .i64 op] w fun e w' => e = .returned (.bool k) ∧ w' = w) := Lib.hid fun w => by rw [← hk]; exact known_any op w
  have HA : Hid (∀ w, Calls Try.prog 78 #[.int .i64 op] w fun e w' => e = .returned (.int .i64 z) ∧ Below w.heap.size w w') := Lib.hid fun w => by rw [← hz]; exact arg_any op w
  have HH : Hid (∀ w, Calls Try.prog 104 #[.int .i64 op] w fun e w' => e = .returned (.bool (z != 0)) ∧ Below w.heap.size w w') := Lib.hid fun w => by rw [← hz]; exact hasArg_any op w
  rw [hr]
  clear hz hk hr
  unfold insV
  have B0 := Lib.hid (below_alloc w (.cells #[.int .i64 op, .int .i32 arg] 32))
  go_enter Try.func77, Try.ntmps77
  go_wp2_with fail
  refine (HK.out _).mono ?_
  rintro e w' ⟨rfl, rfl⟩
  cases k with
  | false =>
    go_wp2_with fail
    go_ret
    exact ⟨by rw [R.out]; rfl, B0.out⟩
  | true =>
    go_wp2_with fail
    refine (HH.out _).mono ?_
    rintro e w2 ⟨rfl, hb⟩
    have c0 : w2.cell? ⟨w.heap.size, 0, none⟩ = some (.int .i64 op) := (hb.cell (p := ⟨w.heap.size, 0, none⟩) (by simp)).trans (cell_blk (heap_alloc_new w _) 0)
    have c1 : w2.cell? ⟨w.heap.size, 1, none⟩ = some (.int .i32 arg) := (hb.cell (p := ⟨w.heap.size, 1, none⟩) (by simp)).trans (cell_blk (heap_alloc_new w _) 1)
    have B2 := Lib.hid (nextB B0.out hb); clear hb
    by_cases hz : z = 0
    · subst hz
      go_wp2_with fail
      go_ret
      exact ⟨by rw [R.out]; simp, B2.out⟩
    · have hz2 : (z != 0) = true := by simpa using hz
      rw [hz2]
      by_cases ha : 0 ≤ arg
      · go_wp2_with fail
        go_ret
        exact ⟨by rw [R.out]; simp [hz, ha], B2.out⟩
      · go_wp2_with fail
        refine (HA.out _).mono ?_
        rintro e w3 ⟨rfl, hb⟩
        have B3 := Lib.hid (nextB B2.out hb); clear hb
        go_wp2_with fail
        go_ret
        exact ⟨by rw [R.out]; simp [hz], B3.out⟩

set_option maxHeartbeats 4000000 in
theorem refRight_any (op arg : Int) (w : World) : Calls Try.prog 82 #[insV op arg] w fun e w' => e = .returned (.bool (rightB op arg)) ∧ Below w.heap.size w w' := by
  obtain ⟨z, hz⟩ : ∃ z, argZ op = z := ⟨_, rfl⟩
  obtain ⟨k, hk⟩ : ∃ k, knownB op = k := ⟨_, rfl⟩
  obtain ⟨r, hr⟩ : ∃ r, rightB op arg = r := ⟨_, rfl⟩
  have R := Lib.hid (show r = (k && (if z = 0 then arg == 0 else (decide (0 ≤ arg) || z == 1))) by rw [← hr]; unfold rightB; rw [hz, hk])
  have KZ : z ≠ 0 → k = true := fun h => by rw [← hk]; exact known_argZ (by rw [hz]; exact h)
  have HK : Hid (∀ w, Calls Try.prog 114 #[.int .i64 op] w fun e w' => e = .returned (.bool k) ∧ w' = w) := Lib.hid fun w => by rw [← hk]; exact refKnown_any op w
  have HA : Hid (∀ w, Calls Try.prog 27 #[.int .i64 op] w fun e w' => e = .returned (.int .i64 z) ∧ w' = w) := Lib.hid fun w => by rw [← hz]; exact refArg_any op w
  rw [hr]
  clear hz hk hr
  unfold insV
  have B0 := Lib.hid (below_alloc w (.cells #[.int .i64 op, .int .i32 arg] 32))
  go_enter Try.func82, Try.ntmps82
  go_wp2_with fail
  refine (HA.out _).mono ?_
  rintro e w' ⟨rfl, rfl⟩
  by_cases hz : z = 0
  · subst hz
    clear KZ
    go_wp2_with fail
    refine (HK.out _).mono ?_
    rintro e w' ⟨rfl, rfl⟩
    cases k with
    | false =>
      go_wp2_with fail
      go_ret
      exact ⟨by rw [R.out]; rfl, B0.out⟩
    | true =>
      go_wp2_with fail
      go_ret
      exact ⟨by rw [R.out]; simp, B0.out⟩
  · have hk := KZ hz
    subst hk
    clear KZ
    by_cases hz1 : z = 1
    · subst hz1
      go_wp2_with fail
      go_ret
      exact ⟨by rw [R.out]; simp, B0.out⟩
    · go_wp2_with fail
      go_ret
      exact ⟨by rw [R.out]; simp [hz, hz1], B0.out⟩

end Go.Proofs.Ytjnlgmjcabbaaaa
