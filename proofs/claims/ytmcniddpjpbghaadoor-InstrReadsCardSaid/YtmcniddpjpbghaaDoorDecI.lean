/- The reference's decimal numerals and texts. -/
import Derived.Test.YtmcniddpjpbghaaDoorTextI
import Derived.Lib.QuietBelow
import Derived.Laws.Concat
import Derived.Laws.DeepStrings4
namespace Go.Proofs.YtmcniddpjpbghaaDoor
set_option maxRecDepth 100000
open Go.RowKit Go.Sort

theorem digit_extract : ∀ n, n < 10 → (⟨#[48, 49, 50, 51, 52, 53, 54, 55, 56, 57]⟩ : ByteArray).extract n (n + 1) = ⟨(Lib.decDigits n).toArray⟩ := by
  intro n h
  rw [Lib.decDigits, dif_pos h]
  match n, h with
  | 0, _ => rfl
  | 1, _ => rfl
  | 2, _ => rfl
  | 3, _ => rfl
  | 4, _ => rfl
  | 5, _ => rfl
  | 6, _ => rfl
  | 7, _ => rfl
  | 8, _ => rfl
  | 9, _ => rfl
theorem append_list (l m : List UInt8) : (⟨l.toArray⟩ : ByteArray) ++ ⟨m.toArray⟩ = ⟨(l ++ m).toArray⟩ := by
  refine WideShapes.bytes_inj ?_
  simp
theorem dec_more' (n : Nat) (h : ¬ n < 10) : Lib.decDigits n = Lib.decDigits (n / 10) ++ Lib.decDigits (n % 10) := by
  have h2 : n % 10 < 10 := by omega
  rw [Lib.decDigits, dif_neg h]
  congr 1
  rw [Lib.decDigits, dif_pos h2]

theorem dd_len : ∀ k n, n < 10 ^ (k + 1) → (Lib.decDigits n).length ≤ k + 1 := by
  intro k
  induction k with
  | zero => intro n h; rw [Lib.decDigits, dif_pos (by omega)]; simp
  | succ k ih =>
    intro n h
    by_cases h10 : n < 10
    · rw [Lib.decDigits, dif_pos h10]; simp
    · rw [Lib.decDigits, dif_neg h10, List.length_append]
      have := ih (n / 10) (by rw [Nat.pow_succ] at h; omega)
      simp; omega

set_option maxHeartbeats 2000000 in
theorem dec_any : ∀ (n : Nat), n ≤ 18446744073709551615 → ∀ w, Calls Tryd.prog 66 #[.int .u64 n] w fun e w' => e = .returned (.string ⟨(Lib.decDigits n).toArray⟩) ∧ w' = w := by
  intro n
  induction n using Nat.strongRecOn with
  | _ n ih =>
    intro hn w
    by_cases h : n < 10
    · have HD := Lib.hid (digit_extract n h)
      have c1 : (n : Int) + 1 ≤ 10 := by omega
      have c2 : n + 1 ≤ 10 := by omega
      have c3 : n ≤ n + 1 := by omega
      clear ih
      obtain ⟨D, hD⟩ : ∃ D : ByteArray, ⟨#[48, 49, 50, 51, 52, 53, 54, 55, 56, 57]⟩ = D := ⟨_, rfl⟩
      have hs : ∀ w, (Instr.slice 9 (.string ⟨#[48, 49, 50, 51, 52, 53, 54, 55, 56, 57]⟩) (some (.int .u64 n)) (some (.int .u64 ((n : Int) + 1))) none).run Tryd.prog w = .ok (.string ⟨(Lib.decDigits n).toArray⟩) w := fun w => by
        have hz : D.size = 10 := by rw [← hD]; rfl
        rw [hD, run_slice_string_if w 9 D .u64 .u64 n ((n : Int) + 1) Tryd.underlying9]
        rw [if_pos (by omega), if_pos (by omega)]
        have e : ((n : Int) + 1).toNat = n + 1 := by omega
        rw [e, Int.toNat_natCast, ← HD.out, hD]
      clear hD
      go_enter Tryd.func66, Tryd.ntmps66
      go_wp2
      go_ret
      exact ⟨rfl, rfl⟩
    · have HE := Lib.hid (dec_more' n h)
      have l1 := dd_len 19 (n / 10) (by omega)
      have l2 := dd_len 19 (n % 10) (by omega)
      have h1 : Hid (∀ w, Calls Tryd.prog 66 #[.int .u64 ((n / 10 : Nat) : Int)] w fun e w' => e = .returned (.string ⟨(Lib.decDigits (n / 10)).toArray⟩) ∧ w' = w) := Lib.hid (ih (n / 10) (by omega) (by omega))
      have h2 : Hid (∀ w, Calls Tryd.prog 66 #[.int .u64 ((n % 10 : Nat) : Int)] w fun e w' => e = .returned (.string ⟨(Lib.decDigits (n % 10)).toArray⟩) ∧ w' = w) := Lib.hid (ih (n % 10) (by omega) (by omega))
      rw [← bytes_size] at l1 l2
      have HA := Lib.hid (append_list (Lib.decDigits (n / 10)) (Lib.decDigits (n % 10)))
      clear ih
      obtain ⟨X, hX⟩ : ∃ X : ByteArray, ⟨(Lib.decDigits (n / 10)).toArray⟩ = X := ⟨_, rfl⟩
      obtain ⟨Y, hY⟩ : ∃ Y : ByteArray, ⟨(Lib.decDigits (n % 10)).toArray⟩ = Y := ⟨_, rfl⟩
      rw [hX] at l1 h1 HA
      rw [hY] at l2 h2 HA
      clear hX hY
      go_enter Tryd.func66, Tryd.ntmps66
      go_wp2_with fail
      refine (h1.out _).mono ?_
      rintro e w' ⟨rfl, rfl⟩
      go_wp2_with fail
      refine (h2.out _).mono ?_
      rintro e w' ⟨rfl, rfl⟩
      go_wp2_with fail
      go_ret
      exact ⟨by rw [HE.out, ← HA.out]; rfl, rfl⟩

set_option maxHeartbeats 2000000 in
theorem decimal_any (n : Int) (w : World) (h : I32 n) : Calls Tryd.prog 39 #[.int .i64 n] w fun e w' => e = .returned (.string ⟨(Lib.itoa n).toArray⟩) ∧ w' = w := by
  obtain ⟨h1, h2⟩ := h
  by_cases hn : n < 0
  · obtain ⟨m, hm⟩ : ∃ m : Nat, n.natAbs = m := ⟨_, rfl⟩
    have e1 : -(n + 1) + 1 = (m : Int) := by omega
    have hd := dd_len 19 m (by omega)
    rw [← bytes_size] at hd
    have HE : Hid ((⟨#[45]⟩ : ByteArray) ++ ⟨(Lib.decDigits m).toArray⟩ = ⟨(Lib.itoa n).toArray⟩) := Lib.hid (by
      have := append_list [45] (Lib.decDigits m)
      rw [show Lib.itoa n = 45 :: Lib.decDigits m by unfold Lib.itoa; rw [if_pos hn, hm]]
      exact this)
    have HC : Hid (∀ w, Calls Tryd.prog 66 #[.int .u64 m] w fun e w' => e = .returned (.string ⟨(Lib.decDigits m).toArray⟩) ∧ w' = w) := Lib.hid (dec_any m (by omega))
    rw [← HE.out]
    clear hm
    obtain ⟨X, hX⟩ : ∃ X : ByteArray, ⟨(Lib.decDigits m).toArray⟩ = X := ⟨_, rfl⟩
    rw [hX] at HC hd HE ⊢
    clear hX
    go_enter Tryd.func39, Tryd.ntmps39
    go_wp2_with fail
    refine (HC.out _).mono ?_
    rintro e w' ⟨rfl, rfl⟩
    go_wp2_with fail
    go_ret
    exact ⟨rfl, rfl⟩
  · obtain ⟨m, rfl⟩ : ∃ m : Nat, n = m := ⟨n.toNat, by omega⟩
    have HC : Hid (∀ w, Calls Tryd.prog 66 #[.int .u64 m] w fun e w' => e = .returned (.string ⟨(Lib.decDigits m).toArray⟩) ∧ w' = w) := Lib.hid (dec_any m (by omega))
    rw [Lib.itoa_nonneg m]
    go_enter Tryd.func39, Tryd.ntmps39
    go_wp2_with fail
    refine (HC.out _).mono ?_
    rintro e w' ⟨rfl, rfl⟩
    go_wp2_with fail
    go_ret
    exact ⟨rfl, rfl⟩

/-- A contract that ends in Below, in a world of the class of a region that only reads. -/
theorem Calls.grown {f : FuncId} {args : Array Value} {w : World} {v : Value} (h : ∀ w, Calls Tryd.prog f args w fun e w' => e = .returned v ∧ Below w.heap.size w w') (d : Nat) (os : Array Obj) :
    Calls Tryd.prog f args (grow (redrawn w d) os) fun e w'' => e = .returned v ∧ ∃ p : Regrown, w'' = grow (redrawn w p.d) p.os := Calls.regrown_of (h _)
theorem Calls.same {f : FuncId} {args : Array Value} {w : World} {v : Value} (h : ∀ w, Calls Tryd.prog f args w fun e w' => e = .returned v ∧ w' = w) (d : Nat) (os : Array Obj) :
    Calls Tryd.prog f args (grow (redrawn w d) os) fun e w'' => e = .returned v ∧ ∃ p : Regrown, w'' = grow (redrawn w p.d) p.os :=
  (h _).mono fun _ _ ⟨he, hw⟩ => ⟨he, ⟨d, os⟩, hw⟩

set_option maxHeartbeats 4000000 in
theorem refText_any (op arg : Int) (w : World) (h : I32 arg) :
    Calls Tryd.prog 14 #[insV op arg] w fun e w' => e = .returned (.string ⟨(textL op arg).toArray⟩) ∧ Below w.heap.size w w' := by
  obtain ⟨r, hr⟩ : ∃ r, rightB op arg = r := ⟨_, rfl⟩
  have h0 := h
  obtain ⟨h1, h2⟩ := h
  have HR : Hid (∀ w, Calls Tryd.prog 11 #[insV op arg] w fun e w' => e = .returned (.bool r) ∧ Below w.heap.size w w') := Lib.hid fun w => by rw [← hr]; exact refRight_any op arg w
  have B0 := Lib.hid (below_alloc w (.cells #[.int .i64 op, .int .i32 arg] 23))
  unfold insV at HR ⊢
  cases r with
  | false =>
    rw [textL_no hr]
    clear hr
    go_enter Tryd.func14, Tryd.ntmps14
    go_wp2_with fail
    refine (HR.out _).mono ?_
    rintro e w2 ⟨rfl, hb⟩
    have B2 := Lib.hid (nextB B0.out hb); clear hb
    go_wp2_with fail
    go_ret
    exact ⟨rfl, B2.out⟩
  | true =>
    have hk := (knownB_iff op).1 (rightB_known hr)
    obtain ⟨n, rfl⟩ : ∃ n : Nat, op = n := ⟨op.toNat, by omega⟩
    obtain ⟨z, hz⟩ : ∃ z, argZ n = z := ⟨_, rfl⟩
    obtain ⟨l1, l2⟩ := nm_len n (by omega)
    have hI := Lib.itoa_length_le arg (by omega) (by omega)
    have HH : Hid (∀ w, Calls Tryd.prog 24 #[.int .i64 n] w fun e w' => e = .returned (.int .i64 z) ∧ w' = w) := Lib.hid fun w => by rw [← hz]; exact refArg_any n w
    have HNM : Hid (∀ w, Calls Tryd.prog 38 #[.int .i64 n] w fun e w' => e = .returned (.string (nm n)) ∧ Below w.heap.size w w') := Lib.hid fun w => by rw [← nameA_known hr]; exact refName_any n w
    have HDC : Hid (∀ w, Calls Tryd.prog 39 #[.int .i64 arg] w fun e w' => e = .returned (.string ⟨(Lib.itoa arg).toArray⟩) ∧ w' = w) := Lib.hid fun w => decimal_any arg w h0
    have E1 : Hid (z = 0 → (⟨(textL n arg).toArray⟩ : ByteArray) = nm n) := Lib.hid fun h => by rw [textL_one hr (by rw [hz]; exact h)]
    have E2 : Hid (z ≠ 0 → (⟨(textL n arg).toArray⟩ : ByteArray) = nm n ++ ⟨#[32]⟩ ++ ⟨(Lib.itoa arg).toArray⟩) := Lib.hid fun h => by
      rw [textL_two hr (by rw [hz]; exact h)]
      refine WideShapes.bytes_inj ?_
      simp
    rw [← bytes_size] at hI
    clear hr hz
    obtain ⟨S, hS⟩ : ∃ S, nm n = S := ⟨_, rfl⟩
    obtain ⟨T, hT⟩ : ∃ T : ByteArray, ⟨(textL n arg).toArray⟩ = T := ⟨_, rfl⟩
    obtain ⟨I, hI2⟩ : ∃ I : ByteArray, ⟨(Lib.itoa arg).toArray⟩ = I := ⟨_, rfl⟩
    rw [hI2] at HDC E2 hI
    rw [hS] at HNM E1 E2 l1
    rw [hT] at E1 E2 ⊢
    clear hS hT hI2 l2
    go_enter Tryd.func14, Tryd.ntmps14
    go_wp2_with fail
    refine (HR.out _).mono ?_
    rintro e w2 ⟨rfl, hb⟩
    have c0 : w2.cell? ⟨w.heap.size, 0, none⟩ = some (.int .i64 n) := (hb.cell (p := ⟨w.heap.size, 0, none⟩) (by simp)).trans (cell_blk (heap_alloc_new w _) 0)
    have c1 : w2.cell? ⟨w.heap.size, 1, none⟩ = some (.int .i32 arg) := (hb.cell (p := ⟨w.heap.size, 1, none⟩) (by simp)).trans (cell_blk (heap_alloc_new w _) 1)
    have B2 := Lib.hid (nextB B0.out hb); clear hb
    go_wp2_with fail
    refine (HH.out _).mono ?_
    rintro e w2 ⟨rfl, rfl⟩
    by_cases hz : z = 0
    · have e := E1.out hz
      subst hz
      subst e
      go_wp2_with fail
      refine (HNM.out _).mono ?_
      rintro e w3 ⟨rfl, hb⟩
      have B3 := Lib.hid (nextB B2.out hb); clear hb
      go_wp2_with fail
      go_ret
      exact ⟨rfl, B3.out⟩
    · have e := E2.out hz
      have hz2 : (z == 0) = false := by simpa using hz
      subst e
      go_wp2_with fail
      have q0 := fun d os => cell_regrown c0 d os
      have q1 := fun d os => cell_regrown c1 d os
      have qN := fun d os => Calls.grown (w := w2) HNM.out d os
      have qD := fun d os => Calls.same (w := w2) HDC.out d os
      have fw : IntKind.i64.wrap arg = arg := IntWalk.i64_in _ ⟨by omega, by omega⟩
      have n1 : ¬ 9223372036854775807 < S.size + 1 := by omega
      have n2 : ¬ 9223372036854775807 < S.size + 1 + I.size := by omega
      have QN := Lib.hid qN; have QD := Lib.hid qD
      clear qN qD c0 c1
      refine wp_region_quiet_below (by kernel_rfl) (by kernel_rfl) ?_
      iterate 2 quiet_step (fail)
      quiet_step (exact QN.out _ _)
      iterate 4 quiet_step (fail)
      quiet_step (exact QD.out _ _)
      iterate 2 quiet_step (fail)
      refine wpQuiet_nil ?_
      intro _ hw'
      obtain ⟨⟨dq, osq⟩, hw''⟩ := hw'
      subst hw''
      have B3 := Lib.hid (nextB B2.out (below_regrown w2 dq osq))
      go_wp2_with fail
      go_ret
      exact ⟨rfl, B3.out⟩

end Go.Proofs.YtmcniddpjpbghaaDoor
