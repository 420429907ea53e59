/- Plain facts: an instruction's text is parsed back, its bytes are taken back. -/
import Derived.Test.YtmcniddpjpbghaaDoorParseI
import Derived.Test.YtmcniddpjpbghaaDoorTake2
import Derived.Lib.ParseIntBCases
namespace Go.Proofs.YtmcniddpjpbghaaDoor
set_option maxRecDepth 100000
open Go.RowKit

theorem digit_toNat (k : Nat) (h : k < 10) : (UInt8.ofNat (48 + k)).toNat = 48 + k := by simp; omega
theorem parseUintM_digits (M : Nat) (hM : M ≤ 4294967295) : ∀ u, u ≤ M → ∀ r, Lib.parseUintM M 0 (Lib.decDigits u ++ r) = Lib.parseUintM M u r := by
  intro u
  induction u using Nat.strongRecOn with
  | _ u ih =>
    intro hu r
    by_cases h : u < 10
    · rw [Lib.decDigits, dif_pos h, List.cons_append, List.nil_append, Lib.parseUintM]
      rw [digit_toNat u h, if_pos (by omega), if_neg (by omega), if_neg (by omega)]
      congr 1; omega
    · rw [Lib.decDigits, dif_neg h, List.append_assoc, ih (u / 10) (by omega) (by omega), List.cons_append, List.nil_append, Lib.parseUintM]
      rw [digit_toNat (u % 10) (by omega), if_pos (by omega), if_neg (by omega), if_neg (by omega)]
      congr 1; omega
theorem decDigits_cons (u : Nat) : ∃ k r, k < 10 ∧ Lib.decDigits u = UInt8.ofNat (48 + k) :: r := by
  induction u using Nat.strongRecOn with
  | _ u ih =>
    by_cases h : u < 10
    · exact ⟨u, [], h, by rw [Lib.decDigits, dif_pos h]⟩
    · obtain ⟨k, r, hk, e⟩ := ih (u / 10) (by omega)
      exact ⟨k, r ++ [UInt8.ofNat (48 + u % 10)], hk, by rw [Lib.decDigits, dif_neg h, e]; rfl⟩
theorem parseUintB_digits (u : Nat) (h : u ≤ 4294967295) : Lib.parseUintB 32 (Lib.decDigits u) = .ok u := by
  obtain ⟨k, r, _, e⟩ := decDigits_cons u
  unfold Lib.parseUintB
  rw [if_neg (by rw [e]; simp)]
  have := parseUintM_digits (2 ^ 32 - 1) (by decide) u (by simpa using h) []
  rw [List.append_nil] at this
  rw [this]; rfl
theorem pint_itoa {n : Int} (h : I32 n) : pint (Lib.itoa n) = n := by
  obtain ⟨h1, h2⟩ := h
  unfold pint
  by_cases hn : n < 0
  · obtain ⟨u, hu⟩ : ∃ u, n.natAbs = u := ⟨_, rfl⟩
    have e : Lib.itoa n = 45 :: Lib.decDigits u := by unfold Lib.itoa; rw [if_pos hn, hu]
    rw [e, Lib.parseIntB_minus, parseUintB_digits u (by omega)]
    have : ¬ 2 ^ (32 - 1) < u := by have : (2 : Nat) ^ (32 - 1) = 2147483648 := by decide
                                    omega
    simp only [Lib.signedC, if_neg this]
    omega
  · obtain ⟨u, rfl⟩ : ∃ u : Nat, n = u := ⟨n.toNat, by omega⟩
    rw [Lib.itoa_nonneg u]
    obtain ⟨k, r, hk, e⟩ := decDigits_cons u
    have e2 := parseUintB_digits u (by omega)
    rw [e] at e2 ⊢
    have hd := digit_toNat k hk
    rw [Lib.parseIntB_plain 32 _ r (by rw [hd]; omega) (by rw [hd]; omega), e2]
    have : ¬ 2 ^ (32 - 1) ≤ u := by have : (2 : Nat) ^ (32 - 1) = 2147483648 := by decide
                                    omega
    simp only [Lib.signlessC, if_neg this]
theorem pint_nil : pint [] = 0 := rfl

theorem nm_space : ∀ i, i < 27 → 1 ≤ i → preL (nm i).data.toList = (nm i).data.toList ∧ (nm i).data.toList ≠ [] := by decide +kernel
theorem preL_app {a b : List UInt8} (h : preL a = a) : preL (a ++ 32 :: b) = a := by
  have hall : ∀ c ∈ a, (c != 32) = true := by
    intro c hc
    have := List.all_eq_true.1 (List.all_takeWhile (l := a) (p := fun c => c != 32))
    exact this c (by unfold preL at h; rw [h]; exact hc)
  unfold preL
  rw [List.takeWhile_append_of_pos hall]
  simp
theorem rightB_noarg {op arg : Int} (hr : rightB op arg = true) (hz : argZ op = 0) : arg = 0 := by
  unfold rightB at hr
  rw [hz, Bool.and_eq_true] at hr
  simpa using hr.2
theorem parse_back {op arg : Int} (hr : rightB op arg = true) (ha : I32 arg) : parseOk (textL op arg) = true ∧ (pOp (textL op arg) : Int) = op ∧ pArg (textL op arg) = arg := by
  have hk := (knownB_iff op).1 (rightB_known hr)
  obtain ⟨n, rfl⟩ : ∃ n : Nat, op = n := ⟨op.toNat, by omega⟩
  obtain ⟨h1, h2⟩ := nm_space n (by omega) (by omega)
  have key : pOp (textL n arg) = n ∧ pArg (textL n arg) = arg := by
    unfold pOp pArg sufL
    by_cases hz : argZ n = 0
    · have ha0 := rightB_noarg hr hz
      rw [textL_one hr hz, h1]
      refine ⟨findN_nm (by omega) (by omega), ?_⟩
      rw [List.drop_eq_nil_of_le (by omega), ha0]; exact pint_nil
    · rw [textL_two hr hz, preL_app h1]
      refine ⟨findN_nm (by omega) (by omega), ?_⟩
      have e : List.drop ((nm n).data.toList.length + 1) ((nm n).data.toList ++ 32 :: Lib.itoa arg) = Lib.itoa arg := by
        rw [List.drop_append]; simp
      rw [e]; exact pint_itoa ha
  refine ⟨?_, by rw [key.1], key.2⟩
  unfold parseOk
  rw [key.1, key.2]
  simp; omega

theorem take_back {op arg : Int} (hr : rightB op arg = true) (ha : I32 arg) (more : List Int) : takeOk (codeL op arg ++ more, 0) = true ∧ tOp (codeL op arg ++ more, 0) = op ∧ tArg (codeL op arg ++ more, 0) = arg ∧ tRest (codeL op arg ++ more, 0) = (more, 0) := by
  have hk := (knownB_iff op).1 (rightB_known hr)
  obtain ⟨n, rfl⟩ : ∃ n : Nat, op = n := ⟨op.toNat, by omega⟩
  have hw := argW_le arg
  have key : (opR (codeL n arg ++ more, 0)).1 = n ∧ argI (codeL n arg ++ more, 0) = arg ∧ (argR (codeL n arg ++ more, 0)).2 = (more, 0) := by
    unfold argI argR opR
    by_cases hz : argZ n = 0
    · have ha0 := rightB_noarg hr hz
      rw [codeL_one hr hz, numR_back n _ more (by omega) (by omega)]
      simp only [hz, if_true]
      exact ⟨trivial, ha0.symm, trivial⟩
    · rw [codeL_two hr hz, List.append_assoc, numR_back n _ _ (by omega) (by omega)]
      simp only [if_neg hz]
      rw [numR_back (argW arg) _ more (by omega) (by omega)]
      exact ⟨trivial, i32of_argW ha, rfl⟩
  have hok : takeOk (codeL n arg ++ more, 0) = true := by
    unfold takeOk
    rw [key.1, key.2.1, key.2.2, hr]; simp
  unfold tOp tArg tRest
  rw [hok]
  simp only [if_true]
  exact ⟨trivial, by rw [key.1], key.2.1, key.2.2⟩

end Go.Proofs.YtmcniddpjpbghaaDoor
