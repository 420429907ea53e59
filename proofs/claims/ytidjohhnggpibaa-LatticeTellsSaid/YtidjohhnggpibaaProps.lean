/- Small; reflexive, antisymmetric, transitive: by the program and by the reference. -/
import Derived.Test.YtidjohhnggpibaaSq
namespace Go.Proofs.Ytidjohhnggpibaa
open Go.RowKit

def allB (n : Nat) (p : Nat → Bool) : Bool := (List.range n).all p
theorem allB_iff {n : Nat} {p : Nat → Bool} : allB n p = true ↔ ∀ a, a < n → p a = true := by simp [allB]
theorem allB_no {n a : Nat} {p : Nat → Bool} (h : a < n) (hp : p a = false) : allB n p = false := by
  cases hb : allB n p with
  | false => rfl
  | true => rw [allB_iff.1 hb a h] at hp; cases hp
def reflZ (n : Nat) (Z : Nat → Nat → Bool) : Bool := allB n fun a => Z a a
def antiZ (n : Nat) (Z : Nat → Nat → Bool) : Bool := allB n fun a => allB a fun b => !(Z a b && Z b a)
def transZ (n : Nat) (Z : Nat → Nat → Bool) : Bool := allB n fun a => allB n fun b => allB n fun c => !(Z a b && Z b c && !Z a c)
def reflB (T : List (List Bool)) : Bool := sqB T && reflZ T.length (atT T)
def antiB (T : List (List Bool)) : Bool := sqB T && antiZ T.length (atT T)
def transB (T : List (List Bool)) : Bool := sqB T && transZ T.length (atT T)
theorem all_next {p : Nat → Prop} {k : Nat} (h : ∀ a, a < k → p a) (hk : p k) : ∀ a, a < k + 1 → p a := fun a ha => by
  rcases Nat.lt_or_ge a k with h1 | h1
  · exact h a h1
  · obtain rfl : a = k := by omega
    exact hk
theorem len_nat {n : Nat} {T : List (List Bool)} (h : 1 ≤ T.length ∧ T.length ≤ 16) (e : T.length = n) : 1 ≤ n ∧ n ≤ 16 := by omega

set_option maxHeartbeats 1000000 in
theorem refl_any {B : Nat} {v : Value} {T : List (List Bool)} (w : World) (h : TabV w B v T) :
    Calls Try.prog 33 #[v] w fun e w' => e = .returned (.bool (reflB T)) ∧ w = w' := by
  have hq := sq_any w h
  unfold reflB
  cases hs : sqB T with
  | false =>
    rw [hs] at hq; clear h hs
    rw [Bool.false_and]
    go_enter Try.func33, Try.ntmps33
    go_wp2_with fail
    refine hq.mono ?_
    rintro e w' ⟨rfl, rfl⟩
    go_wp2_with fail
    go_ret
    exact ⟨rfl, rfl⟩
  | true =>
    rw [hs] at hq
    obtain ⟨h1, h2, b, off, c, G, O, C, rfl, hg⟩ := grid_of h hs
    clear h hs
    rw [Bool.true_and]
    generalize T.length = n at *
    generalize atT T = Z at *
    generalize hres : reflZ n Z = res
    have HR := Lib.hid hres; clear hres
    have HG := Lib.hid hg; clear hg
    go_enter Try.func33, Try.ntmps33
    go_wp2_with fail
    refine hq.mono ?_
    rintro e w' ⟨rfl, rfl⟩
    clear hq
    go_wp2_with fail
    go_loop [9] (fun i => ∃ k : Nat, k ≤ n ∧ i = .int .i64 k ∧ ∀ a, a < k → Z a a = true) (fun i => n - (intOf i).toNat)
    case atStart => exact ⟨0, by omega, rfl, fun a ha => by omega⟩
    case round =>
      obtain ⟨k, hk, rfl, hp⟩ := hrel
      have HP := Lib.hid hp; clear hp
      by_cases hlt : k < n
      · have c1 := HG.out.top k hlt
        have c2 := HG.out.cel k k hlt hlt
        cases hz : Z k k with
        | true =>
          rw [hz] at c2
          have HZ := Lib.hid hz; clear hz
          go_wp2_with fail
          go_round
          case rel => exact ⟨k + 1, by omega, by go_num, all_next HP.out HZ.out⟩
          case measure => simp [intOf]; omega
        | false =>
          rw [hz] at c2
          obtain rfl : res = false := HR.out ▸ allB_no hlt hz
          clear hz
          go_wp2_with fail
          go_ret
          exact ⟨rfl, rfl⟩
      · obtain rfl : k = n := by omega
        obtain rfl : res = true := HR.out ▸ allB_iff.2 HP.out
        go_wp2_with fail
        go_ret
        exact ⟨rfl, rfl⟩

set_option maxHeartbeats 1000000 in
theorem refRefl_any {B : Nat} {v : Value} {T : List (List Bool)} (w : World) (h : TabV w B v T) :
    Calls Try.prog 41 #[v] w fun e w' => e = .returned (.bool (reflB T)) ∧ w = w' := by
  have hq := refSq_any w h
  unfold reflB
  cases hs : sqB T with
  | false =>
    rw [hs] at hq; clear hs
    obtain ⟨A, c, rs, rfl, rfl, hL, hr⟩ := h
    clear hL hr
    generalize rs.length = n at *
    rw [Bool.false_and]
    have HQ := Lib.hid hq; clear hq
    by_cases hn : 0 < n
    all_goals
      go_enter Try.func41, Try.ntmps41
      go_wp2_with fail
      go_loop [3] (fun i => i = .int .i64 0) (fun _ => 0)
      case atStart => rfl
      case round =>
        obtain rfl := hrel
        go_wp2_with (refine HQ.out.mono ?_; rintro e w' ⟨rfl, rfl⟩)
        go_ret
        exact ⟨rfl, rfl⟩
  | true =>
    rw [hs] at hq
    obtain ⟨h1, h2, b, off, c, G, O, C, rfl, hg⟩ := grid_of h hs
    clear h hs
    rw [Bool.true_and]
    generalize T.length = n at *
    generalize atT T = Z at *
    generalize hres : reflZ n Z = res
    have HR := Lib.hid hres; clear hres
    have HG := Lib.hid hg; clear hg
    have HQ := Lib.hid hq; clear hq
    go_enter Try.func41, Try.ntmps41
    go_wp2_with fail
    go_loop [3] (fun i => ∃ k : Nat, k ≤ n ∧ i = .int .i64 k ∧ ∀ a, a < k → Z a a = true) (fun i => n - (intOf i).toNat)
    case atStart => exact ⟨0, by omega, rfl, fun a ha => by omega⟩
    case round =>
      obtain ⟨k, hk, rfl, hp⟩ := hrel
      have HP := Lib.hid hp; clear hp
      by_cases hlt : k < n
      · have c1 := HG.out.top k hlt
        have c2 := HG.out.cel k k hlt hlt
        cases hz : Z k k with
        | true =>
          rw [hz] at c2
          have HZ := Lib.hid hz; clear hz
          go_wp2_with (refine HQ.out.mono ?_; rintro e w' ⟨rfl, rfl⟩)
          go_round
          case rel => exact ⟨k + 1, by omega, by go_num, all_next HP.out HZ.out⟩
          case measure => simp [intOf]; omega
        | false =>
          rw [hz] at c2
          obtain rfl : res = false := HR.out ▸ allB_no hlt hz
          clear hz
          go_wp2_with (refine HQ.out.mono ?_; rintro e w' ⟨rfl, rfl⟩)
          go_ret
          exact ⟨rfl, rfl⟩
      · obtain rfl : k = n := by omega
        obtain rfl : res = true := HR.out ▸ allB_iff.2 HP.out
        go_wp2_with (refine HQ.out.mono ?_; rintro e w' ⟨rfl, rfl⟩)
        go_ret
        exact ⟨rfl, rfl⟩

end Go.Proofs.Ytidjohhnggpibaa
