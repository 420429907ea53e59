/- Ints: two lists of numbers are the same. -/
import Derived.Test.YthffheakhadlhaaNums
import Derived.Deep.QuietTactic
import Derived.BigQuiet
namespace Go.Proofs.Ythffheakhadlhaa
open Go.RowKit


set_option maxHeartbeats 1000000 in
theorem ints_any {B B2 : Nat} {u v : Value} {a b : List Int} (w : World) (ha : IntsV w B u a) (hb : IntsV w B2 v b) (hm : a.length ≤ 1000) :
    Calls Try.prog 12 #[u, v] w fun e w' => e = .returned (.bool (intsB a b)) ∧ Below w.heap.size w w' := by
  obtain ⟨A1, c1, rfl, h1⟩ := ha
  obtain ⟨A2, c2, rfl, h2⟩ := hb
  have H1 := Lib.hid h1; clear h1
  have H2 := Lib.hid h2; clear h2
  generalize hres : intsB a b = res
  have HR := Lib.hid hres; clear hres
  by_cases hlen : a.length = b.length
  · rw [← hlen]
    have HE := Lib.hid hlen; clear hlen
    generalize hml : a.length = m at *
    have HM := Lib.hid hml; clear hml
    go_enter Try.func12, Try.ntmps12
    go_wp2_with fail
    go_loopw [5] (fun i wr => ∃ k : Nat, k ≤ m ∧ i = .int .i64 k ∧ (∀ j (ha : j < a.length) (hb : j < b.length), j < k → a[j] = b[j]) ∧ Below w.heap.size w wr ∧ ∀ q, wr.cell? q = w.cell? q) (fun i _ => m - (intOf i).toNat)
    case atStart => exact ⟨0, by omega, rfl, fun j _ _ h => by omega, Below.refl _ _, fun _ => rfl⟩
    case round =>
      obtain ⟨k, hk, rfl, hp, hb, hce⟩ := hrel
      have HP := Lib.hid hp; clear hp
      have HB := Lib.hid hb; clear hb
      have HC := Lib.hid hce; clear hce
      by_cases hlt : k < m
      · have hka : k < a.length := by rw [HM.out]; exact hlt
        have hkb : k < b.length := by rw [← HE.out]; exact hlt
        obtain ⟨b1, o1, rfl, _, d1⟩ := lie_int H1.out hka
        obtain ⟨b2, o2, rfl, _, d2⟩ := lie_int H2.out hkb
        rw [← HC.out] at d1 d2
        have HN := Lib.hid (fun h : a[k] ≠ b[k] => ints_no hka hkb h)
        have HY : Hid (a[k] = b[k] → ∀ j (ha : j < a.length) (hb : j < b.length), j < k + 1 → a[j] = b[j]) := fun e j hja hjb hj => by
          rcases Nat.lt_or_ge j k with h | h
          · exact HP.out j hja hjb h
          · obtain rfl : j = k := by omega
            exact e
        generalize a[k] = x at *
        generalize b[k] = y at *
        have i1 : (0 : Int) ≤ (k : Int) ∧ (k : Int) < m := by omega
        go_wp2_with fail
        go_quiet (fail)
        by_cases hxy : x = y
        · have HYY := Lib.hid (HY.out hxy)
          have e1 : (x == y) = true := by simpa using hxy
          have e2 : (x != y) = false := by simpa using hxy
          clear hxy
          go_wp2_with fail
          go_roundw
          case rel => exact ⟨k + 1, by omega, by go_num, HYY.out, below_drewN HB.out _, fun q => HC.out q⟩
          case measure => simp [intOf]; omega
        · obtain rfl : res = false := by rw [← HR.out]; exact HN.out hxy
          have e1 : (x == y) = false := by simpa using hxy
          have e2 : (x != y) = true := by simpa using hxy
          clear hxy
          go_wp2_with fail
          go_ret
          exact ⟨rfl, below_drewN HB.out _⟩
      · obtain rfl : k = m := by omega
        obtain rfl : res = true := by rw [← HR.out]; exact ints_yes (by rw [HM.out, HE.out]) (fun j h1 h2 => HP.out j h1 h2 (by have := HM.out; omega))
        go_wp2_with fail
        go_ret
        exact ⟨rfl, HB.out⟩
  · obtain rfl : res = false := by rw [← HR.out]; exact ints_len hlen
    generalize a.length = m at *
    generalize b.length = n at *
    have e1 : ((m : Int) == (n : Int)) = false := by simp; omega
    have e2 : ((m : Int) != (n : Int)) = true := by simp; omega
    go_enter Try.func12, Try.ntmps12
    go_wp2_with fail
    go_ret
    exact ⟨rfl, Below.refl _ _⟩

end Go.Proofs.Ythffheakhadlhaa
