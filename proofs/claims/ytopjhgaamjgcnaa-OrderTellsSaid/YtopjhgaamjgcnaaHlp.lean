/- Ints, Place, Small. -/
import Derived.Test.YtopjhgaamjgcnaaExt2
namespace Go.Proofs.Ytopjhgaamjgcnaa
open Go.RowKit

theorem small_ends {rs : List Rw} {k : Nat} (h : ∀ r ∈ rs.take k, r.l.length ≤ 20) (hk : k < rs.length) (e : rs[k].l.length ≤ 20) : ∀ r ∈ rs.take (k + 1), r.l.length ≤ 20 := by
  intro r hr
  rw [List.take_succ_eq_append_getElem hk] at hr
  rcases List.mem_append.1 hr with hr | hr
  · exact h r hr
  · simp at hr; subst hr; exact e

def smallB (T : List (List Bool)) : Bool := decide (T.length ≤ 20) && T.all fun r => decide (r.length ≤ 20)
theorem smallB_iff {T : List (List Bool)} : smallB T = true ↔ T.length ≤ 20 ∧ ∀ r ∈ T, r.length ≤ 20 := by simp [smallB]
theorem smallB_no {T : List (List Bool)} (h : ¬ (T.length ≤ 20 ∧ ∀ r ∈ T, r.length ≤ 20)) : smallB T = false := by
  rw [← smallB_iff] at h; simpa using h

set_option maxHeartbeats 1000000 in
theorem small_any {B : Nat} {v : Value} {T : List (List Bool)} (w : World) (h : TabV w B v T) :
    Calls Try.prog 7 #[v] w fun e w' => e = .returned (.bool (smallB T)) ∧ w = w' := by
  obtain ⟨A, c, rs, rfl, rfl, hL, hr⟩ := h
  obtain ⟨n, hn⟩ : ∃ n, rs.length = n := ⟨_, rfl⟩
  have HL := Lib.hid hL; clear hL hr
  have HN := Lib.hid hn
  rw [hn]
  clear hn
  generalize hs : smallB (rowsOf rs) = sb
  have HS := Lib.hid hs; clear hs
  by_cases hhi : 20 < n
  · obtain rfl : sb = false := by
      rw [← HS.out]; refine smallB_no fun h => ?_
      have := h.1; simp [rowsOf, HN.out] at this; omega
    go_enter Try.func7, Try.ntmps7
    go_wp2_with fail
    go_ret
    exact ⟨rfl, rfl⟩
  have h2 : n ≤ 20 := by omega
  go_enter Try.func7, Try.ntmps7
  go_wp2_with fail
  go_loop [3] (fun i => ∃ k : Nat, k ≤ n ∧ i = .int .i64 k ∧ ∀ r ∈ rs.take k, r.l.length ≤ 20) (fun i => n - (intOf i).toNat)
  case atStart => exact ⟨0, by omega, rfl, fun r hr => by simp at hr⟩
  case round =>
    obtain ⟨k, hk, rfl, hp⟩ := hrel
    have HP := Lib.hid hp; clear hp
    by_cases hlt : k < n
    · have hkr : k < rs.length := by rw [HN.out]; exact hlt
      obtain ⟨b, off, rfl, hb, hc⟩ := HL.out.cell (k := k) (by simpa using hkr)
      have c1 : w.cell? ⟨b, off + k, none⟩ = some (.slice rs[k].A rs[k].l.length rs[k].c) := by rw [hc]; simp [Rw.hdr]
      clear hc
      by_cases he : rs[k].l.length ≤ 20
      · have HE := Lib.hid (small_ends HP.out hkr he)
        generalize rs[k].l.length = q at *
        have hd : decide (20 < (q : Int)) = false := by simp; omega
        go_wp2_with fail
        go_round
        case rel => exact ⟨k + 1, by omega, by go_num, HE.out⟩
        case measure => simp [intOf]; omega
      · obtain rfl : sb = false := by
          rw [← HS.out]; refine smallB_no fun h => he ?_
          exact h.2 _ (List.mem_map.2 ⟨rs[k], List.getElem_mem hkr, rfl⟩)
        generalize rs[k].l.length = q at *
        have hd : decide (20 < (q : Int)) = true := by simp; omega
        go_wp2_with fail
        go_ret
        exact ⟨rfl, rfl⟩
    · obtain rfl : k = n := by omega
      obtain rfl : sb = true := by
        rw [← HS.out]; refine smallB_iff.2 ⟨by simp [rowsOf, HN.out]; omega, fun r hr => ?_⟩
        obtain ⟨x, hx, rfl⟩ := List.mem_map.1 hr
        exact HP.out x (by rw [← HN.out, List.take_length]; exact hx)
      go_wp2_with fail
      go_ret
      exact ⟨rfl, rfl⟩

/-- A number from 0 to n - 1 out of any number. -/
def place (k n : Int) : Int := if k.tmod n < 0 then k.tmod n + n else k.tmod n
theorem place_in {k n : Int} (hn : 0 < n) : 0 ≤ place k n ∧ place k n < n := by
  have h1 := Int.tmod_lt_of_pos k hn
  have h2 := Int.lt_tmod_of_pos k hn
  unfold place
  split <;> omega

set_option maxHeartbeats 1000000 in
theorem place_any (w : World) (k n : Int) (_hk : -9223372036854775808 ≤ k ∧ k ≤ 9223372036854775807) (hn : 0 < n) (hn2 : n ≤ 1000) :
    Calls Try.prog 22 #[.int .i64 k, .int .i64 n] w fun e w' => e = .returned (.int .i64 (place k n)) ∧ w = w' := by
  have h1 := Int.tmod_lt_of_pos k hn
  have h2 := Int.lt_tmod_of_pos k hn
  have hp := place_in (k := k) hn
  have HP := Lib.hid (show place k n = if k.tmod n < 0 then k.tmod n + n else k.tmod n from rfl)
  generalize place k n = y at *
  by_cases hneg : k.tmod n < 0
  · obtain rfl : y = k.tmod n + n := by rw [HP.out, if_pos hneg]
    clear HP
    go_enter Try.func22, Try.ntmps22
    go_wp2_with fail
    go_ret
    exact ⟨rfl, rfl⟩
  · obtain rfl : y = k.tmod n := by rw [HP.out, if_neg hneg]
    clear HP
    go_enter Try.func22, Try.ntmps22
    go_wp2_with fail
    go_ret
    exact ⟨rfl, rfl⟩

def intsB (a b : List Int) : Bool := decide (a = b)
theorem ints_no {a b : List Int} {k : Nat} (ha : k < a.length) (hb : k < b.length) (h : a[k] ≠ b[k]) : intsB a b = false := by
  simp only [intsB, decide_eq_false_iff_not]
  rintro rfl
  exact h rfl
theorem ints_len {a b : List Int} (h : a.length ≠ b.length) : intsB a b = false := by
  simp only [intsB, decide_eq_false_iff_not]
  rintro rfl
  exact h rfl
theorem ints_yes {a b : List Int} (h : a.length = b.length) (hp : ∀ j (ha : j < a.length) (hb : j < b.length), a[j] = b[j]) : intsB a b = true := by
  simp only [intsB, decide_eq_true_eq]
  exact List.ext_getElem h hp

set_option maxHeartbeats 1000000 in
theorem ints_any {B B2 : Nat} {u v : Value} {a b : List Int} (w : World) (ha : IntsV w B u a) (hb : IntsV w B2 v b) (hm : a.length ≤ 1000) :
    Calls Try.prog 17 #[u, v] w fun e w' => e = .returned (.bool (intsB a b)) ∧ Below w.heap.size w w' := by
  obtain ⟨A1, c1, rfl, h1⟩ := ha
  obtain ⟨A2, c2, rfl, h2⟩ := hb
  have H1 := Lib.hid h1; clear h1
  have H2 := Lib.hid h2; clear h2
  generalize hres : intsB a b = res
  have HR := Lib.hid hres; clear hres
  by_cases hlen : a.length = b.length
  · rw [← hlen]
    have HE := Lib.hid hlen; clear hlen
    generalize hml : a.length = m at *
    have HM := Lib.hid hml; clear hml
    go_enter Try.func17, Try.ntmps17
    go_wp2_with fail
    go_loopw [5] (fun i wr => ∃ k : Nat, k ≤ m ∧ i = .int .i64 k ∧ (∀ j (ha : j < a.length) (hb : j < b.length), j < k → a[j] = b[j]) ∧ Below w.heap.size w wr ∧ ∀ q, wr.cell? q = w.cell? q) (fun i _ => m - (intOf i).toNat)
    case atStart => exact ⟨0, by omega, rfl, fun j _ _ h => by omega, Below.refl _ _, fun _ => rfl⟩
    case round =>
      obtain ⟨k, hk, rfl, hp, hb, hce⟩ := hrel
      have HP := Lib.hid hp; clear hp
      have HB := Lib.hid hb; clear hb
      have HC := Lib.hid hce; clear hce
      by_cases hlt : k < m
      · have hka : k < a.length := by rw [HM.out]; exact hlt
        have hkb : k < b.length := by rw [← HE.out]; exact hlt
        obtain ⟨b1, o1, rfl, _, d1⟩ := lie_int H1.out hka
        obtain ⟨b2, o2, rfl, _, d2⟩ := lie_int H2.out hkb
        rw [← HC.out] at d1 d2
        have HN := Lib.hid (fun h : a[k] ≠ b[k] => ints_no hka hkb h)
        have HY : Hid (a[k] = b[k] → ∀ j (ha : j < a.length) (hb : j < b.length), j < k + 1 → a[j] = b[j]) := fun e j hja hjb hj => by
          rcases Nat.lt_or_ge j k with h | h
          · exact HP.out j hja hjb h
          · obtain rfl : j = k := by omega
            exact e
        generalize a[k] = x at *
        generalize b[k] = y at *
        have i1 : (0 : Int) ≤ (k : Int) ∧ (k : Int) < m := by omega
        go_wp2_with fail
        go_quiet (fail)
        by_cases hxy : x = y
        · have HYY := Lib.hid (HY.out hxy)
          have e1 : (x == y) = true := by simpa using hxy
          have e2 : (x != y) = false := by simpa using hxy
          clear hxy
          go_wp2_with fail
          go_roundw
          case rel => exact ⟨k + 1, by omega, by go_num, HYY.out, below_drewN HB.out _, fun q => HC.out q⟩
          case measure => simp [intOf]; omega
        · obtain rfl : res = false := by rw [← HR.out]; exact HN.out hxy
          have e1 : (x == y) = false := by simpa using hxy
          have e2 : (x != y) = true := by simpa using hxy
          clear hxy
          go_wp2_with fail
          go_ret
          exact ⟨rfl, below_drewN HB.out _⟩
      · obtain rfl : k = m := by omega
        obtain rfl : res = true := by rw [← HR.out]; exact ints_yes (by rw [HM.out, HE.out]) (fun j h1 h2 => HP.out j h1 h2 (by have := HM.out; omega))
        go_wp2_with fail
        go_ret
        exact ⟨rfl, HB.out⟩
  · obtain rfl : res = false := by rw [← HR.out]; exact ints_len hlen
    generalize a.length = m at *
    generalize b.length = n at *
    have e1 : ((m : Int) == (n : Int)) = false := by simp; omega
    have e2 : ((m : Int) != (n : Int)) = true := by simp; omega
    go_enter Try.func17, Try.ntmps17
    go_wp2_with fail
    go_ret
    exact ⟨rfl, Below.refl _ _⟩

end Go.Proofs.Ytopjhgaamjgcnaa
