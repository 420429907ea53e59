/- Small: a table that may be asked. -/
import Derived.Test.YtidjohhnggpibaaExt2
namespace Go.Proofs.Ytidjohhnggpibaa
open Go.RowKit

theorem small_ends {rs : List Rw} {k : Nat} (h : ∀ r ∈ rs.take k, r.l.length ≤ 20) (hk : k < rs.length) (e : rs[k].l.length ≤ 20) : ∀ r ∈ rs.take (k + 1), r.l.length ≤ 20 := by
  intro r hr
  rw [List.take_succ_eq_append_getElem hk] at hr
  rcases List.mem_append.1 hr with hr | hr
  · exact h r hr
  · simp at hr; subst hr; exact e

def smallB (T : List (List Bool)) : Bool := decide (T.length ≤ 20) && T.all fun r => decide (r.length ≤ 20)
theorem smallB_iff {T : List (List Bool)} : smallB T = true ↔ T.length ≤ 20 ∧ ∀ r ∈ T, r.length ≤ 20 := by simp [smallB]
theorem smallB_no {T : List (List Bool)} (h : ¬ (T.length ≤ 20 ∧ ∀ r ∈ T, r.length ≤ 20)) : smallB T = false := by
  rw [← smallB_iff] at h; simpa using h

set_option maxHeartbeats 1000000 in
theorem small_any {B : Nat} {v : Value} {T : List (List Bool)} (w : World) (h : TabV w B v T) :
    Calls Try.prog 9 #[v] w fun e w' => e = .returned (.bool (smallB T)) ∧ w = w' := by
  obtain ⟨A, c, rs, rfl, rfl, hL, hr⟩ := h
  obtain ⟨n, hn⟩ : ∃ n, rs.length = n := ⟨_, rfl⟩
  have HL := Lib.hid hL; clear hL hr
  have HN := Lib.hid hn
  rw [hn]
  clear hn
  generalize hs : smallB (rowsOf rs) = sb
  have HS := Lib.hid hs; clear hs
  by_cases hhi : 20 < n
  · obtain rfl : sb = false := by
      rw [← HS.out]; refine smallB_no fun h => ?_
      have := h.1; simp [rowsOf, HN.out] at this; omega
    go_enter Try.func9, Try.ntmps9
    go_wp2_with fail
    go_ret
    exact ⟨rfl, rfl⟩
  have h2 : n ≤ 20 := by omega
  go_enter Try.func9, Try.ntmps9
  go_wp2_with fail
  go_loop [3] (fun i => ∃ k : Nat, k ≤ n ∧ i = .int .i64 k ∧ ∀ r ∈ rs.take k, r.l.length ≤ 20) (fun i => n - (intOf i).toNat)
  case atStart => exact ⟨0, by omega, rfl, fun r hr => by simp at hr⟩
  case round =>
    obtain ⟨k, hk, rfl, hp⟩ := hrel
    have HP := Lib.hid hp; clear hp
    by_cases hlt : k < n
    · have hkr : k < rs.length := by rw [HN.out]; exact hlt
      obtain ⟨b, off, rfl, hb, hc⟩ := HL.out.cell (k := k) (by simpa using hkr)
      have c1 : w.cell? ⟨b, off + k, none⟩ = some (.slice rs[k].A rs[k].l.length rs[k].c) := by rw [hc]; simp [Rw.hdr]
      clear hc
      by_cases he : rs[k].l.length ≤ 20
      · have HE := Lib.hid (small_ends HP.out hkr he)
        generalize rs[k].l.length = q at *
        have hd : decide (20 < (q : Int)) = false := by simp; omega
        go_wp2_with fail
        go_round
        case rel => exact ⟨k + 1, by omega, by go_num, HE.out⟩
        case measure => simp [intOf]; omega
      · obtain rfl : sb = false := by
          rw [← HS.out]; refine smallB_no fun h => he ?_
          exact h.2 _ (List.mem_map.2 ⟨rs[k], List.getElem_mem hkr, rfl⟩)
        generalize rs[k].l.length = q at *
        have hd : decide (20 < (q : Int)) = true := by simp; omega
        go_wp2_with fail
        go_ret
        exact ⟨rfl, rfl⟩
    · obtain rfl : k = n := by omega
      obtain rfl : sb = true := by
        rw [← HS.out]; refine smallB_iff.2 ⟨by simp [rowsOf, HN.out]; omega, fun r hr => ?_⟩
        obtain ⟨x, hx, rfl⟩ := List.mem_map.1 hr
        exact HP.out x (by rw [← HN.out, List.take_length]; exact hx)
      go_wp2_with fail
      go_ret
      exact ⟨rfl, rfl⟩

end Go.Proofs.Ytidjohhnggpibaa
