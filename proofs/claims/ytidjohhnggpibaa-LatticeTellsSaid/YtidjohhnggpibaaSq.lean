/- Square, by the program and by the reference. -/
import Derived.Test.YtidjohhnggpibaaGrid
namespace Go.Proofs.Ytidjohhnggpibaa
open Go.RowKit

theorem rows_take {rs : List Rw} {n k : Nat} (hk : k < rs.length) (h : ∀ r ∈ rs.take k, r.l.length = n) (e : rs[k].l.length = n) : ∀ r ∈ rs.take (k + 1), r.l.length = n := by
  intro r hr
  rw [List.take_succ_eq_append_getElem hk] at hr
  rcases List.mem_append.1 hr with hr | hr
  · exact h r hr
  · simp at hr; subst hr; exact e
theorem sq_end {rs : List Rw} {n : Nat} (hn : rs.length = n) (h1 : 1 ≤ n) (h2 : n ≤ 16) (h : ∀ r ∈ rs.take n, r.l.length = n) : sqB (rowsOf rs) = true := by
  subst hn
  rw [List.take_length] at h
  refine sqB_iff.2 ⟨by simpa [rowsOf] using h1, by simpa [rowsOf] using h2, fun r hr => ?_⟩
  obtain ⟨x, hx, rfl⟩ := List.mem_map.1 hr
  simpa [rowsOf] using h x hx
theorem sq_bad {rs : List Rw} {n k : Nat} (hn : rs.length = n) (hk : k < rs.length) (e : rs[k].l.length ≠ n) : sqB (rowsOf rs) = false := by
  subst hn
  refine sqB_no fun h => e ?_
  simpa [rowsOf] using h.2.2 rs[k].l (List.mem_map.2 ⟨rs[k], List.getElem_mem hk, rfl⟩)
theorem sq_few {rs : List Rw} {n : Nat} (hn : rs.length = n) (h : n < 1 ∨ 16 < n) : sqB (rowsOf rs) = false := by
  subst hn
  refine sqB_no fun h' => ?_
  simp [rowsOf] at h'
  omega

set_option maxHeartbeats 1000000 in
theorem sq_any {B : Nat} {v : Value} {T : List (List Bool)} (w : World) (h : TabV w B v T) :
    Calls Try.prog 32 #[v] w fun e w' => e = .returned (.bool (sqB T)) ∧ w = w' := by
  obtain ⟨A, c, rs, rfl, rfl, hL, hr⟩ := h
  obtain ⟨n, hn⟩ : ∃ n, rs.length = n := ⟨_, rfl⟩
  have HL := Lib.hid hL; clear hL hr
  have HN := Lib.hid hn
  rw [hn]
  clear hn
  generalize hs : sqB (rowsOf rs) = sb
  have HS := Lib.hid hs; clear hs
  by_cases hlo : n < 1
  · obtain rfl : sb = false := HS.out ▸ sq_few HN.out (.inl hlo)
    go_enter Try.func32, Try.ntmps32
    go_wp2
    go_ret
    exact ⟨rfl, rfl⟩
  by_cases hhi : 16 < n
  · obtain rfl : sb = false := HS.out ▸ sq_few HN.out (.inr hhi)
    go_enter Try.func32, Try.ntmps32
    go_wp2
    go_ret
    exact ⟨rfl, rfl⟩
  have h1 : 1 ≤ n := by omega
  have h2 : n ≤ 16 := by omega
  clear hlo hhi
  go_enter Try.func32, Try.ntmps32
  go_wp2
  go_loop [15] (fun i => ∃ k : Nat, k ≤ n ∧ i = .int .i64 k ∧ ∀ r ∈ rs.take k, r.l.length = n) (fun i => n - (intOf i).toNat)
  case atStart => exact ⟨0, by omega, rfl, fun r hr => by simp at hr⟩
  case round =>
    obtain ⟨k, hk, rfl, hp⟩ := hrel
    have HP := Lib.hid hp; clear hp
    by_cases hlt : k < n
    · have hkr : k < rs.length := by rw [HN.out]; exact hlt
      obtain ⟨b, off, rfl, hb, hc⟩ := HL.out.cell (k := k) (by simpa using hkr)
      have c1 : w.cell? ⟨b, off + k, none⟩ = some (.slice rs[k].A rs[k].l.length rs[k].c) := by rw [hc]; simp [Rw.hdr]
      clear hc
      by_cases he : rs[k].l.length = n
      · have HE := Lib.hid he
        rw [he] at c1
        clear he
        go_wp2
        go_round
        case rel => exact ⟨k + 1, by omega, by go_num, rows_take hkr HP.out HE.out⟩
        case measure => simp [intOf]; omega
      · obtain rfl : sb = false := HS.out ▸ sq_bad HN.out hkr he
        generalize rs[k].l.length = q at *
        have hq : ((q : Int) == (n : Int)) = false := by simp; omega
        have hq2 : ((q : Int) != (n : Int)) = true := by simp; omega
        go_wp2
        go_ret
        exact ⟨rfl, rfl⟩
    · obtain rfl : k = n := by omega
      obtain rfl : sb = true := HS.out ▸ sq_end HN.out h1 h2 HP.out
      go_wp2
      go_ret
      exact ⟨rfl, rfl⟩

set_option maxHeartbeats 1000000 in
theorem refSq_any {B : Nat} {v : Value} {T : List (List Bool)} (w : World) (h : TabV w B v T) :
    Calls Try.prog 58 #[v] w fun e w' => e = .returned (.bool (sqB T)) ∧ w = w' := by
  obtain ⟨A, c, rs, rfl, rfl, hL, hr⟩ := h
  obtain ⟨n, hn⟩ : ∃ n, rs.length = n := ⟨_, rfl⟩
  have HL := Lib.hid hL; clear hL hr
  have HN := Lib.hid hn
  rw [hn]
  clear hn
  generalize hs : sqB (rowsOf rs) = sb
  have HS := Lib.hid hs; clear hs
  by_cases hlo : n < 1
  · obtain rfl : sb = false := HS.out ▸ sq_few HN.out (.inl hlo)
    go_enter Try.func58, Try.ntmps58
    go_wp2
    go_ret
    exact ⟨rfl, rfl⟩
  by_cases hhi : 16 < n
  · obtain rfl : sb = false := HS.out ▸ sq_few HN.out (.inr hhi)
    go_enter Try.func58, Try.ntmps58
    go_wp2
    go_ret
    exact ⟨rfl, rfl⟩
  have h1 : 1 ≤ n := by omega
  have h2 : n ≤ 16 := by omega
  clear hlo hhi
  go_enter Try.func58, Try.ntmps58
  go_wp2
  go_loop [3] (fun i => ∃ k : Nat, k ≤ n ∧ i = .int .i64 k ∧ ∀ r ∈ rs.take k, r.l.length = n) (fun i => n - (intOf i).toNat)
  case atStart => exact ⟨0, by omega, rfl, fun r hr => by simp at hr⟩
  case round =>
    obtain ⟨k, hk, rfl, hp⟩ := hrel
    have HP := Lib.hid hp; clear hp
    by_cases hlt : k < n
    · have hkr : k < rs.length := by rw [HN.out]; exact hlt
      obtain ⟨b, off, rfl, hb, hc⟩ := HL.out.cell (k := k) (by simpa using hkr)
      have c1 : w.cell? ⟨b, off + k, none⟩ = some (.slice rs[k].A rs[k].l.length rs[k].c) := by rw [hc]; simp [Rw.hdr]
      clear hc
      by_cases he : rs[k].l.length = n
      · have HE := Lib.hid he
        rw [he] at c1
        clear he
        go_wp2
        go_round
        case rel => exact ⟨k + 1, by omega, by go_num, rows_take hkr HP.out HE.out⟩
        case measure => simp [intOf]; omega
      · obtain rfl : sb = false := HS.out ▸ sq_bad HN.out hkr he
        generalize rs[k].l.length = q at *
        have hq : ((q : Int) == (n : Int)) = false := by simp; omega
        have hq2 : ((q : Int) != (n : Int)) = true := by simp; omega
        go_wp2
        go_ret
        exact ⟨rfl, rfl⟩
    · obtain rfl : k = n := by omega
      obtain rfl : sb = true := HS.out ▸ sq_end HN.out h1 h2 HP.out
      go_wp2
      go_ret
      exact ⟨rfl, rfl⟩

end Go.Proofs.Ytidjohhnggpibaa
