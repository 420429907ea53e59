/- Place: a number from 0 to n - 1. -/
import Derived.Test.YtboelofkbhgmfaaGrid
namespace Go.Proofs.Ytboelofkbhgmfaa
set_option maxRecDepth 100000
open Go.RowKit

/-- A number from 0 to n - 1 out of any number. -/
def place (k n : Int) : Int := if k.tmod n < 0 then k.tmod n + n else k.tmod n
theorem place_in {k n : Int} (hn : 0 < n) : 0 ≤ place k n ∧ place k n < n := by
  have h1 := Int.tmod_lt_of_pos k hn
  have h2 := Int.lt_tmod_of_pos k hn
  unfold place
  split <;> omega

set_option maxHeartbeats 1000000 in
theorem place_any (w : World) (k n : Int) (_hk : -9223372036854775808 ≤ k ∧ k ≤ 9223372036854775807) (hn : 0 < n) (hn2 : n ≤ 1000) :
    Calls Try.prog 16 #[.int .i64 k, .int .i64 n] w fun e w' => e = .returned (.int .i64 (place k n)) ∧ w = w' := by
  have h1 := Int.tmod_lt_of_pos k hn
  have h2 := Int.lt_tmod_of_pos k hn
  have hp := place_in (k := k) hn
  have HP := Lib.hid (show place k n = if k.tmod n < 0 then k.tmod n + n else k.tmod n from rfl)
  generalize place k n = y at *
  by_cases hneg : k.tmod n < 0
  · obtain rfl : y = k.tmod n + n := by rw [HP.out, if_pos hneg]
    clear HP
    go_enter Try.func16, Try.ntmps16
    go_wp2_with fail
    go_ret
    exact ⟨rfl, rfl⟩
  · obtain rfl : y = k.tmod n := by rw [HP.out, if_neg hneg]
    clear HP
    go_enter Try.func16, Try.ntmps16
    go_wp2_with fail
    go_ret
    exact ⟨rfl, rfl⟩

end Go.Proofs.Ytboelofkbhgmfaa
