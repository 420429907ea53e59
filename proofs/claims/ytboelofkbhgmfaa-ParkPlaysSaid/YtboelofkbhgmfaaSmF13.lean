/- The reference's SameFutures of two tables that hold the same. -/
import Derived.Test.YtboelofkbhgmfaaRgF12
import Derived.Test.YtboelofkbhgmfaaAll13
import Derived.Deep.QuietTactic
import Derived.BigQuiet
namespace Go.Proofs.Ytboelofkbhgmfaa
set_option maxRecDepth 100000
open Go.RowKit

/-- A table of futures' rows, as its cells: in whatever world. -/
def TabC (w : World) (b : Nat) (Ls : List (List FutX)) : Prop := b < w.heap.size ∧ ∀ k (hk : k < Ls.length), ∃ A c, w.cell? ⟨b, k, none⟩ = some (.slice A Ls[k].length c) ∧
  ∀ j (hj : j < Ls[k].length), ∃ g, A = some ⟨g, 0, none⟩ ∧ w.cell? ⟨g, j * 4, none⟩ = some (.int .i64 Ls[k][j].lb) ∧ w.cell? ⟨g, j * 4 + 1, none⟩ = some (.int .i64 Ls[k][j].st) ∧ w.cell? ⟨g, j * 4 + 2, none⟩ = some (.int .i32 Ls[k][j].v) ∧ w.cell? ⟨g, j * 4 + 3, none⟩ = some (.int .i64 Ls[k][j].code)
theorem TabC.drewN {w : World} {b : Nat} {Ls : List (List FutX)} (h : TabC w b Ls) (n : Nat) : TabC (w.drewN n) b Ls := h
theorem row_cells {w : World} {A : Option Addr} {c base : Nat} {l : List FutX} (ho : w.ownsRow base 64 4 (.slice A l.length c) l.length (rowE futA l)) : ∀ j (hj : j < l.length), ∃ g, A = some ⟨g, 0, none⟩ ∧ w.cell? ⟨g, j * 4, none⟩ = some (.int .i64 l[j].lb) ∧ w.cell? ⟨g, j * 4 + 1, none⟩ = some (.int .i64 l[j].st) ∧ w.cell? ⟨g, j * 4 + 2, none⟩ = some (.int .i32 l[j].v) ∧ w.cell? ⟨g, j * 4 + 3, none⟩ = some (.int .i64 l[j].code) := fun j hj => by
  obtain ⟨g, e, _, hc⟩ := own_itm ho futA_size hj
  exact ⟨g, e, hc 0 _ rfl, hc 1 _ rfl, hc 2 _ rfl, hc 3 _ rfl⟩
set_option maxRecDepth 100000 in
set_option maxHeartbeats 8000000 in
theorem sameF_any {w : World} {b1 b2 : Nat} {Ls : List (List FutX)} (h1 : TabC w b1 Ls) (h2 : TabC w b2 Ls) (hn : Ls.length ≤ 16) (hl : ∀ k (hk : k < Ls.length), Ls[k].length ≤ 4096) :
    Calls Try.prog 40 #[.slice (some ⟨b1, 0, none⟩) Ls.length Ls.length, .slice (some ⟨b2, 0, none⟩) Ls.length Ls.length] w fun e w' => e = .returned (.bool true) ∧ ∃ n, w' = w.drewN n := by
  have H1 := Lib.hid h1; have H2 := Lib.hid h2; have HLE := Lib.hid hl
  obtain ⟨L, hL⟩ : ∃ L, Ls.length = L := ⟨_, rfl⟩
  have HL := Lib.hid hL
  rw [hL] at hn ⊢
  clear h1 h2 hl hL
  go_enter Try.func40, Try.ntmps40
  go_wp2_with fail
  go_loopw [5] (fun i wr => ∃ k : Nat, k ≤ L ∧ i = .int .i64 k ∧ ∃ q, wr = w.drewN q) (fun i _ => L - (intOf i).toNat)
  case atStart => exact ⟨0, Nat.zero_le _, rfl, 0, rfl⟩
  case round =>
    obtain ⟨k, hk, rfl, q, rfl⟩ := hrel
    by_cases hkL : k < L
    · have hkl : k < Ls.length := by rw [HL.out]; exact hkL
      obtain ⟨A1, c1, d1, r1⟩ := H1.out.2 k hkl
      obtain ⟨A2, c2, d2, r2⟩ := H2.out.2 k hkl
      obtain ⟨n, hnn⟩ : ∃ n, Ls[k].length = n := ⟨_, rfl⟩
      have HNN := Lib.hid hnn
      have hn4 : n ≤ 4096 := by rw [← hnn]; exact HLE.out k hkl
      rw [hnn] at d1 d2
      have R1 := Lib.hid r1; have R2 := Lib.hid r2
      have y : ((n : Int) != (n : Int)) = false := bne_self_eq_false _
      have i1 : (0 : Int) ≤ (k : Int) ∧ (k : Int) < L := by omega
      clear hnn r1 r2
      go_wp2_with fail
      go_quiet (fail)
      clear y
      go_wp2_with fail
      go_loopw [6] (fun i wr => ∃ m : Nat, m ≤ n ∧ i = .int .i64 m ∧ ∃ q, wr = w.drewN q) (fun i _ => n - (intOf i).toNat)
      case atStart => exact ⟨0, Nat.zero_le _, rfl, _, World.drewN_drewN ..⟩
      case round =>
        obtain ⟨m, hm, rfl, q2, rfl⟩ := hrel
        by_cases hmn : m < n
        · have hml : m < Ls[k].length := by rw [HNN.out]; exact hmn
          obtain ⟨g1, eA, u0, u1, u2, u3⟩ := R1.out m hml
          subst eA
          obtain ⟨g2, eB, v0, v1, v2, v3⟩ := R2.out m hml
          subst eB
          obtain ⟨x, hx⟩ : ∃ x, Ls[k][m] = x := ⟨_, rfl⟩
          rw [hx] at u0 u1 u2 u3 v0 v1 v2 v3
          have i2 : (0 : Int) ≤ (m : Int) ∧ (m : Int) < n := by omega
          have s0 : (x.lb == x.lb) = true := beq_self_eq_true _
          have s1 : (x.st == x.st) = true := beq_self_eq_true _
          have s2 : (x.v == x.v) = true := beq_self_eq_true _
          have s3 : (x.code == x.code) = true := beq_self_eq_true _
          clear hx
          go_wp2_with fail
          go_quiet (fail)
          go_wp2_with fail
          go_roundw
          case rel => exact ⟨m + 1, by omega, by go_num, _, rfl⟩
          case measure => simp [intOf]; omega
        · obtain rfl : n = m := by omega
          go_wp2_with fail
          go_roundw
          case rel => exact ⟨k + 1, by omega, by go_num, _, rfl⟩
          case measure => simp [intOf]; omega
    · obtain rfl : L = k := by omega
      go_wp2_with fail
      go_ret
      exact ⟨rfl, _, rfl⟩

end Go.Proofs.Ytboelofkbhgmfaa
