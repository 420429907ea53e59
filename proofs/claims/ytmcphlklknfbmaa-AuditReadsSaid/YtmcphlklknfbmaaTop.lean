/- The walks of pack.topShift, appendNum and Put. -/
import Derived.Test.YtmcphlklknfbmaaRows
import Derived.Test.YtmcphlklknfbmaaMem
import Derived.Test.YtmcphlklknfbmaaLen
import Derived.WalkKit
import Derived.WalkLawsBesides
import Derived.Lib.Hide
import Derived.Outline
import Derived.Deep.DeepMust
import Derived.Maps.AppendAt
import Derived.OwnWalk
namespace Go.Proofs.Ytmcphlklknfbmaa
set_option maxRecDepth 100000
open Go.RowKit

theorem topShift_any (x : Int) (w : World) (h0 : 0 ≤ x) (h1 : x ≤ 18446744073709551615) :
    Calls Try.prog 104 #[.int .u64 x] w fun e w' => e = .returned (.int .i64 (7 * topk x.toNat : Nat)) ∧ w = w' := by
  have hb := bitLen64 x.toNat (by omega)
  go_enter Try.func104, Try.ntmps104
  go_wp2_with (go_at_call 105; refine (len64_any _ _ (by omega) (by omega)).mono ?_; rintro e w' ⟨rfl, rfl⟩)
  go_ret
  refine ⟨congrArg Ending.returned (congrArg (Value.int IntKind.i64) ?_), rfl⟩
  unfold topk; omega


theorem or128 (y : Nat) : bits .or .u8 128 ((y % 256 : Nat) : Int) = ((128 + y % 128 : Nat) : Int) := by
  have h := u8_or_nat 128 (y % 256) (by omega) (by omega)
  have e : 128 ||| y % 256 = 128 + y % 128 := by
    have e1 : y % 256 = y % 256 / 128 * 128 + y % 128 := by omega
    have e2 := nat_join 7 (y % 256 / 128 * 128) (y % 128) (by omega) (by omega)
    have h2 : y % 256 / 128 = 0 ∨ y % 256 / 128 = 1 := by omega
    have e3 := nat_join 7 128 (y % 128) (by omega) (by omega)
    rcases h2 with h2 | h2
    · rw [e1, h2]; simpa using e3
    · rw [e1, h2, Nat.one_mul, ← e3, ← Nat.or_assoc, Nat.or_self]
  rw [← e]; exact h

theorem and127 (y : Nat) : bits .and .u8 127 ((y % 256 : Nat) : Int) = ((y % 128 : Nat) : Int) := by
  have h := u8_and_nat 127 (y % 256) (by omega) (by omega)
  rw [nat_mask7'] at h
  rw [show y % 128 = y % 256 % 128 from by omega]; exact h

theorem or128_at (x j : Nat) : bits .or .u8 128 ((x : Int) / 2 ^ (7 * j) % 256) = ((128 + x / 2 ^ (7 * j) % 128 : Nat) : Int) := by
  rw [← or128]; congr 1

theorem and127_at (x : Nat) : bits .and .u8 127 ((x : Int) % 256) = ((x % 128 : Nat) : Int) := by
  rw [← and127]; congr 1

theorem step_enc {done : List Int} {x j : Nat} (h : done ++ encAt x (j + 1) = enc x) :
    (done ++ [((128 + x / 2 ^ (7 * (j + 1)) % 128 : Nat) : Int)]) ++ encAt x j = enc x := by
  rw [← h]; simp [encAt]

theorem bound_enc {done : List Int} {x j : Nat} (hx : x ≤ 18446744073709551615) (h : done ++ encAt x j = enc x) : done.length + j + 1 ≤ 10 := by
  have h1 := congrArg List.length h
  have h2 := enc_length_le x (by omega)
  rw [List.length_append, encAt_length] at h1; omega

set_option maxRecDepth 100000 in
set_option maxHeartbeats 1000000 in
theorem appendNum_any (base n : Nat) (v : Value) (xs : List Int) (x : Nat) (w : World) (hx : x ≤ 18446744073709551615) (hn : n + 20 ≤ 140737488355328)
    (hbase : base ≤ w.heap.size) (hown : w.ownsRow base 5 1 v n (xs.map (Value.int .u8))) :
    Calls Try.prog 101 #[v, .int .u64 x] w fun e w' =>
      ∃ v', e = .returned v' ∧ w'.ownsRow base 5 1 v' (n + (enc x).length) ((xs ++ enc x).map (Value.int .u8)) ∧ Below base w w' := by
  obtain ⟨i0, hi, hz0, hz1, hz2⟩ := info_parts info_byte
  have hk := topk_le x (by omega)
  go_enter Try.func101, Try.ntmps101
  go_wp2_with (go_at_call 104; refine (topShift_any _ _ (by omega) (by omega)).mono ?_; rintro e w' ⟨rfl, rfl⟩)
  go_loopw [0, 5] (fun o s wr => ∃ (j : Nat) (done : List Int), j ≤ topk x ∧ s = .int .i64 (7 * j : Nat) ∧ done ++ encAt x j = enc x ∧
      wr.ownsRow base 5 1 o (n + done.length) ((xs ++ done).map (Value.int .u8)) ∧ Below base w wr) (fun _ s _ => (intOf s).toNat)
  case atStart => exact ⟨topk x, [], Nat.le_refl _, rfl, rfl, by simpa using hown, Below.refl _ _⟩
  case round =>
    obtain ⟨j, done, hj, rfl, hd, ho, hb⟩ := hrel
    have hdl := bound_enc hx hd
    have hsz := hb.size
    have HD := Lib.hid hd; clear hd
    by_cases hj0 : 0 < j
    · go_wp2_with (at_builtin; go_must (refine wpList_append_own _ rfl _ _ 54 rfl base 5 i0 (.int .u8 0) 1 1 Try.underlying54 hi hz0 hz1 hz2 rfl (by decide) _ _ _ rfl (ho.alloc _) ⟨wr.heap.size, 0, none⟩ 1 1 [Value.int IntKind.u8 (bits BinOp.or IntKind.u8 128 (↑x / 2 ^ (7 * j) % 256))] rfl rfl ?c1 ?c2 ?c3 ?c4 ?c5 ?_))
      case c1 => exact cell_one_new _ _ _
      case c2 => intro u hu; simp at hu; subst hu; rfl
      case c3 => unfold maxLen; omega
      case c4 => omega
      case c5 => simp; omega
      intro v' w1 hown1 hgrow _
      rw [or128_at] at hown1
      obtain ⟨j', rfl⟩ : ∃ j', j = j' + 1 := ⟨j - 1, by omega⟩
      have HS := Lib.hid (step_enc HD.out)
      have hb1 : Below base w w1 := (hb.alloc (by omega) _).grown hgrow (by simp; omega) (fun k hk => (ho.lt k hk).1)
      clear HD hgrow ho hb
      go_wp2
      go_roundw
      case rel => exact ⟨j', _, by omega, by go_num, HS.out, by simpa [Nat.add_assoc] using hown1, hb1⟩
      case measure => simp [intOf]; omega
    · obtain rfl : j = 0 := by omega
      go_wp2_with (at_builtin; go_must (refine wpList_append_own _ rfl _ _ 54 rfl base 5 i0 (.int .u8 0) 1 1 Try.underlying54 hi hz0 hz1 hz2 rfl (by decide) _ _ _ rfl (ho.alloc _) ⟨wr.heap.size, 0, none⟩ 1 1 [Value.int IntKind.u8 (bits BinOp.and IntKind.u8 127 (↑x % 256))] rfl rfl ?c1 ?c2 ?c3 ?c4 ?c5 ?_))
      case c1 => exact cell_one_new _ _ _
      case c2 => intro u hu; simp at hu; subst hu; rfl
      case c3 => unfold maxLen; omega
      case c4 => omega
      case c5 => simp; omega
      intro v' w1 hown1 hgrow _
      rw [and127_at] at hown1
      have hb1 : Below base w w1 := (hb.alloc (by omega) _).grown hgrow (by simp; omega) (fun k hk => (ho.lt k hk).1)
      clear hgrow ho hb
      go_wp2
      go_ret
      refine ⟨v', rfl, ?_, hb1⟩
      rw [← HD.out]
      simpa [encAt, Nat.add_assoc] using hown1

end Go.Proofs.Ytmcphlklknfbmaa
