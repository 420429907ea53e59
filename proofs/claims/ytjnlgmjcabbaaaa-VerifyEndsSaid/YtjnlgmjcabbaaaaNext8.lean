/- The walks of next and firstBad: what an instruction leads to, and the first bad one. -/
import Derived.Test.YtjnlgmjcabbaaaaAfter8
namespace Go.Proofs.Ytjnlgmjcabbaaaa
set_option maxRecDepth 100000
open Go.RowKit

theorem IntsV.fresh (w : World) (l : List Int) : IntsV (w.alloc (.cells (i64s l).toArray 3)) (w.alloc (.cells (i64s l).toArray 3)).heap.size (.slice (some ⟨w.heap.size, 0, none⟩) l.length l.length) l :=
  ⟨_, l.length, rfl, (lies_new w (i64s l) 3).more (by simp)⟩

def NextMade (w : World) (L : List Nat) (e : Ending) (w' : World) : Prop :=
  ∃ A c, e = .returned (.slice A L.length c) ∧ Lies w' w'.heap.size A (i64s (nats L)) ∧ (∀ b off, A = some ⟨b, off, none⟩ → w.heap.size ≤ b) ∧ Below w.heap.size w w'
theorem NextMade.fresh {w w1 : World} (L : List Nat) (hb : Below w.heap.size w w1) : NextMade w L (.returned (.slice (some ⟨w1.heap.size, 0, none⟩) L.length L.length)) (w1.alloc (.cells (i64s (nats L)).toArray 3)) :=
  ⟨_, _, rfl, (lies_new w1 (i64s (nats L)) 3).more (by simp), fun b off e => by injection e with e; injection e with e1; subst e1; exact hb.size, hb.trans ((below_alloc _ _).mono hb.size)⟩

set_option maxRecDepth 100000 in
set_option maxHeartbeats 8000000 in
theorem next_any (f : CodeL) (m : Dims) (s : Fl) (k : Nat) (w : World) (hf : FlowM w m s) (hr : RowI w m.lo m.cv f) (hn : f.length = m.n) (hk : k < m.n) (hn2 : m.n ≤ 100000)
    (ha : cop f k = 10 ∨ cop f k = 11 → 0 ≤ carg f k) :
    Calls Try.prog 81 #[.pointer (some ⟨m.g, 0, none⟩), .int .i64 k] w (NextMade w (nextL f k)) := by
  obtain ⟨wv, hf⟩ := hf
  obtain ⟨b, off, c, hcv, hbb, i0, i1⟩ := hr.cells (k := k) (by rw [hn]; exact hk)
  rw [hn] at hcv
  have hi32 := hr.arg (k := k) (by rw [hn]; exact hk)
  have c0 := hf.c0; rw [hcv] at c0
  obtain ⟨op, hop⟩ : ∃ z, cop f k = z := ⟨_, rfl⟩
  obtain ⟨arg, harg⟩ : ∃ z, carg f k = z := ⟨_, rfl⟩
  have hL : nextL f k = if endsB op then [] else if op = 10 then [arg.toNat] else if op = 11 then [k + 1, arg.toNat] else [k + 1] := by unfold nextL; rw [hop, harg]
  rw [hop] at i0 ha; rw [harg] at i1 hi32 ha
  obtain ⟨z, hz⟩ : ∃ z, endsB op = z := ⟨_, rfl⟩
  rw [hz] at hL
  have HEn : Hid (∀ w, Calls Try.prog 113 #[.int .i64 op] w fun e w' => e = .returned (.bool z) ∧ w' = w) := Lib.hid fun w => by rw [← hz]; exact ends_any op w
  have haw : IntKind.i64.wrap arg = arg := IntWalk.i64_in _ (by unfold I32 at hi32; omega)
  obtain ⟨n, hnn⟩ : ∃ n, m.n = n := ⟨_, rfl⟩
  rw [hnn] at c0 hk hn2
  have HA := Lib.hid ha
  obtain ⟨w1, hw1⟩ : ∃ w1, w1 = w.alloc (.cells #[.int .i64 op, .int .i32 arg] 32) := ⟨_, rfl⟩
  have J1 : Hid (IB w1 w.heap.size op arg) := Lib.hid (by rw [hw1]; exact heap_alloc_new w _)
  have B1 := Lib.hid (show Below w.heap.size w w1 by rw [hw1]; exact below_alloc _ _)
  have HL0 := Lib.hid hL
  clear hf hr hn hcv hop harg hz hnn ha hi32 hL
  go_enter Try.func81, Try.ntmps81
  go_upto_region 2 with (fail)
  rw [← hw1]
  clear hw1 i0 i1 c0
  have k0 := J1.out.c0; have k1 := J1.out.c1
  go_wp2_with fail
  refine (HEn.out w1).mono ?_
  rintro e w' ⟨rfl, rfl⟩
  cases z with
  | true =>
    go_wp2_with fail
    go_ret
    rw [HL0.out]
    exact ⟨none, 0, rfl, Lies.nil, fun b off e => (by cases e), B1.out⟩
  | false =>
    by_cases h10 : op = 10
    · have e10 : (op == 10) = true := by simpa using h10
      have hap := HA.out (.inl h10)
      obtain ⟨a, rfl⟩ : ∃ a : Nat, arg = a := ⟨arg.toNat, by omega⟩
      have hLL : nextL f k = [a] := by rw [HL0.out, if_neg (by decide), if_pos h10]; simp
      have HLL := Lib.hid hLL
      clear hLL h10 HA hap
      go_wp2_with fail
      go_ret
      rw [HLL.out]
      exact NextMade.fresh [a] B1.out
    · have e10 : (op == 10) = false := by simpa using h10
      by_cases h11 : op = 11
      · have e11 : (op == 11) = true := by simpa using h11
        have hap := HA.out (.inr h11)
        obtain ⟨a, rfl⟩ : ∃ a : Nat, arg = a := ⟨arg.toNat, by omega⟩
        have hLL : nextL f k = [k + 1, a] := by rw [HL0.out, if_neg (by decide), if_neg h10, if_pos h11]; simp
        have HLL := Lib.hid hLL
        clear hLL h10 h11 HA hap
        go_wp2_with fail
        go_ret
        rw [HLL.out]
        exact NextMade.fresh [k + 1, a] B1.out
      · have e11 : (op == 11) = false := by simpa using h11
        have hLL : nextL f k = [k + 1] := by rw [HL0.out, if_neg (by decide), if_neg h10, if_neg h11]
        have HLL := Lib.hid hLL
        clear hLL h10 h11 HA
        go_wp2_with fail
        go_ret
        rw [HLL.out]
        exact NextMade.fresh [k + 1] B1.out

set_option maxRecDepth 100000 in
set_option maxHeartbeats 8000000 in
theorem firstBad_any (m : Dims) (s : Fl) (w : World) (hf : FlowM w m s) (hn2 : m.n ≤ 100000) :
    Calls Try.prog 56 #[.pointer (some ⟨m.g, 0, none⟩)] w fun e w' =>
      e = .returned (.tuple #[.int .i64 ((firstO (fun k => s.Bd.getD k false) 0 m.n).getD 0 : Nat), .bool (firstO (fun k => s.Bd.getD k false) 0 m.n).isSome]) ∧ w' = w := by
  obtain ⟨wv, hf⟩ := hf
  have c2 := hf.c2
  have HF := Lib.hid hf
  obtain ⟨hz, hhz⟩ : ∃ hz, (fun k => s.Bd.getD k false) = hz := ⟨_, rfl⟩
  have HC : Hid (∀ k, k < m.n → w.cell? ⟨m.gb, k, none⟩ = some (.bool (hz k))) := Lib.hid (fun k hk => by rw [← hhz]; exact hf.cb hk)
  obtain ⟨n, hnn⟩ : ∃ n, m.n = n := ⟨_, rfl⟩
  rw [hnn] at c2 HC hn2 ⊢
  rw [hhz]
  obtain ⟨o, ho⟩ : ∃ o, firstO hz 0 n = o := ⟨_, rfl⟩
  rw [ho]
  have HO := Lib.hid ho
  clear hf hhz hnn ho
  go_enter Try.func56, Try.ntmps56
  go_wp2_with fail
  go_loopw [11] (fun i wr => ∃ k : Nat, k ≤ n ∧ i = .int .i64 k ∧ firstO hz 0 n = firstO hz k (n - k) ∧ wr = w) (fun i _ => n - (intOf i).toNat)
  case atStart => exact ⟨0, Nat.zero_le _, rfl, rfl, rfl⟩
  case round =>
    obtain ⟨k, hk, rfl, he, rfl⟩ := hrel
    have HE := Lib.hid he; clear he
    by_cases hkn : k < n
    · have e1 : n - k = (n - (k + 1)) + 1 := by omega
      have e3 : firstO hz 0 n = if hz k = true then some k else firstO hz (k + 1) (n - (k + 1)) := by rw [HE.out, e1]; rfl
      have E3 := Lib.hid e3; clear e3 e1
      have hck := HC.out k hkn
      cases hzk : hz k with
      | true =>
        rw [hzk] at hck
        have HY : Hid (o = some k) := Lib.hid (by rw [← HO.out, E3.out, if_pos hzk])
        clear hzk
        go_wp2_with fail
        go_ret2
        rw [HY.out]
        exact ⟨rfl, rfl⟩
      | false =>
        rw [hzk] at hck
        have HY : Hid (firstO hz 0 n = firstO hz (k + 1) (n - (k + 1))) := Lib.hid (by rw [E3.out, if_neg (by rw [hzk]; decide)])
        clear hzk
        go_wp2_with fail
        go_roundw
        case rel => exact ⟨k + 1, by omega, by go_num, HY.out, trivial⟩
        case measure => simp [intOf]; omega
    · have e1 : n - k = 0 := by omega
      have HE2 := HE.out
      rw [e1] at HE2
      have HE3 := Lib.hid (HO.out.symm.trans (HE2.trans (by rfl : firstO hz k 0 = none))); clear HE2 e1
      go_wp2_with fail
      go_ret2
      rw [HE3.out]
      exact ⟨rfl, rfl⟩

end Go.Proofs.Ytjnlgmjcabbaaaa
