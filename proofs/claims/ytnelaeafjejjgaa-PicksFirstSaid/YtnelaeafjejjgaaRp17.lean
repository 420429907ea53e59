/- The reference's choices, for any list and any seed. -/
import Derived.Test.YtnelaeafjejjgaaPk17
namespace Go.Proofs.Ytnelaeafjejjgaa
set_option maxRecDepth 100000
open Go.RowKit

/-- The reference's choices in memory: block p; the bytes in blocks below B. -/
structure RPB (w : World) (B p : Nat) (l : List Int) (s : Nat) : Prop where
  blk : ∃ A c, w.heap[p]? = some (.cells #[.slice A l.length c, .int .u64 (s : Int)] 51 (0, 0)) ∧ l.length ≤ c ∧ Lies w B A (u8L l)
  le : B ≤ p
theorem RPB.plt {w : World} {B p : Nat} {l : List Int} {s : Nat} (h : RPB w B p l s) : p < w.heap.size := by
  obtain ⟨A, c, hb, _⟩ := h.blk; exact (Array.getElem?_eq_some_iff.1 hb).1
theorem RPB.keep {S : Nat → Prop} {w w' : World} {B p : Nat} {l : List Int} {s : Nat} (h : RPB w B p l s) (hf : Frm S w w') (hp : ¬ S p) (hs : ∀ k, k < B → ¬ S k) : RPB w' B p l s := by
  obtain ⟨A, c, hb, hc, hl⟩ := h.blk
  exact ⟨⟨A, c, (hf.block p h.plt hp).trans hb, hc, lies_frm hl hf (by have := h.plt; have := h.le; omega) hs⟩, h.le⟩
theorem RPB.below {w w' : World} {B p : Nat} {l : List Int} {s : Nat} (h : RPB w B p l s) (hb : Below w.heap.size w w') : RPB w' B p l s :=
  h.keep (S := fun _ => False) (Frm.of_below hb) id (fun _ _ => id)
def MadeRP (w : World) (B : Nat) (l : List Int) (s : Nat) (e : Ending) (w' : World) : Prop := ∃ p, e = .returned (.pointer (some ⟨p, 0, none⟩)) ∧ RPB w' B p l s ∧ w.heap.size ≤ p ∧ Below w.heap.size w w'

set_option maxHeartbeats 1000000 in
theorem newRP_any (B : Nat) (v : Value) (l : List Int) (s : Nat) (w : World) (h : BytV w B v l) (hB : B ≤ w.heap.size) :
    Calls Try.prog 28 #[v, .int .u64 s] w (MadeRP w B l (seed1 s)) := by
  obtain ⟨A, c, rfl, hc, hl⟩ := h
  have HL := Lib.hid hl
  have HC := Lib.hid hc
  clear hl hc
  by_cases h0 : s = 0
  · subst h0
    rw [show (((0 : Nat) : Int)) = 0 from rfl, show seed1 0 = 1 from rfl]
    go_enter Try.func28, Try.ntmps28
    go_wp2_with fail
    go_ret
    exact ⟨_, rfl, ⟨⟨A, c, heap_alloc_new w _, HC.out, HL.out.below ((below_alloc w _).mono hB)⟩, hB⟩, Nat.le_refl _, below_alloc w _⟩
  · rw [show seed1 s = s from if_neg h0]
    have e0 : ((s : Int) == 0) = false := by simp; omega
    go_enter Try.func28, Try.ntmps28
    go_wp2_with fail
    go_ret
    exact ⟨_, rfl, ⟨⟨A, c, heap_alloc_new w _, HC.out, HL.out.below ((below_alloc w _).mono hB)⟩, hB⟩, Nat.le_refl _, below_alloc w _⟩

def RPDid (w : World) (B p : Nat) (v : Int) (l : List Int) (s : Nat) (e : Ending) (w' : World) : Prop := e = .returned (.int .i64 v) ∧ RPB w' B p l s ∧ Frm (One p) w w'
theorem set_second {w : World} {p : Nat} {u f v : Value} {t : Nat} (h : w.heap[p]? = some (.cells #[u, f] t (0, 0))) : (w.setCell ⟨p, 1, none⟩ v).heap[p]? = some (.cells #[u, v] t (0, 0)) := by
  have := set_blk h 1 v; simpa using this

set_option maxHeartbeats 4000000 in
theorem rpBelow_any (m B p s : Nat) (w : World) (h : RPB w B p [] s) (hs : s < 18446744073709551616) (hm : 1 ≤ m) (hm2 : m ≤ 9223372036854775807) :
    Calls Try.prog 45 #[.pointer (some ⟨p, 0, none⟩), .int .i64 m] w (RPDid w B p ((stepN s % m : Nat) : Int) [] (stepN s)) := by
  have H := Lib.hid h
  obtain ⟨A, c, hb, hc, _⟩ := h.blk
  have HB := Lib.hid hb
  have c1 : w.cell? ⟨p, 1, none⟩ = _ := cell_blk hb 1
  have f1 := frozen_blk hb 1
  have HST := Lib.hid (fun w => refStep16_any s w hs)
  have HW := Lib.hid (u64_of (n := m) (by omega) (by omega))
  obtain ⟨t, ht⟩ : ∃ t, stepN s = t := ⟨_, rfl⟩
  rw [ht] at HST ⊢
  have HMM := Lib.hid (i64_mod (a := t) hm hm2)
  have z1 : ¬ IntKind.u64.wrap (m : Int) = 0 := by rw [HW.out]; omega
  obtain ⟨v, hv⟩ : ∃ v : Int, ((t % m : Nat) : Int) = v := ⟨_, rfl⟩
  have z2 : wrap64 ((t : Int) % IntKind.u64.wrap (m : Int)) = v := by rw [HW.out, ← hv, ← HMM.out, Int.natCast_emod]
  have HZ2 := Lib.hid (show wrap64 ((t : Int) % (m : Int)) = v by rw [← hv, ← HMM.out, Int.natCast_emod])
  rw [hv]
  have h1 : ¬ (m : Int) < 1 := by omega
  clear hb h hv ht hs
  go_enter Try.func45, Try.ntmps45
  go_wp2_with fail
  refine (HST.out w).mono ?_
  rintro e w' ⟨rfl, rfl⟩
  go_wp2_with fail
  go_ret
  exact ⟨by show Ending.returned (.int .i64 (wrap64 ((t : Int) % (m : Int)))) = _; rw [HZ2.out], ⟨⟨A, c, set_second HB.out, hc, Lies.nil⟩, H.out.le⟩, Frm.setCell (S := One p) (p := ⟨p, 1, none⟩) rfl _⟩

set_option maxHeartbeats 4000000 in
theorem rpNext_nil (n : Int) (m B p s : Nat) (w : World) (h : RPB w B p [] s) (hs : s < 18446744073709551616) (hm : Cho n m) (hm2 : m ≤ 9223372036854775807) :
    Calls Try.prog 30 #[.pointer (some ⟨p, 0, none⟩), .int .i64 n] w (RPDid w B p (pickV [] s m) [] (pickS [] s)) := by
  have HB := Lib.hid (rpBelow_any m B p s w h hs (by unfold Cho at hm; omega) hm2)
  obtain ⟨A, c, hb, _, _⟩ := h.blk
  have c0 : w.cell? ⟨p, 0, none⟩ = some (.slice A 0 c) := cell_blk hb 0
  show Calls _ _ _ _ (RPDid w B p ((stepN s % m : Nat) : Int) [] (stepN s))
  obtain ⟨v, hv⟩ : ∃ v, ((stepN s % m : Nat) : Int) = v := ⟨_, rfl⟩
  rw [hv] at HB ⊢
  obtain ⟨t, ht⟩ : ∃ t, stepN s = t := ⟨_, rfl⟩
  rw [ht] at HB ⊢
  clear hb h hv ht hs
  rcases hm with ⟨h0, rfl⟩ | ⟨h0, rfl⟩
  · have h1 : ¬ (1 : Int) ≤ n := by omega
    rw [show ((1 : Nat) : Int) = 1 from rfl] at HB
    go_enter Try.func30, Try.ntmps30
    go_wp2_with fail
    refine HB.out.mono ?_
    rintro e w' ⟨rfl, hr, hf⟩
    go_wp2_with fail
    go_ret
    exact ⟨rfl, hr, hf⟩
  · have h1 : ¬ (m : Int) < 1 := by omega
    have h2 : 1 ≤ m := by omega
    go_enter Try.func30, Try.ntmps30
    go_wp2_with fail
    refine HB.out.mono ?_
    rintro e w' ⟨rfl, hr, hf⟩
    go_wp2_with fail
    go_ret
    exact ⟨rfl, hr, hf⟩

set_option maxHeartbeats 8000000 in
theorem rpNext_cons (n : Int) (m B p s : Nat) (x : Int) (t : List Int) (w : World) (h : RPB w B p (x :: t) s) (hx : 0 ≤ x ∧ x ≤ 255) (hm : Cho n m) (hm2 : m ≤ 9223372036854775807) (ht : t.length ≤ 100000) :
    Calls Try.prog 30 #[.pointer (some ⟨p, 0, none⟩), .int .i64 n] w (RPDid w B p (pickV (x :: t) s m) t (pickS (x :: t) s)) := by
  have H := Lib.hid h
  obtain ⟨A, c, hb, hc, hl⟩ := h.blk
  obtain ⟨b, off, rfl, hbg, cx⟩ := lie_u8 (k := 0) hl (by simp)
  have HT := Lib.hid (lies_tail hl)
  have c0 : w.cell? ⟨p, 0, none⟩ = _ := cell_blk hb 0
  have f0 := frozen_blk hb 0
  show Calls _ _ _ _ (RPDid w B p (x % m) t s)
  have hmod := mod_byte (m := m) hx.1
  have hxm : 0 ≤ x % (m : Int) ∧ x % (m : Int) ≤ x := by
    obtain ⟨X, rfl⟩ := Int.eq_ofNat_of_zero_le hx.1
    have := Nat.mod_le X m
    rw [← Int.natCast_emod]; omega
  obtain ⟨v, hv⟩ : ∃ v, x % (m : Int) = v := ⟨_, rfl⟩
  have hn1 : (x :: t).length = t.length + 1 := rfl
  obtain ⟨k, hk⟩ : ∃ k, t.length = k := ⟨_, rfl⟩
  have HK := Lib.hid hk
  have HB := Lib.hid hb
  rw [hv] at hmod hxm ⊢
  rw [hn1, hk] at c0 hc HB
  rw [show (x :: t)[0]'(by simp) = x from rfl, Nat.add_zero] at cx
  have z1 : (((k + 1 : Nat) : Int) == 0) = false := by simp; omega
  have z2 : ¬ (m : Int) = 0 := by unfold Cho at hm; omega
  have z3 : 0 < k + 1 := by omega
  have HF := Lib.hid (Frm.setCell (S := One p) (w := w) (p := ⟨p, 0, none⟩) rfl)
  rw [hk] at ht
  have hrest : ∃ A2 : Option Addr, ∃ c2, k ≤ c2 ∧ Lies w B A2 (u8L t) ∧ ((c = 1 ∧ A2 = some ⟨b, off, none⟩ ∧ c2 = 0 ∧ k = 0) ∨ (c ≠ 1 ∧ A2 = some ⟨b, off + 1, none⟩ ∧ c2 = c - 1)) := by
    by_cases h1 : c = 1
    · have hk0 : k = 0 := by omega
      have ht0 : t = [] := List.eq_nil_of_length_eq_zero (by rw [HK.out]; exact hk0)
      exact ⟨_, 0, by omega, by rw [ht0]; exact Lies.nil, .inl ⟨h1, rfl, rfl, hk0⟩⟩
    · exact ⟨_, c - 1, by omega, HT.out, .inr ⟨h1, rfl, rfl⟩⟩
  obtain ⟨A2, c2, hc2, hl2, hA⟩ := hrest
  have HL2 := Lib.hid hl2
  have HCL := Lib.hid hc2
  clear hb hl hn1 hk hv h hl2 HT hbg
  have fin : ∀ w' : World, w' = w.setCell ⟨p, 0, none⟩ (.slice A2 k c2) → RPDid w B p v t s (.returned (.int .i64 v)) w' := fun w' hw' => by
    subst hw'
    have hp := H.out.plt
    have hle := H.out.le
    exact ⟨rfl, ⟨⟨A2, c2, by rw [HK.out]; exact set_first HB.out, by rw [HK.out]; exact HCL.out, lies_frm HL2.out (HF.out _) (by omega) (fun i hi e => by have : i = p := e; omega)⟩, hle⟩, HF.out _⟩
  have FIN := Lib.hid fin
  clear fin
  rcases hm with ⟨h0, rfl⟩ | ⟨h0, rfl⟩
  · have h1 : ¬ (1 : Int) ≤ n := by omega
    rw [show ((1 : Nat) : Int) = 1 from rfl] at hmod
    rcases hA with ⟨h3, rfl, rfl, rfl⟩ | ⟨h3, rfl, rfl⟩
    all_goals
      go_enter Try.func30, Try.ntmps30
      go_wp2_with fail
      go_ret
      exact FIN.out _ rfl
  · have h1 : ¬ (m : Int) < 1 := by omega
    have h2 : 1 ≤ m := by omega
    rcases hA with ⟨h3, rfl, rfl, rfl⟩ | ⟨h3, rfl, rfl⟩
    all_goals
      go_enter Try.func30, Try.ntmps30
      go_wp2_with fail
      go_ret
      exact FIN.out _ rfl

/-! For any list. -/
theorem nextPick_any (n : Int) (m : Nat) (lo p g s : Nat) (l : List Int) (w : World) (h : PicksB w lo p g l s) (hs : s < 18446744073709551616) (hy : IsByt l) (hm : Cho n m) (hm2 : m ≤ 9223372036854775807) (hl : l.length ≤ 100000) :
    Calls Try.prog 29 #[.pointer (some ⟨p, 0, none⟩), .int .i64 n] w (PickDid w lo p g (pickV l s m) l.tail (pickS l s)) := by
  cases l with
  | nil => exact nextPick_nil n m lo p g s w h hs hm hm2
  | cons x t => exact nextPick_cons n m lo p g s x t w h (hy x (List.mem_cons_self ..)) hm hm2 (by simp at hl; omega)
theorem rpNext_any (n : Int) (m B p s : Nat) (l : List Int) (w : World) (h : RPB w B p l s) (hs : s < 18446744073709551616) (hy : IsByt l) (hm : Cho n m) (hm2 : m ≤ 9223372036854775807) (hl : l.length ≤ 100000) :
    Calls Try.prog 30 #[.pointer (some ⟨p, 0, none⟩), .int .i64 n] w (RPDid w B p (pickV l s m) l.tail (pickS l s)) := by
  cases l with
  | nil => exact rpNext_nil n m B p s w h hs hm hm2
  | cons x t => exact rpNext_cons n m B p s x t w h (hy x (List.mem_cons_self ..)) hm hm2 (by simp at hl; omega)
theorem pickS_lt {l : List Int} {s : Nat} (h : s < 18446744073709551616) : pickS l s < 18446744073709551616 := by
  cases l with
  | nil => exact stepN_lt h
  | cons x t => exact h
theorem pickV_range {l : List Int} {s m : Nat} (hy : IsByt l) (hm : 1 ≤ m) : 0 ≤ pickV l s m ∧ pickV l s m < m := by
  cases l with
  | nil => show 0 ≤ ((stepN s % m : Nat) : Int) ∧ ((stepN s % m : Nat) : Int) < m; have := Nat.mod_lt (stepN s) hm; omega
  | cons x t => exact ⟨Int.emod_nonneg _ (by omega), Int.emod_lt_of_pos _ (by omega)⟩
theorem byt_tail {l : List Int} (h : IsByt l) : IsByt l.tail := fun x hx => h x (List.mem_of_mem_tail hx)

end Go.Proofs.Ytnelaeafjejjgaa
