/- Package picks, and the reference's choices, for any list and any seed. -/
import Derived.Test.YtnelaeafjejjgaaRng16
import Derived.Test.YtnelaeafjejjgaaBytV
import Derived.Test.YtnelaeafjejjgaaApd
import Derived.Maps.AppendAt
namespace Go.Proofs.Ytnelaeafjejjgaa
set_option maxRecDepth 100000
open Go.RowKit

theorem inf_u8 : (Try.prog.info? 5).map (fun i => (i.zero, i.size, i.bytes)) = some (some (.int .u8 0), 1, 1) := by kernel_rfl
theorem one_u8 (l : List Int) : ∀ u ∈ u8L l, u.oneCell' = true := by
  intro u hu; obtain ⟨x, _, rfl⟩ := List.mem_map.1 hu; rfl
/-- A slice of bytes of the call's own. -/
def Own8 (w : World) (base : Nat) (v : Value) (l : List Int) : Prop := w.ownsRow base 5 1 v l.length (u8L l)
theorem Own8.lo {w : World} {base : Nat} {A : Option Addr} {n c : Nat} {l : List Int} (h : Own8 w base (.slice A n c) l) : ∀ b off, A = some ⟨b, off, none⟩ → base ≤ b := by
  obtain ⟨A', c', e, _, _, _, _, hb⟩ := Lies.of_own h
  injection e with e1 _ _
  subst e1
  exact fun b off e => (hb b off e).1
theorem Own8.v {w : World} {base : Nat} {v : Value} {l : List Int} (h : Own8 w base v l) : BytV w w.heap.size v l := by
  obtain ⟨A, c, e, hn, _, _, hl, _⟩ := Lies.of_own h
  exact ⟨A, c, e, hn, hl⟩
@[go_sem] theorem eql_nilB_no (n c : Nat) (w : World) : Sem.run Try.prog (binOp .eql 44 (.slice none n c) (.slice none 0 0)) w = .ok (.bool true) w := by kernel_rfl
@[go_sem] theorem eql_nilB_yes (a : Addr) (n c : Nat) (w : World) : Sem.run Try.prog (binOp .eql 44 (.slice (some a) n c) (.slice none 0 0)) w = .ok (.bool false) w := by kernel_rfl

set_option maxRecDepth 100000 in
set_option maxHeartbeats 8000000 in
theorem cloneB_any (s : Value) (l : List Int) (w : World) (h : BytV w w.heap.size s l) (hn : l.length ≤ 100000) :
    Calls Try.prog 44 #[s] w fun e w' => (∃ v, e = .returned v ∧ Own8 w' w.heap.size v l) ∧ Below w.heap.size w w' := by
  have H := Lib.hid h
  obtain ⟨A, c, rfl, _, hl⟩ := h
  obtain ⟨n, e1⟩ : ∃ n, l.length = n := ⟨_, rfl⟩
  have E1 := Lib.hid e1
  rw [e1] at H hn ⊢
  have HL := Lib.hid hl
  cases A with
  | none =>
    have h0 : l = [] := by
      rcases Nat.eq_zero_or_pos l.length with h0 | h0
      · exact List.eq_nil_of_length_eq_zero h0
      · obtain ⟨b, off, e, _⟩ := HL.out (by rw [u8L_length]; exact h0)
        cases e
    clear e1 hl
    go_enter Try.func44, Try.ntmps44
    go_wp2_with fail
    go_ret
    refine ⟨⟨_, rfl, ?_⟩, Below.refl _ _⟩
    rw [h0]; exact World.ownsRow_nil w w.heap.size _ 1
  | some a =>
    clear e1 hl
    have hw2 : Hid (Own8 (w.alloc (.cells #[] 5)) w.heap.size (.slice (some ⟨w.heap.size, 0, none⟩) 0 0) []) :=
      Lib.hid ⟨rfl, .inr ⟨_, 0, #[], rfl, Nat.le_refl _, heap_alloc_new w _, Nat.le_refl _, Nat.zero_le _, rfl, rfl⟩⟩
    have B2 := Lib.hid (below_alloc w (.cells #[] 5))
    go_enter Try.func44, Try.ntmps44
    go_wp2_with (at_builtin; go_must (refine wpList_append_L 44 5 _ 1 Try.underlying44 inf_u8 rfl rfl (.tmp 5) (.tmp 6) rfl w.heap.size _ _ _ rfl hw2.out w.heap.size (some a) n c (u8L l) rfl (by rw [u8L_length]; exact E1.out) (HL.out.below B2.out) (one_u8 l) ?c3 ?c4 ?c5 ?_))
    case c3 => show 0 + n ≤ _; omega
    case c4 => omega
    case c5 => exact B2.out.size
    intro v3 w3 ho3 _ hb3
    have HO3 : Hid (Own8 w3 w.heap.size v3 l) := Lib.hid (by unfold Own8; rw [E1.out]; simpa [u8L] using ho3)
    have HB3 := Lib.hid (B2.out.trans hb3)
    clear ho3 hb3
    go_wp2_with fail
    go_ret
    exact ⟨⟨_, rfl, HO3.out⟩, HB3.out⟩

/-- The choices of package picks in memory: the struct's block p, the generator's g. -/
structure PicksB (w : World) (lo p g : Nat) (l : List Int) (s : Nat) : Prop where
  blk : ∃ A c, w.heap[p]? = some (.cells #[.slice A l.length c, .func (.func 24) #[.pointer (some ⟨g, 0, none⟩)] #[]] 71 (0, 0)) ∧ l.length ≤ c ∧ Lies w g A (u8L l) ∧ (∀ b off, A = some ⟨b, off, none⟩ → lo ≤ b)
  rng : RngB w g s
  lo : lo ≤ g
  lt : g < p
def Pair (p g : Nat) : Nat → Prop := fun k => k = p ∨ k = g
theorem PicksB.plt {w : World} {lo p g : Nat} {l : List Int} {s : Nat} (h : PicksB w lo p g l s) : p < w.heap.size := by
  obtain ⟨A, c, hb, _⟩ := h.blk; exact (Array.getElem?_eq_some_iff.1 hb).1
theorem lies_frm {S : Nat → Prop} {w w' : World} {B : Nat} {A : Option Addr} {xs : List Value} (h : Lies w B A xs) (hf : Frm S w w') (hB : B ≤ w.heap.size) (hs : ∀ k, k < B → ¬ S k) : Lies w' B A xs :=
  h.keep fun b o hlt => hf.cell (by omega) (hs b hlt)
theorem lies_frm2 {S : Nat → Prop} {w w' : World} {B lo : Nat} {A : Option Addr} {xs : List Value} (h : Lies w B A xs) (hlo : ∀ b off, A = some ⟨b, off, none⟩ → lo ≤ b) (hf : Frm S w w') (hB : B ≤ w.heap.size) (hs : ∀ k, lo ≤ k → k < B → ¬ S k) : Lies w' B A xs := fun hn => by
  obtain ⟨b, off, e, hb, hc⟩ := h hn
  exact ⟨b, off, e, hb, fun j u hu => (hf.cell (by omega) (hs b (hlo b off e) hb)).trans (hc j u hu)⟩
theorem PicksB.keep {S : Nat → Prop} {w w' : World} {lo p g : Nat} {l : List Int} {s : Nat} (h : PicksB w lo p g l s) (hf : Frm S w w') (hp : ¬ S p) (hs : ∀ k, lo ≤ k → k ≤ g → ¬ S k) : PicksB w' lo p g l s := by
  obtain ⟨A, c, hb, hc, hl, hlo⟩ := h.blk
  have := h.plt; have := h.lt
  exact ⟨⟨A, c, (hf.block p h.plt hp).trans hb, hc, lies_frm2 hl hlo hf (by omega) (fun k h1 hk => hs k h1 (by omega)), hlo⟩, h.rng.keep hf (hs g h.lo (Nat.le_refl _)), h.lo, h.lt⟩
theorem PicksB.below {w w' : World} {lo p g : Nat} {l : List Int} {s : Nat} (h : PicksB w lo p g l s) (hb : Below w.heap.size w w') : PicksB w' lo p g l s :=
  h.keep (S := fun _ => False) (Frm.of_below hb) id (fun _ _ _ => id)
def MadePicks (w : World) (l : List Int) (s : Nat) (e : Ending) (w' : World) : Prop := ∃ p g, e = .returned (.pointer (some ⟨p, 0, none⟩)) ∧ PicksB w' w.heap.size p g l s ∧ Below w.heap.size w w'

set_option maxHeartbeats 1000000 in
theorem newPicks_any (v : Value) (l : List Int) (s : Nat) (w : World) (h : BytV w w.heap.size v l) (hn : l.length ≤ 100000) :
    Calls Try.prog 27 #[v, .int .u64 s] w (MadePicks w l (seed1 s)) := by
  have HC := Lib.hid (cloneB_any v l w h hn)
  obtain ⟨A, c, rfl, _, hl⟩ := h
  clear hl
  go_enter Try.func27, Try.ntmps27
  go_wp2_with fail
  refine HC.out.mono ?_
  rintro e w1 ⟨⟨v1, rfl, ho⟩, hb1⟩
  obtain ⟨A1, c1, rfl, hc1, hl1⟩ := ho.v
  have HLO := Lib.hid ho.lo
  have HL1 := Lib.hid hl1; have B1 := Lib.hid hb1
  clear ho hl1 hb1
  go_wp2_with fail
  refine (newRng_any s w1).mono ?_
  rintro e w2 ⟨g, rfl, hr, hg, hb2⟩
  have R2 := Lib.hid hr; have B2 := Lib.hid hb2
  have HG := Lib.hid hg
  clear hr hb2 hg hn
  have hc2 := hc1
  clear hc1
  go_wp2_with fail
  go_ret
  refine ⟨_, g, rfl, ⟨⟨A1, c1, heap_alloc_new w2 _, hc2, ?_, HLO.out⟩, R2.out.below (below_alloc w2 _), Nat.le_trans B1.out.size HG.out, R2.out.lt⟩, ?_⟩
  · exact ((HL1.out.below B2.out).more HG.out).below ((below_alloc w2 _).mono (Nat.le_of_lt R2.out.lt))
  · exact (B1.out.trans (B2.out.mono B1.out.size)).alloc (by have := B1.out.size; have := B2.out.size; omega) _

theorem left_any (p g lo : Nat) (l : List Int) (s : Nat) (w : World) (h : PicksB w lo p g l s) :
    Calls Try.prog 31 #[.pointer (some ⟨p, 0, none⟩)] w fun e w' => e = .returned (.int .i64 (l.length : Nat)) ∧ w = w' := by
  obtain ⟨A, c, hb, _, _, _⟩ := h.blk
  have c0 : w.cell? ⟨p, 0, none⟩ = _ := cell_blk hb 0
  clear hb h
  go_enter Try.func31, Try.ntmps31
  go_wp2_with fail
  go_ret
  exact ⟨rfl, rfl⟩

/-- What a choice of m is, and what is left. -/
def pickV (l : List Int) (s m : Nat) : Int := match l with
  | [] => ((stepN s % m : Nat) : Int)
  | x :: _ => x % m
def pickS (l : List Int) (s : Nat) : Nat := match l with
  | [] => stepN s
  | _ :: _ => s
def PickDid (w : World) (lo p g : Nat) (v : Int) (l : List Int) (s : Nat) (e : Ending) (w' : World) : Prop := e = .returned (.int .i64 v) ∧ PicksB w' lo p g l s ∧ Frm (Pair p g) w w'
/-- A number of choices: less than one counts as one. -/
def Cho (n : Int) (m : Nat) : Prop := (n < 1 ∧ m = 1) ∨ (1 ≤ n ∧ n = m)
theorem lies_tail {w : World} {B b off : Nat} {x : Int} {t : List Int} (h : Lies w B (some ⟨b, off, none⟩) (u8L (x :: t))) : Lies w B (some ⟨b, off + 1, none⟩) (u8L t) := fun hn => by
  obtain ⟨b', off', e, hb, hc⟩ := h (by simp [u8L])
  injection e with e; injection e with e1 e2; subst e1; subst e2
  refine ⟨_, _, rfl, hb, fun j u hu => ?_⟩
  rw [Nat.add_assoc, Nat.add_comm 1 j]
  exact hc (j + 1) u (by simpa [u8L] using hu)

set_option maxHeartbeats 4000000 in
theorem nextPick_nil (n : Int) (m : Nat) (lo p g s : Nat) (w : World) (h : PicksB w lo p g [] s) (hs : s < 18446744073709551616) (hm : Cho n m) (hm2 : m ≤ 9223372036854775807) :
    Calls Try.prog 29 #[.pointer (some ⟨p, 0, none⟩), .int .i64 n] w (PickDid w lo p g (pickV [] s m) [] (pickS [] s)) := by
  have H := Lib.hid h
  have HL := Lib.hid (left_any p g lo [] s w h)
  have HB := Lib.hid (below16_any g s m w h.rng hs (by omega))
  rw [show belowV s m = ((stepN s % m : Nat) : Int) from by unfold belowV; rw [if_neg (by unfold Cho at hm; omega), Int.toNat_natCast], show belowS s m = stepN s from by unfold belowS; rw [if_neg (by unfold Cho at hm; omega)]] at HB
  obtain ⟨A, c, hb, _, _, _⟩ := h.blk
  have c1 : w.cell? ⟨p, 1, none⟩ = _ := cell_blk hb 1
  have hE := Try.call24
  show Calls _ _ _ _ (PickDid w lo p g ((stepN s % m : Nat) : Int) [] (stepN s))
  obtain ⟨v, hv⟩ : ∃ v, ((stepN s % m : Nat) : Int) = v := ⟨_, rfl⟩
  rw [hv] at HB ⊢
  obtain ⟨t, ht⟩ : ∃ t, stepN s = t := ⟨_, rfl⟩
  rw [ht] at HB ⊢
  clear hb h hv ht hs
  have hlen : ((([] : List Int).length : Nat) : Int) = 0 := rfl
  rw [hlen] at HL
  clear hlen
  rcases hm with ⟨h0, rfl⟩ | ⟨h0, rfl⟩
  · have h1 : ¬ (1 : Int) ≤ n := by omega
    rw [show ((1 : Nat) : Int) = 1 from rfl] at HB
    go_enter Try.func29, Try.ntmps29
    go_wp2_with fail
    refine HL.out.mono ?_
    rintro e w' ⟨rfl, rfl⟩
    go_wp2_with fail
    refine HB.out.mono ?_
    rintro e w' ⟨rfl, hr, hf⟩
    go_wp2_with fail
    go_ret
    exact ⟨rfl, ⟨⟨_, _, (hf.block p H.out.plt (by have := H.out.lt; show ¬ p = g; omega)).trans (H.out.blk.choose_spec.choose_spec.1), by have := H.out.blk.choose_spec.choose_spec.2.1; exact this, Lies.nil, by have := H.out.blk.choose_spec.choose_spec.2.2.2; exact this⟩, hr, H.out.lo, H.out.lt⟩, hf.more fun _ _ e => .inr e⟩
  · have h1 : ¬ (m : Int) < 1 := by omega
    have h2 : 1 ≤ m := by omega
    go_enter Try.func29, Try.ntmps29
    go_wp2_with fail
    refine HL.out.mono ?_
    rintro e w' ⟨rfl, rfl⟩
    go_wp2_with fail
    refine HB.out.mono ?_
    rintro e w' ⟨rfl, hr, hf⟩
    go_wp2_with fail
    go_ret
    exact ⟨rfl, ⟨⟨_, _, (hf.block p H.out.plt (by have := H.out.lt; show ¬ p = g; omega)).trans (H.out.blk.choose_spec.choose_spec.1), by have := H.out.blk.choose_spec.choose_spec.2.1; exact this, Lies.nil, by have := H.out.blk.choose_spec.choose_spec.2.2.2; exact this⟩, hr, H.out.lo, H.out.lt⟩, hf.more fun _ _ e => .inr e⟩

theorem mod_byte {x : Int} {m : Nat} (h : 0 ≤ x) : Int.tmod x (m : Int) = x % m := Int.tmod_eq_emod_of_nonneg h
theorem set_first {w : World} {p : Nat} {u f v : Value} {t : Nat} (h : w.heap[p]? = some (.cells #[u, f] t (0, 0))) : (w.setCell ⟨p, 0, none⟩ v).heap[p]? = some (.cells #[v, f] t (0, 0)) := by
  have := set_blk h 0 v; simpa using this

set_option maxHeartbeats 8000000 in
theorem nextPick_cons (n : Int) (m : Nat) (lo p g s : Nat) (x : Int) (t : List Int) (w : World) (h : PicksB w lo p g (x :: t) s) (hx : 0 ≤ x ∧ x ≤ 255) (hm : Cho n m) (hm2 : m ≤ 9223372036854775807) (ht : t.length ≤ 100000) :
    Calls Try.prog 29 #[.pointer (some ⟨p, 0, none⟩), .int .i64 n] w (PickDid w lo p g (pickV (x :: t) s m) t (pickS (x :: t) s)) := by
  have H := Lib.hid h
  have HL := Lib.hid (left_any p g lo (x :: t) s w h)
  obtain ⟨A, c, hb, hc, hl, hlob⟩ := h.blk
  obtain ⟨b, off, rfl, hbg, cx⟩ := lie_u8 (k := 0) hl (by simp)
  have HLB := Lib.hid (hlob b off rfl)
  clear hlob
  have HT := Lib.hid (lies_tail hl)
  have c0 : w.cell? ⟨p, 0, none⟩ = _ := cell_blk hb 0
  have f0 := frozen_blk hb 0
  show Calls _ _ _ _ (PickDid w lo p g (x % m) t s)
  have hmod := mod_byte (m := m) hx.1
  have hxm : 0 ≤ x % (m : Int) ∧ x % (m : Int) ≤ x := by
    obtain ⟨X, rfl⟩ := Int.eq_ofNat_of_zero_le hx.1
    have := Nat.mod_le X m
    rw [← Int.natCast_emod]; omega
  obtain ⟨v, hv⟩ : ∃ v, x % (m : Int) = v := ⟨_, rfl⟩
  have hn1 : (x :: t).length = t.length + 1 := rfl
  obtain ⟨k, hk⟩ : ∃ k, t.length = k := ⟨_, rfl⟩
  have HK := Lib.hid hk
  have HB := Lib.hid hb
  rw [hv] at hmod hxm ⊢
  have e0 : (((x :: t).length : Nat) : Int) = ((k + 1 : Nat) : Int) := by rw [hn1, hk]
  rw [hn1, hk] at c0 hc HB
  rw [e0] at HL
  rw [show (x :: t)[0]'(by simp) = x from rfl, Nat.add_zero] at cx
  have z1 : (((k + 1 : Nat) : Int) == 0) = false := by simp; omega
  have z2 : ¬ (m : Int) = 0 := by unfold Cho at hm; omega
  have z3 : 0 < k + 1 := by omega
  have HV := Lib.hid hv
  have HF := Lib.hid (Frm.setCell (S := Pair p g) (w := w) (p := ⟨p, 0, none⟩) (.inl rfl))
  rw [hk] at ht
  -- what the rest of the slice is
  have hrest : ∃ A2 : Option Addr, ∃ c2, k ≤ c2 ∧ Lies w g A2 (u8L t) ∧ (∀ b off, A2 = some ⟨b, off, none⟩ → lo ≤ b) ∧ ((c = 1 ∧ A2 = some ⟨b, off, none⟩ ∧ c2 = 0 ∧ k = 0) ∨ (c ≠ 1 ∧ A2 = some ⟨b, off + 1, none⟩ ∧ c2 = c - 1)) := by
    by_cases h1 : c = 1
    · have hk0 : k = 0 := by omega
      have ht0 : t = [] := List.eq_nil_of_length_eq_zero (by rw [HK.out]; exact hk0)
      exact ⟨_, 0, by omega, by rw [ht0]; exact Lies.nil, (fun b' off' e => by injection e with e; injection e with e1 _; subst e1; exact HLB.out), .inl ⟨h1, rfl, rfl, hk0⟩⟩
    · exact ⟨_, c - 1, by omega, HT.out, (fun b' off' e => by injection e with e; injection e with e1 _; subst e1; exact HLB.out), .inr ⟨h1, rfl, rfl⟩⟩
  obtain ⟨A2, c2, hc2, hl2, hlo2, hA⟩ := hrest
  have HL2 := Lib.hid hl2
  have HLO2 := Lib.hid hlo2
  clear hlo2
  clear hb hl hn1 e0 hk hv h hl2 HT hbg
  have fin : ∀ w' : World, w' = w.setCell ⟨p, 0, none⟩ (.slice A2 k c2) → PickDid w lo p g v t s (.returned (.int .i64 v)) w' := fun w' hw' => by
    subst hw'
    have hp := H.out.plt; have hl := H.out.lt
    refine ⟨rfl, ⟨⟨A2, c2, by rw [HK.out]; exact set_first HB.out, by rw [HK.out]; exact hc2, lies_frm HL2.out (HF.out _) (by omega) (fun i hi e => ?_), HLO2.out⟩, H.out.rng.keep (S := One p) (Frm.setCell (S := One p) (p := ⟨p, 0, none⟩) rfl _) (by show ¬ g = p; omega), H.out.lo, hl⟩, HF.out _⟩
    rcases e with e | e
    · have : i = p := e; omega
    · have : i = g := e; omega
  have FIN := Lib.hid fin
  clear fin
  rcases hm with ⟨h0, rfl⟩ | ⟨h0, rfl⟩
  · have h1 : ¬ (1 : Int) ≤ n := by omega
    rw [show ((1 : Nat) : Int) = 1 from rfl] at hmod
    rcases hA with ⟨h3, rfl, rfl, rfl⟩ | ⟨h3, rfl, rfl⟩
    all_goals
      go_enter Try.func29, Try.ntmps29
      go_wp2_with fail
      refine HL.out.mono ?_
      rintro e w' ⟨rfl, rfl⟩
      go_wp2_with fail
      go_ret
      exact FIN.out _ rfl
  · have h1 : ¬ (m : Int) < 1 := by omega
    have h2 : 1 ≤ m := by omega
    rcases hA with ⟨h3, rfl, rfl, rfl⟩ | ⟨h3, rfl, rfl⟩
    all_goals
      go_enter Try.func29, Try.ntmps29
      go_wp2_with fail
      refine HL.out.mono ?_
      rintro e w' ⟨rfl, rfl⟩
      go_wp2_with fail
      go_ret
      exact FIN.out _ rfl

end Go.Proofs.Ytnelaeafjejjgaa
