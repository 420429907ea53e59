/- Lists of int32 in memory; slices.Grow of nil, slices.Concat of two, slices.Clone, slices.Equal; the reference's SameInts. -/
import Derived.Test.YtlmbjnegajiphaaGrid
import Derived.Test.YtlmbjnegajiphaaApd
import Derived.Test.YtlmbjnegajiphaaNums
import Derived.Lib.AppendZeros
import Derived.Maps.AppendAt
import Derived.Deep.QuietTactic
import Derived.BigQuiet
namespace Go.Proofs.Ytlmbjnegajiphaa
set_option maxRecDepth 100000
open Go.RowKit

def i32s (l : List Int) : List Value := l.map (Value.int .i32)
/-- The slice v holds l. -/
def I32V (w : World) (B : Nat) (v : Value) (l : List Int) : Prop := ∃ A c, v = .slice A l.length c ∧ l.length ≤ c ∧ Lies w B A (i32s l)
section
variable {w w' : World} {B B' : Nat} {v : Value} {l : List Int}
theorem I32V.below (h : I32V w B v l) (hb : Below B w w') : I32V w' B v l := by
  obtain ⟨A, c, e, hn, hl⟩ := h; exact ⟨A, c, e, hn, hl.below hb⟩
theorem I32V.more (h : I32V w B v l) (hB : B ≤ B') : I32V w B' v l := by
  obtain ⟨A, c, e, hn, hl⟩ := h; exact ⟨A, c, e, hn, hl.more hB⟩
theorem I32V.later (h : I32V w w.heap.size v l) (hb : Below w.heap.size w w') : I32V w' w'.heap.size v l := (h.below hb).more hb.size
theorem I32V.nil (w : World) (B : Nat) : I32V w B (.slice none 0 0) [] := ⟨none, 0, rfl, Nat.le_refl _, Lies.nil⟩
theorem I32V.fresh (w : World) (l : List Int) : I32V (w.alloc (.cells (i32s l).toArray 21)) (w.alloc (.cells (i32s l).toArray 21)).heap.size (.slice (some ⟨w.heap.size, 0, none⟩) l.length l.length) l :=
  ⟨_, l.length, rfl, Nat.le_refl _, (lies_new w (i32s l) 21).more (by simp)⟩
end
theorem i32s_length (l : List Int) : (i32s l).length = l.length := by simp [i32s]
theorem i32s_append (l m : List Int) : i32s (l ++ m) = i32s l ++ i32s m := by simp [i32s]
theorem lie_i32 {w : World} {B : Nat} {A : Option Addr} {l : List Int} (h : Lies w B A (i32s l)) {k : Nat} (hk : k < l.length) :
    ∃ b off, A = some ⟨b, off, none⟩ ∧ b < B ∧ w.cell? ⟨b, off + k, none⟩ = some (.int .i32 l[k]) := by
  obtain ⟨b, off, e, hb, hc⟩ := h.cell (k := k) (by rw [i32s_length]; exact hk)
  exact ⟨b, off, e, hb, by rw [hc]; simp [i32s]⟩
theorem one_i32 (l : List Int) : ∀ u ∈ i32s l, u.oneCell' = true := by
  intro u hu; obtain ⟨x, _, rfl⟩ := List.mem_map.1 hu; rfl
theorem inf_i32 : (Try.prog.info? 21).map (fun i => (i.zero, i.size, i.bytes)) = some (some (.int .i32 0), 1, 4) := by kernel_rfl
/-- A slice of the call's own holds l. -/
def Own32 (w : World) (base : Nat) (v : Value) (l : List Int) : Prop := w.ownsRow base 21 1 v l.length (i32s l)
theorem Own32.v {w : World} {base : Nat} {v : Value} {l : List Int} (h : Own32 w base v l) : I32V w w.heap.size v l := by
  obtain ⟨A, c, e, hn, _, _, hl, _⟩ := Lies.of_own h
  exact ⟨A, c, e, hn, hl⟩

theorem zero_size (n : Nat) : (Builtin.zeroCells #[Value.int IntKind.i32 0] n).size = n := by simp [Builtin.zeroCells]

set_option maxRecDepth 100000 in
set_option maxHeartbeats 4000000 in
theorem grow_any (n : Nat) (w : World) (hn : n ≤ 1000000) : Calls Try.prog 106 #[.slice none 0 0, .int .i64 n] w fun e w' => (∃ v, e = .returned v ∧ Own32 w' w.heap.size v []) ∧ Below w.heap.size w w' := by
  rcases Nat.eq_zero_or_pos n with rfl | h0
  · go_enter Try.func106, Try.ntmps106
    go_wp2_with fail
    go_ret
    exact ⟨⟨_, rfl, World.ownsRow_nil w w.heap.size _ 1⟩, Below.refl _ _⟩
  · obtain ⟨i0, hi, hz, hsz, hby⟩ := info_parts inf_i32
    have hr := fun ty => Lib.run_append_nil_zeros (P := Try.prog) w 47 3 ty 21 i0 (.int .i32 0) .i64 .i64 Try.underlying47 Try.underlying3 hi hz n h0 (by rw [hsz]; decide) (by omega) (by rw [hby]; omega)
    obtain ⟨G, hG⟩ : ∃ G, grownCap w n 0 21 = G := ⟨_, rfl⟩
    rw [hG] at hr
    have hge : n ≤ G := by rw [← hG]; exact grownCap_ge w n 0 _
    have hle : G ≤ maxLen := by rw [← hG]; exact grownCap_le_maxLen w n 0 _ (by unfold maxLen; omega)
    have HR := Lib.hid hr; have HGE := Lib.hid hge; have HLE := Lib.hid hle
    clear hr hi hz hsz hby hG hge hle
    go_enter Try.func106, Try.ntmps106
    go_wp2_with (at_builtin; go_must (refine Lib.wpList_append_run _ rfl (.tmp 20) (.tmp 21) 47 3 rfl _ _ rfl rfl _ _ (HR.out _) ?_))
    have hg2 : (0 : Nat) ≤ G := Nat.zero_le _
    go_ret
    refine ⟨⟨_, rfl, ?_⟩, ?_⟩
    · refine ⟨rfl, .inr ⟨_, G, _, rfl, Nat.le_refl _, heap_alloc_new w _, Nat.zero_le _, HLE.out, ?_, ?_⟩⟩
      · rw [Array.size_append, zero_size, zero_size]; have := HGE.out; omega
      · simp [i32s]
    · exact (below_alloc _ _).drew

theorem I32V.lies {w : World} {B : Nat} {A : Option Addr} {n c : Nat} {l : List Int} (h : I32V w B (.slice A n c) l) : n = l.length ∧ Lies w B A (i32s l) := by
  obtain ⟨A', c', e, _, hl⟩ := h
  injection e with e1 e2 e3
  subst e1
  exact ⟨e2, hl⟩

set_option maxRecDepth 100000 in
set_option maxHeartbeats 8000000 in
/-- slices.Concat of two. -/
theorem concat_any (b : Nat) (s1 s2 : Value) (l1 l2 : List Int) (w : World) (hb : b < w.heap.size) (c0 : w.cell? ⟨b, 0, none⟩ = some s1) (c1 : w.cell? ⟨b, 1, none⟩ = some s2)
    (h1 : I32V w w.heap.size s1 l1) (h2 : I32V w w.heap.size s2 l2) (hn1 : l1.length ≤ 100000) (hn2 : l2.length ≤ 100000) :
    Calls Try.prog 71 #[.slice (some ⟨b, 0, none⟩) 2 2] w fun e w' => (∃ v, e = .returned v ∧ Own32 w' w.heap.size v (l1 ++ l2)) ∧ Below w.heap.size w w' := by
  have H1 := Lib.hid h1; have H2 := Lib.hid h2
  obtain ⟨A1, k1, rfl, _⟩ := h1
  obtain ⟨A2, k2, rfl, _⟩ := h2
  obtain ⟨n1, e1⟩ : ∃ n, l1.length = n := ⟨_, rfl⟩
  obtain ⟨n2, e2⟩ : ∃ n, l2.length = n := ⟨_, rfl⟩
  have E1 := Lib.hid e1; have E2 := Lib.hid e2
  rw [e1] at c0 H1 hn1; rw [e2] at c1 H2 hn2
  obtain ⟨n, hn⟩ : ∃ n : Nat, n = n1 + n2 := ⟨_, rfl⟩
  have w1 : wrap64 ((n1 : Int) + n2) = (n : Int) := by unfold wrap64; omega
  have hn' : n ≤ 200000 := by omega
  have HB := Lib.hid hb; have HN := Lib.hid hn; have C0 := Lib.hid c0; have C1 := Lib.hid c1
  clear e1 e2 hb hn
  have z1 : ¬ ((n1 : Int) < 0) := by omega
  have z2 : ¬ ((n : Int) < 0) := by omega
  go_enter Try.func71, Try.ntmps71
  go_wp2_with fail
  go_loopw [3, 11] (fun sz i wr => ((i = .int .i64 0 ∧ sz = .int .i64 0) ∨ (i = .int .i64 1 ∧ sz = .int .i64 n1) ∨ (i = .int .i64 2 ∧ sz = .int .i64 n)) ∧ wr = w) (fun _ i _ => 2 - (intOf i).toNat)
  case atStart => exact ⟨.inl ⟨rfl, rfl⟩, rfl⟩
  case round =>
    obtain ⟨hc, hwr⟩ := hrel
    obtain rfl : w = wr := hwr.symm
    rcases hc with ⟨rfl, rfl⟩ | ⟨rfl, rfl⟩ | ⟨rfl, rfl⟩
    · go_wp2_with fail
      go_roundw
      case rel => exact ⟨.inr (.inl ⟨rfl, rfl⟩), trivial⟩
      case measure => simp [intOf]
    · go_wp2_with fail
      go_roundw
      case rel => exact ⟨.inr (.inr ⟨rfl, by rw [show (n1 : Int) + n2 = n by have := HN.out; omega]⟩), trivial⟩
      case measure => simp [intOf]
    · go_wp2_with fail
      refine (grow_any n w (by omega)).mono ?_
      rintro e wg ⟨⟨v0, rfl, ho⟩, hb⟩
      have HO := Lib.hid ho; have HBG := Lib.hid hb
      clear ho hb c0 c1
      go_wp2_with fail
      go_loopw [6, 27] (fun v i w3 => ((i = .int .i64 0 ∧ Own32 w3 w.heap.size v []) ∨ (i = .int .i64 1 ∧ Own32 w3 w.heap.size v l1) ∨ (i = .int .i64 2 ∧ Own32 w3 w.heap.size v (l1 ++ l2))) ∧ Below w.heap.size w w3) (fun _ i _ => 2 - (intOf i).toNat)
      case atStart => exact ⟨.inl ⟨rfl, HO.out⟩, HBG.out⟩
      case round =>
        clear HO HBG
        obtain ⟨hc, hb⟩ := hrel
        rcases hc with ⟨rfl, ho⟩ | ⟨rfl, ho⟩ | ⟨rfl, ho⟩
        · have d0 := (hb.cell (p := ⟨b, 0, none⟩) HB.out).trans C0.out
          have HL := Lib.hid (H1.out.below hb).lies.2
          have HO := Lib.hid ho; have HBW := Lib.hid hb
          clear ho hb
          go_wp2_with (at_builtin; go_must (refine wpList_append_L 47 21 _ 4 Try.underlying47 inf_i32 rfl rfl (.tmp 31) (.tmp 32) rfl w.heap.size _ _ _ rfl HO.out w.heap.size A1 n1 k1 (i32s l1) rfl (by rw [i32s_length]; exact E1.out) HL.out (one_i32 l1) ?c3 ?c4 ?c5 ?_))
          case c3 => show 0 + n1 ≤ _; omega
          case c4 => omega
          case c5 => exact HBW.out.size
          intro v3 w3 ho3 _ hb3
          have HO3 : Hid (Own32 w3 w.heap.size v3 l1) := Lib.hid (by unfold Own32; rw [E1.out]; simpa [i32s] using ho3)
          have HB3 := Lib.hid (HBW.out.trans hb3)
          clear ho3 hb3 HO HBW
          go_wp2_with fail
          go_roundw
          case rel => exact ⟨.inr (.inl ⟨rfl, HO3.out⟩), HB3.out⟩
          case measure => simp [intOf]
        · have d0 := (hb.cell (p := ⟨b, 1, none⟩) HB.out).trans C1.out
          have HL := Lib.hid (H2.out.below hb).lies.2
          have HO := Lib.hid ho; have HBW := Lib.hid hb
          clear ho hb
          go_wp2_with (at_builtin; go_must (refine wpList_append_L 47 21 _ 4 Try.underlying47 inf_i32 rfl rfl (.tmp 31) (.tmp 32) rfl w.heap.size _ _ _ rfl HO.out w.heap.size A2 n2 k2 (i32s l2) rfl (by rw [i32s_length]; exact E2.out) HL.out (one_i32 l2) ?c3 ?c4 ?c5 ?_))
          case c3 => have := E1.out; omega
          case c4 => omega
          case c5 => exact HBW.out.size
          intro v3 w3 ho3 _ hb3
          have HO3 : Hid (Own32 w3 w.heap.size v3 (l1 ++ l2)) := Lib.hid (by unfold Own32; rw [List.length_append, E2.out, i32s_append]; exact ho3)
          have HB3 := Lib.hid (HBW.out.trans hb3)
          clear ho3 hb3 HO HBW
          go_wp2_with fail
          go_roundw
          case rel => exact ⟨.inr (.inr ⟨rfl, HO3.out⟩), HB3.out⟩
          case measure => simp [intOf]
        · have HO := Lib.hid ho; have HBW := Lib.hid hb
          clear ho hb
          go_wp2_with fail
          go_ret
          exact ⟨⟨_, rfl, HO.out⟩, HBW.out⟩

@[go_sem] theorem eql_nil_no (n c : Nat) (w : World) : Sem.run Try.prog (binOp .eql 47 (.slice none n c) (.slice none 0 0)) w = .ok (.bool true) w := by kernel_rfl
@[go_sem] theorem eql_nil_yes (a : Addr) (n c : Nat) (w : World) : Sem.run Try.prog (binOp .eql 47 (.slice (some a) n c) (.slice none 0 0)) w = .ok (.bool false) w := by kernel_rfl

set_option maxRecDepth 100000 in
set_option maxHeartbeats 8000000 in
theorem clone_any (s : Value) (l : List Int) (w : World) (h : I32V w w.heap.size s l) (hn : l.length ≤ 100000) :
    Calls Try.prog 103 #[s] w fun e w' => (∃ v, e = .returned v ∧ Own32 w' w.heap.size v l) ∧ Below w.heap.size w w' := by
  have H := Lib.hid h
  obtain ⟨A, c, rfl, _, hl⟩ := h
  obtain ⟨n, e1⟩ : ∃ n, l.length = n := ⟨_, rfl⟩
  have E1 := Lib.hid e1
  rw [e1] at H hn ⊢
  have HL := Lib.hid hl
  cases A with
  | none =>
    have h0 : l = [] := by
      rcases Nat.eq_zero_or_pos l.length with h0 | h0
      · exact List.eq_nil_of_length_eq_zero h0
      · obtain ⟨b, off, e, _⟩ := HL.out (by rw [i32s_length]; exact h0)
        cases e
    clear e1 hl
    go_enter Try.func103, Try.ntmps103
    go_wp2_with fail
    go_ret
    refine ⟨⟨_, rfl, ?_⟩, Below.refl _ _⟩
    rw [h0]; exact World.ownsRow_nil w w.heap.size _ 1
  | some a =>
    clear e1 hl
    have hw2 : Hid (Own32 (w.alloc (.cells #[] 21)) w.heap.size (.slice (some ⟨w.heap.size, 0, none⟩) 0 0) []) :=
      Lib.hid ⟨rfl, .inr ⟨_, 0, #[], rfl, Nat.le_refl _, heap_alloc_new w _, Nat.le_refl _, Nat.zero_le _, rfl, rfl⟩⟩
    have B2 := Lib.hid (below_alloc w (.cells #[] 21))
    go_enter Try.func103, Try.ntmps103
    go_wp2_with (at_builtin; go_must (refine wpList_append_L 47 21 _ 4 Try.underlying47 inf_i32 rfl rfl (.tmp 5) (.tmp 6) rfl w.heap.size _ _ _ rfl hw2.out w.heap.size (some a) n c (i32s l) rfl (by rw [i32s_length]; exact E1.out) (HL.out.below B2.out) (one_i32 l) ?c3 ?c4 ?c5 ?_))
    case c3 => show 0 + n ≤ _; omega
    case c4 => omega
    case c5 => exact B2.out.size
    intro v3 w3 ho3 _ hb3
    have HO3 : Hid (Own32 w3 w.heap.size v3 l) := Lib.hid (by unfold Own32; rw [E1.out]; simpa [i32s] using ho3)
    have HB3 := Lib.hid (B2.out.trans hb3)
    clear ho3 hb3
    go_wp2_with fail
    go_ret
    exact ⟨⟨_, rfl, HO3.out⟩, HB3.out⟩

set_option maxHeartbeats 1000000 in
theorem equal_any {B B2 : Nat} {u v : Value} {a b : List Int} (w : World) (ha : I32V w B u a) (hb : I32V w B2 v b) (hm : a.length ≤ 1000) :
    Calls Try.prog 72 #[u, v] w fun e w' => e = .returned (.bool (intsB a b)) ∧ Below w.heap.size w w' := by
  obtain ⟨A1, c1, rfl, _, h1⟩ := ha
  obtain ⟨A2, c2, rfl, _, h2⟩ := hb
  have H1 := Lib.hid h1; clear h1
  have H2 := Lib.hid h2; clear h2
  generalize hres : intsB a b = res
  have HR := Lib.hid hres; clear hres
  by_cases hlen : a.length = b.length
  · rw [← hlen]
    have HE := Lib.hid hlen; clear hlen
    generalize hml : a.length = m at *
    have HM := Lib.hid hml; clear hml
    go_enter Try.func72, Try.ntmps72
    go_wp2_with fail
    go_loopw [13] (fun i wr => ∃ k : Nat, k ≤ m ∧ i = .int .i64 k ∧ (∀ j (ha : j < a.length) (hb : j < b.length), j < k → a[j] = b[j]) ∧ Below w.heap.size w wr ∧ ∀ q, wr.cell? q = w.cell? q) (fun i _ => m - (intOf i).toNat)
    case atStart => exact ⟨0, by omega, rfl, fun j _ _ h => by omega, Below.refl _ _, fun _ => rfl⟩
    case round =>
      obtain ⟨k, hk, rfl, hp, hb, hce⟩ := hrel
      have HP := Lib.hid hp; clear hp
      have HB := Lib.hid hb; clear hb
      have HC := Lib.hid hce; clear hce
      by_cases hlt : k < m
      · have hka : k < a.length := by rw [HM.out]; exact hlt
        have hkb : k < b.length := by rw [← HE.out]; exact hlt
        obtain ⟨b1, o1, rfl, _, d1⟩ := lie_i32 H1.out hka
        obtain ⟨b2, o2, rfl, _, d2⟩ := lie_i32 H2.out hkb
        rw [← HC.out] at d1 d2
        have HN := Lib.hid (fun h : a[k] ≠ b[k] => ints_no hka hkb h)
        have HY : Hid (a[k] = b[k] → ∀ j (ha : j < a.length) (hb : j < b.length), j < k + 1 → a[j] = b[j]) := fun e j hja hjb hj => by
          rcases Nat.lt_or_ge j k with h | h
          · exact HP.out j hja hjb h
          · obtain rfl : j = k := by omega
            exact e
        generalize a[k] = x at *
        generalize b[k] = y at *
        have i1 : (0 : Int) ≤ (k : Int) ∧ (k : Int) < m := by omega
        go_wp2_with fail
        go_quiet (fail)
        by_cases hxy : x = y
        · have HYY := Lib.hid (HY.out hxy)
          have e1 : (x == y) = true := by simpa using hxy
          have e2 : (x != y) = false := by simpa using hxy
          clear hxy
          go_wp2_with fail
          go_roundw
          case rel => exact ⟨k + 1, by omega, by go_num, HYY.out, below_drewN HB.out _, fun q => HC.out q⟩
          case measure => simp [intOf]; omega
        · obtain rfl : res = false := by rw [← HR.out]; exact HN.out hxy
          have e1 : (x == y) = false := by simpa using hxy
          have e2 : (x != y) = true := by simpa using hxy
          clear hxy
          go_wp2_with fail
          go_ret
          exact ⟨rfl, below_drewN HB.out _⟩
      · obtain rfl : k = m := by omega
        obtain rfl : res = true := by rw [← HR.out]; exact ints_yes (by rw [HM.out, HE.out]) (fun j h1 h2 => HP.out j h1 h2 (by have := HM.out; omega))
        go_wp2_with fail
        go_ret
        exact ⟨rfl, HB.out⟩
  · obtain rfl : res = false := by rw [← HR.out]; exact ints_len hlen
    generalize a.length = m at *
    generalize b.length = n at *
    have e1 : ((m : Int) == (n : Int)) = false := by simp; omega
    have e2 : ((m : Int) != (n : Int)) = true := by simp; omega
    go_enter Try.func72, Try.ntmps72
    go_wp2_with fail
    go_ret
    exact ⟨rfl, Below.refl _ _⟩

set_option maxHeartbeats 1000000 in
theorem sameInts_any {B B2 : Nat} {u v : Value} {a b : List Int} (w : World) (ha : I32V w B u a) (hb : I32V w B2 v b) (hm : a.length ≤ 1000) :
    Calls Try.prog 70 #[u, v] w fun e w' => e = .returned (.bool (intsB a b)) ∧ Below w.heap.size w w' := by
  obtain ⟨A1, c1, rfl, _, h1⟩ := ha
  obtain ⟨A2, c2, rfl, _, h2⟩ := hb
  have H1 := Lib.hid h1; clear h1
  have H2 := Lib.hid h2; clear h2
  generalize hres : intsB a b = res
  have HR := Lib.hid hres; clear hres
  by_cases hlen : a.length = b.length
  · rw [← hlen]
    have HE := Lib.hid hlen; clear hlen
    generalize hml : a.length = m at *
    have HM := Lib.hid hml; clear hml
    go_enter Try.func70, Try.ntmps70
    go_wp2_with fail
    go_loopw [5] (fun i wr => ∃ k : Nat, k ≤ m ∧ i = .int .i64 k ∧ (∀ j (ha : j < a.length) (hb : j < b.length), j < k → a[j] = b[j]) ∧ Below w.heap.size w wr ∧ ∀ q, wr.cell? q = w.cell? q) (fun i _ => m - (intOf i).toNat)
    case atStart => exact ⟨0, by omega, rfl, fun j _ _ h => by omega, Below.refl _ _, fun _ => rfl⟩
    case round =>
      obtain ⟨k, hk, rfl, hp, hb, hce⟩ := hrel
      have HP := Lib.hid hp; clear hp
      have HB := Lib.hid hb; clear hb
      have HC := Lib.hid hce; clear hce
      by_cases hlt : k < m
      · have hka : k < a.length := by rw [HM.out]; exact hlt
        have hkb : k < b.length := by rw [← HE.out]; exact hlt
        obtain ⟨b1, o1, rfl, _, d1⟩ := lie_i32 H1.out hka
        obtain ⟨b2, o2, rfl, _, d2⟩ := lie_i32 H2.out hkb
        rw [← HC.out] at d1 d2
        have HN := Lib.hid (fun h : a[k] ≠ b[k] => ints_no hka hkb h)
        have HY : Hid (a[k] = b[k] → ∀ j (ha : j < a.length) (hb : j < b.length), j < k + 1 → a[j] = b[j]) := fun e j hja hjb hj => by
          rcases Nat.lt_or_ge j k with h | h
          · exact HP.out j hja hjb h
          · obtain rfl : j = k := by omega
            exact e
        generalize a[k] = x at *
        generalize b[k] = y at *
        have i1 : (0 : Int) ≤ (k : Int) ∧ (k : Int) < m := by omega
        go_wp2_with fail
        go_quiet (fail)
        by_cases hxy : x = y
        · have HYY := Lib.hid (HY.out hxy)
          have e1 : (x == y) = true := by simpa using hxy
          have e2 : (x != y) = false := by simpa using hxy
          clear hxy
          go_wp2_with fail
          go_roundw
          case rel => exact ⟨k + 1, by omega, by go_num, HYY.out, below_drewN HB.out _, fun q => HC.out q⟩
          case measure => simp [intOf]; omega
        · obtain rfl : res = false := by rw [← HR.out]; exact HN.out hxy
          have e1 : (x == y) = false := by simpa using hxy
          have e2 : (x != y) = true := by simpa using hxy
          clear hxy
          go_wp2_with fail
          go_ret
          exact ⟨rfl, below_drewN HB.out _⟩
      · obtain rfl : k = m := by omega
        obtain rfl : res = true := by rw [← HR.out]; exact ints_yes (by rw [HM.out, HE.out]) (fun j h1 h2 => HP.out j h1 h2 (by have := HM.out; omega))
        go_wp2_with fail
        go_ret
        exact ⟨rfl, HB.out⟩
  · obtain rfl : res = false := by rw [← HR.out]; exact ints_len hlen
    generalize a.length = m at *
    generalize b.length = n at *
    have e1 : ((m : Int) == (n : Int)) = false := by simp; omega
    have e2 : ((m : Int) != (n : Int)) = true := by simp; omega
    go_enter Try.func70, Try.ntmps70
    go_wp2_with fail
    go_ret
    exact ⟨rfl, Below.refl _ _⟩

end Go.Proofs.Ytlmbjnegajiphaa
