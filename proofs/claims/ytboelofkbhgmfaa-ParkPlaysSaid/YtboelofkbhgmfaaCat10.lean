/- Lists of int32 in memory; slices.Grow of nil, slices.Concat of two, slices.Clone, slices.Equal; the reference's SameInts. -/
import Derived.Test.YtboelofkbhgmfaaGrid
import Derived.Test.YtboelofkbhgmfaaApd
import Derived.Test.YtboelofkbhgmfaaNums
import Derived.Lib.AppendZeros
import Derived.Maps.AppendAt
import Derived.Deep.QuietTactic
import Derived.BigQuiet
namespace Go.Proofs.Ytboelofkbhgmfaa
set_option maxRecDepth 100000
open Go.RowKit

def i32s (l : List Int) : List Value := l.map (Value.int .i32)
/-- The slice v holds l. -/
def I32V (w : World) (B : Nat) (v : Value) (l : List Int) : Prop := ∃ A c, v = .slice A l.length c ∧ l.length ≤ c ∧ Lies w B A (i32s l)
section
variable {w w' : World} {B B' : Nat} {v : Value} {l : List Int}
theorem I32V.below (h : I32V w B v l) (hb : Below B w w') : I32V w' B v l := by
  obtain ⟨A, c, e, hn, hl⟩ := h; exact ⟨A, c, e, hn, hl.below hb⟩
theorem I32V.more (h : I32V w B v l) (hB : B ≤ B') : I32V w B' v l := by
  obtain ⟨A, c, e, hn, hl⟩ := h; exact ⟨A, c, e, hn, hl.more hB⟩
theorem I32V.later (h : I32V w w.heap.size v l) (hb : Below w.heap.size w w') : I32V w' w'.heap.size v l := (h.below hb).more hb.size
theorem I32V.nil (w : World) (B : Nat) : I32V w B (.slice none 0 0) [] := ⟨none, 0, rfl, Nat.le_refl _, Lies.nil⟩
theorem I32V.fresh (w : World) (l : List Int) : I32V (w.alloc (.cells (i32s l).toArray 21)) (w.alloc (.cells (i32s l).toArray 21)).heap.size (.slice (some ⟨w.heap.size, 0, none⟩) l.length l.length) l :=
  ⟨_, l.length, rfl, Nat.le_refl _, (lies_new w (i32s l) 21).more (by simp)⟩
end
theorem i32s_length (l : List Int) : (i32s l).length = l.length := by simp [i32s]
theorem i32s_append (l m : List Int) : i32s (l ++ m) = i32s l ++ i32s m := by simp [i32s]
theorem lie_i32 {w : World} {B : Nat} {A : Option Addr} {l : List Int} (h : Lies w B A (i32s l)) {k : Nat} (hk : k < l.length) :
    ∃ b off, A = some ⟨b, off, none⟩ ∧ b < B ∧ w.cell? ⟨b, off + k, none⟩ = some (.int .i32 l[k]) := by
  obtain ⟨b, off, e, hb, hc⟩ := h.cell (k := k) (by rw [i32s_length]; exact hk)
  exact ⟨b, off, e, hb, by rw [hc]; simp [i32s]⟩
theorem one_i32 (l : List Int) : ∀ u ∈ i32s l, u.oneCell' = true := by
  intro u hu; obtain ⟨x, _, rfl⟩ := List.mem_map.1 hu; rfl
theorem inf_i32 : (Try.prog.info? 21).map (fun i => (i.zero, i.size, i.bytes)) = some (some (.int .i32 0), 1, 4) := by kernel_rfl
/-- A slice of the call's own holds l. -/
def Own32 (w : World) (base : Nat) (v : Value) (l : List Int) : Prop := w.ownsRow base 21 1 v l.length (i32s l)
theorem Own32.v {w : World} {base : Nat} {v : Value} {l : List Int} (h : Own32 w base v l) : I32V w w.heap.size v l := by
  obtain ⟨A, c, e, hn, _, _, hl, _⟩ := Lies.of_own h
  exact ⟨A, c, e, hn, hl⟩

theorem zero_size (n : Nat) : (Builtin.zeroCells #[Value.int IntKind.i32 0] n).size = n := by simp [Builtin.zeroCells]


theorem I32V.lies {w : World} {B : Nat} {A : Option Addr} {n c : Nat} {l : List Int} (h : I32V w B (.slice A n c) l) : n = l.length ∧ Lies w B A (i32s l) := by
  obtain ⟨A', c', e, _, hl⟩ := h
  injection e with e1 e2 e3
  subst e1
  exact ⟨e2, hl⟩


@[go_sem] theorem eql_nil_no (n c : Nat) (w : World) : Sem.run Try.prog (binOp .eql 47 (.slice none n c) (.slice none 0 0)) w = .ok (.bool true) w := by kernel_rfl
@[go_sem] theorem eql_nil_yes (a : Addr) (n c : Nat) (w : World) : Sem.run Try.prog (binOp .eql 47 (.slice (some a) n c) (.slice none 0 0)) w = .ok (.bool false) w := by kernel_rfl

set_option maxRecDepth 100000 in
set_option maxHeartbeats 8000000 in
theorem clone_any (s : Value) (l : List Int) (w : World) (h : I32V w w.heap.size s l) (hn : l.length ≤ 100000) :
    Calls Try.prog 84 #[s] w fun e w' => (∃ v, e = .returned v ∧ Own32 w' w.heap.size v l) ∧ Below w.heap.size w w' := by
  have H := Lib.hid h
  obtain ⟨A, c, rfl, _, hl⟩ := h
  obtain ⟨n, e1⟩ : ∃ n, l.length = n := ⟨_, rfl⟩
  have E1 := Lib.hid e1
  rw [e1] at H hn ⊢
  have HL := Lib.hid hl
  cases A with
  | none =>
    have h0 : l = [] := by
      rcases Nat.eq_zero_or_pos l.length with h0 | h0
      · exact List.eq_nil_of_length_eq_zero h0
      · obtain ⟨b, off, e, _⟩ := HL.out (by rw [i32s_length]; exact h0)
        cases e
    clear e1 hl
    go_enter Try.func84, Try.ntmps84
    go_wp2_with fail
    go_ret
    refine ⟨⟨_, rfl, ?_⟩, Below.refl _ _⟩
    rw [h0]; exact World.ownsRow_nil w w.heap.size _ 1
  | some a =>
    clear e1 hl
    have hw2 : Hid (Own32 (w.alloc (.cells #[] 21)) w.heap.size (.slice (some ⟨w.heap.size, 0, none⟩) 0 0) []) :=
      Lib.hid ⟨rfl, .inr ⟨_, 0, #[], rfl, Nat.le_refl _, heap_alloc_new w _, Nat.le_refl _, Nat.zero_le _, rfl, rfl⟩⟩
    have B2 := Lib.hid (below_alloc w (.cells #[] 21))
    go_enter Try.func84, Try.ntmps84
    go_wp2_with (at_builtin; go_must (refine wpList_append_L 47 21 _ 4 Try.underlying47 inf_i32 rfl rfl (.tmp 5) (.tmp 6) rfl w.heap.size _ _ _ rfl hw2.out w.heap.size (some a) n c (i32s l) rfl (by rw [i32s_length]; exact E1.out) (HL.out.below B2.out) (one_i32 l) ?c3 ?c4 ?c5 ?_))
    case c3 => show 0 + n ≤ _; omega
    case c4 => omega
    case c5 => exact B2.out.size
    intro v3 w3 ho3 _ hb3
    have HO3 : Hid (Own32 w3 w.heap.size v3 l) := Lib.hid (by unfold Own32; rw [E1.out]; simpa [i32s] using ho3)
    have HB3 := Lib.hid (B2.out.trans hb3)
    clear ho3 hb3
    go_wp2_with fail
    go_ret
    exact ⟨⟨_, rfl, HO3.out⟩, HB3.out⟩


set_option maxHeartbeats 1000000 in
theorem sameInts_any {B B2 : Nat} {u v : Value} {a b : List Int} (w : World) (ha : I32V w B u a) (hb : I32V w B2 v b) (hm : a.length ≤ 1000) :
    Calls Try.prog 73 #[u, v] w fun e w' => e = .returned (.bool (intsB a b)) ∧ Below w.heap.size w w' := by
  obtain ⟨A1, c1, rfl, _, h1⟩ := ha
  obtain ⟨A2, c2, rfl, _, h2⟩ := hb
  have H1 := Lib.hid h1; clear h1
  have H2 := Lib.hid h2; clear h2
  generalize hres : intsB a b = res
  have HR := Lib.hid hres; clear hres
  by_cases hlen : a.length = b.length
  · rw [← hlen]
    have HE := Lib.hid hlen; clear hlen
    generalize hml : a.length = m at *
    have HM := Lib.hid hml; clear hml
    go_enter Try.func73, Try.ntmps73
    go_wp2_with fail
    go_loopw [5] (fun i wr => ∃ k : Nat, k ≤ m ∧ i = .int .i64 k ∧ (∀ j (ha : j < a.length) (hb : j < b.length), j < k → a[j] = b[j]) ∧ Below w.heap.size w wr ∧ ∀ q, wr.cell? q = w.cell? q) (fun i _ => m - (intOf i).toNat)
    case atStart => exact ⟨0, by omega, rfl, fun j _ _ h => by omega, Below.refl _ _, fun _ => rfl⟩
    case round =>
      obtain ⟨k, hk, rfl, hp, hb, hce⟩ := hrel
      have HP := Lib.hid hp; clear hp
      have HB := Lib.hid hb; clear hb
      have HC := Lib.hid hce; clear hce
      by_cases hlt : k < m
      · have hka : k < a.length := by rw [HM.out]; exact hlt
        have hkb : k < b.length := by rw [← HE.out]; exact hlt
        obtain ⟨b1, o1, rfl, _, d1⟩ := lie_i32 H1.out hka
        obtain ⟨b2, o2, rfl, _, d2⟩ := lie_i32 H2.out hkb
        rw [← HC.out] at d1 d2
        have HN := Lib.hid (fun h : a[k] ≠ b[k] => ints_no hka hkb h)
        have HY : Hid (a[k] = b[k] → ∀ j (ha : j < a.length) (hb : j < b.length), j < k + 1 → a[j] = b[j]) := fun e j hja hjb hj => by
          rcases Nat.lt_or_ge j k with h | h
          · exact HP.out j hja hjb h
          · obtain rfl : j = k := by omega
            exact e
        generalize a[k] = x at *
        generalize b[k] = y at *
        have i1 : (0 : Int) ≤ (k : Int) ∧ (k : Int) < m := by omega
        go_wp2_with fail
        go_quiet (fail)
        by_cases hxy : x = y
        · have HYY := Lib.hid (HY.out hxy)
          have e1 : (x == y) = true := by simpa using hxy
          have e2 : (x != y) = false := by simpa using hxy
          clear hxy
          go_wp2_with fail
          go_roundw
          case rel => exact ⟨k + 1, by omega, by go_num, HYY.out, below_drewN HB.out _, fun q => HC.out q⟩
          case measure => simp [intOf]; omega
        · obtain rfl : res = false := by rw [← HR.out]; exact HN.out hxy
          have e1 : (x == y) = false := by simpa using hxy
          have e2 : (x != y) = true := by simpa using hxy
          clear hxy
          go_wp2_with fail
          go_ret
          exact ⟨rfl, below_drewN HB.out _⟩
      · obtain rfl : k = m := by omega
        obtain rfl : res = true := by rw [← HR.out]; exact ints_yes (by rw [HM.out, HE.out]) (fun j h1 h2 => HP.out j h1 h2 (by have := HM.out; omega))
        go_wp2_with fail
        go_ret
        exact ⟨rfl, HB.out⟩
  · obtain rfl : res = false := by rw [← HR.out]; exact ints_len hlen
    generalize a.length = m at *
    generalize b.length = n at *
    have e1 : ((m : Int) == (n : Int)) = false := by simp; omega
    have e2 : ((m : Int) != (n : Int)) = true := by simp; omega
    go_enter Try.func73, Try.ntmps73
    go_wp2_with fail
    go_ret
    exact ⟨rfl, Below.refl _ _⟩

end Go.Proofs.Ytboelofkbhgmfaa
