/- The walks of bytes.Clone, pack.New, Left, Err and fail. -/
import Derived.Test.YtmcphlklknfbmaaMem
import Derived.WalkSpells
namespace Go.Proofs.Ytmcphlklknfbmaa
set_option maxRecDepth 100000
open Go.RowKit


theorem add_zero_addr (b o : Nat) (j : Nat) : (⟨b, o, none⟩ : Addr).add j = ⟨b, o + j, none⟩ := by unfold Addr.add; split <;> simp_all

theorem u8s_one (l : List Int) : ∀ u ∈ u8s l, u.oneCell' = true := by
  intro u hu
  obtain ⟨x, _, rfl⟩ := List.mem_map.1 hu
  rfl

set_option maxRecDepth 100000 in
set_option maxHeartbeats 1000000 in
/-- The copy is in memory of the call's own. -/
theorem clone_any (B : Nat) (A : Option Addr) (c : Nat) (l : List Int) (w : World) (hm : l.length ≤ 140737488355328) (hB : B ≤ w.heap.size) (hl : Lies w B A (u8s l)) :
    Calls Try.prog 92 #[.slice A l.length c] w fun e w' =>
      ∃ v, e = .returned v ∧ w'.ownsRow w.heap.size 5 1 v l.length (u8s l) ∧ Below w.heap.size w w' := by
  have q22 : ∀ (w : World) (a : Option Addr) (n c n' c' : Nat), (binOp .eql 54 (.slice a n c) (.slice none n' c')).run Try.prog w = .ok (.bool a.isNone) w := fun w a n c n' c' => Lib.run_eql_slice_nil w _ _ a n c n' c' Try.underlying54
  obtain ⟨i0, hi, hz0, hz1, hz2⟩ := info_parts info_byte
  cases A with
  | none =>
    have hl0 : l = [] := by
      rcases Nat.eq_zero_or_pos l.length with h | h
      · exact List.eq_nil_of_length_eq_zero h
      · obtain ⟨b, off, e, _⟩ := hl (by simpa [u8s] using h)
        cases e
    subst hl0
    go_enter Try.func92, Try.ntmps92
    go_wp2
    go_ret
    exact ⟨_, rfl, World.ownsRow_nil _ _ _ _, Below.refl _ _⟩
  | some a =>
    have hcell : ∀ j u, (u8s l)[j]? = some u → (w.alloc (.cells #[] 5)).cell? (a.add j) = some u := by
      intro j u hu
      have hn : 0 < (u8s l).length := by
        have := (List.getElem?_eq_some_iff.1 hu).1; omega
      obtain ⟨b, off, e, hb, hc⟩ := hl hn
      injection e with e; subst e
      rw [add_zero_addr, World.cell?_alloc_past _ _ _ (by show b < w.heap.size; omega)]
      exact hc j u hu
    have HC := Lib.hid hcell; clear hcell hl
    go_enter Try.func92, Try.ntmps92
    go_wp2_with (at_builtin; go_must (refine wpList_append_own _ rfl _ _ 54 rfl w.heap.size 5 i0 (.int .u8 0) 1 1 Try.underlying54 hi hz0 hz1 hz2 rfl (by decide) _ _ _ rfl (World.ownsRow_made w #[] 0 (Nat.le_refl _) (Nat.zero_le _) rfl) a l.length c (u8s l) rfl ?c1 ?c2 ?c3 ?c4 ?c5 ?c6 ?_))
    case c1 => simp [u8s]
    case c2 => exact HC.out
    case c3 => exact u8s_one l
    case c4 => unfold maxLen; omega
    case c5 => omega
    case c6 => simp
    intro v' w1 hown hgrow _
    go_wp2
    go_ret
    refine ⟨v', rfl, by simpa using hown, ?_⟩
    exact ((Below.refl _ w).alloc (Nat.le_refl _) _).grown hgrow (by simp) (by intro k hk; simp [Value.ownBlock] at hk; omega)

set_option maxRecDepth 100000 in
set_option maxHeartbeats 1000000 in
/-- A new reader, in memory of the call's own. -/
theorem new_any (B : Nat) (A : Option Addr) (c : Nat) (l : List Int) (w : World) (hm : l.length ≤ 140737488355328) (hB : B ≤ w.heap.size) (hl : Lies w B A (u8s l)) (hb : IsBytes l) :
    Calls Try.prog 76 #[.slice A l.length c] w fun e w' =>
      ∃ g, e = .returned (.pointer (some ⟨g, 0, none⟩)) ∧ w.heap.size ≤ g ∧ Rd w' g g 155 (l, 0) ∧ Below w.heap.size w w' := by
  go_enter Try.func76, Try.ntmps76
  go_wp2_with fail
  refine (clone_any B A c l w hm hB hl).mono ?_
  rintro e w1 ⟨v, rfl, hown, hbel⟩
  obtain ⟨A', c', rfl, hn, hm', _, hl', _⟩ := Lies.of_own hown
  go_wp2
  go_ret
  refine ⟨_, rfl, hbel.size, ⟨Nat.le_refl _, ⟨A', c', heap_alloc_new w1 _, hn, hm', ?_⟩, hb⟩, hbel.alloc hbel.size _⟩
  exact hl'.keep fun b o hlt => World.cell?_alloc_past _ _ _ hlt

theorem left_any (B g : Nat) (st : RS) (w : World) (h : Rd w B g 155 st) :
    Calls Try.prog 80 #[.pointer (some ⟨g, 0, none⟩)] w fun e w' => e = .returned (.int .i64 st.1.length) ∧ w = w' := by
  obtain ⟨A, c, hg, hn, hm, _⟩ := h.blk
  have h0 : w.cell? ⟨g, 0, none⟩ = some (.slice A st.1.length c) := cell_blk hg 0
  clear hg
  go_enter Try.func80, Try.ntmps80
  go_wp2
  go_ret
  exact ⟨rfl, rfl⟩

theorem err_any (B g : Nat) (st : RS) (w : World) (h : Rd w B g 155 st) :
    Calls Try.prog 79 #[.pointer (some ⟨g, 0, none⟩)] w fun e w' => e = .returned (.int .i64 st.2) ∧ w = w' := by
  obtain ⟨A, c, hg, hn, hm, _⟩ := h.blk
  have h1 : w.cell? ⟨g, 1, none⟩ = some (.int .i64 st.2) := cell_blk hg 1
  clear hg
  go_enter Try.func79, Try.ntmps79
  go_wp2
  go_ret
  exact ⟨rfl, rfl⟩

set_option maxRecDepth 100000 in
set_option maxHeartbeats 1000000 in
theorem fail_any (B g : Nat) (st : RS) (e0 : Int) (w : World) (h : Rd w B g 155 st) :
    Calls Try.prog 103 #[.pointer (some ⟨g, 0, none⟩), .int .i64 e0] w fun e w' =>
      e = .returned (.tuple #[]) ∧ Rd w' B g 155 ([], e0) ∧ w.grownBy w' (some g) := by
  obtain ⟨A, c, hg, hn, hm, _⟩ := h.blk
  have h0 : w.cell? ⟨g, 0, none⟩ = some (.slice A st.1.length c) := cell_blk hg 0
  have h1 : w.cell? ⟨g, 1, none⟩ = some (.int .i64 st.2) := cell_blk hg 1
  have h2 : w.frozen? ⟨g, 0, none⟩ = false := frozen_blk hg 0
  have h3 : w.frozen? ⟨g, 1, none⟩ = false := frozen_blk hg 1
  have HG := Lib.hid hg; clear hg
  go_enter Try.func103, Try.ntmps103
  go_wp2
  go_end0
  have hs := set_blk (set_blk HG.out 0 (.slice none 0 0)) 1 (.int .i64 e0)
  exact ⟨rfl, ⟨h.le, ⟨none, 0, hs, Nat.le_refl _, Nat.zero_le _, Lies.nil⟩, fun u hu => by cases hu⟩, grown_setCell (grown_setCell (grown_refl _ _) _ _) _ _⟩

end Go.Proofs.Ytmcphlklknfbmaa
