/- The walk of reach: one instruction lets another be reached. -/
import Derived.Test.YtjnlgmjcabbaaaaFlow8
import Derived.Test.YtjnlgmjcabbaaaaApd
import Derived.Deep.DeepMust
namespace Go.Proofs.Ytjnlgmjcabbaaaa
set_option maxRecDepth 100000
open Go.RowKit

def FlowM (w : World) (m : Dims) (s : Fl) : Prop := ∃ wv, FlowS w m s wv
/-- All other blocks are as they were. -/
def Kept (w w' : World) (m : Dims) (wv : Value) : Prop := ∀ b, b < w.heap.size → b ≠ m.g → b ≠ m.gb → b ≠ m.gd → wv.ownBlock ≠ some b → w'.heap[b]? = w.heap[b]?
def ReachMade (w : World) (m : Dims) (s' : Fl) (wv : Value) (e : Ending) (w' : World) : Prop :=
  e = .returned (.tuple #[]) ∧ (∃ wv', FlowS w' m s' wv' ∧ (wv'.ownBlock = wv.ownBlock ∨ ∃ k, wv'.ownBlock = some k ∧ w.heap.size ≤ k)) ∧ Below m.lo w w' ∧ Kept w w' m wv

set_option maxRecDepth 100000 in
set_option maxHeartbeats 8000000 in
theorem reach_any (f : CodeL) (m : Dims) (s : Fl) (wv : Value) (fr tt : Nat) (d : Int) (w : World) (hf : FlowS w m s wv) (hr : RowI w m.lo m.cv f) (hn : f.length = m.n) (hfr : fr < m.n) (hto : tt ≤ m.n) (hn2 : m.n ≤ 100000) (hk : s.K.length ≤ 100000) :
    Calls Try.prog 79 #[.pointer (some ⟨m.g, 0, none⟩), .int .i64 fr, .int .i64 tt, .int .i64 d] w
      (ReachMade w m (reachF m.n s fr tt d) wv) := by
  obtain ⟨A, c, hcv, hvl, hvi⟩ := hr
  rw [hn] at hcv
  have c0 := hf.c0; rw [hcv] at c0
  have c1 := hf.c1; have c2 := hf.c2; have c3 := hf.c3
  have HF := Lib.hid hf; have HCV := Lib.hid hcv
  have fb := hf.fb fr
  have cb := hf.cb hfr
  have LG := Lib.hid hf.lg
  clear hf hvl hvi hcv
  by_cases h1 : tt = m.n
  · have HR : Hid (reachF m.n s fr tt d = { s with Bd := s.Bd.set fr true }) := Lib.hid (by unfold reachF; rw [if_pos h1])
    have H2 := Lib.hid (HF.out.setB hfr)
    have BB := Lib.hid (below_set (w := w) (i := fr) LG.out.2.1 (.bool true))
    have e1 : ((tt : Int) == (m.n : Int)) = true := by rw [h1]; exact beq_self_eq_true _
    obtain ⟨n, hnn⟩ : ∃ n, m.n = n := ⟨_, rfl⟩
    rw [hnn] at c0 c1 c2 e1 hfr hn2
    clear h1 hn hto
    go_enter Try.func79, Try.ntmps79
    go_wp2_with fail
    go_end0
    subst hnn
    rw [HR.out]
    exact ⟨rfl, ⟨wv, H2.out, .inl rfl⟩, BB.out, fun b _ _ h3 _ _ => set_far h3⟩
  · have htl : tt < m.n := by omega
    have cd := HF.out.cd htl
    have fd := HF.out.fd tt
    have e1 : ((tt : Int) == (m.n : Int)) = false := by simp; omega
    obtain ⟨x, hx⟩ : ∃ x, s.D.getD tt 0 = x := ⟨_, rfl⟩
    rw [hx] at cd
    by_cases h2 : x = -1
    · have HR : Hid (reachF m.n s fr tt d = { s with D := s.D.set tt d, K := s.K ++ [tt] }) := Lib.hid (by unfold reachF; rw [if_neg h1, if_pos (hx.trans h2)])
      subst h2
      obtain ⟨w1, hw1⟩ : ∃ w1, w1 = w.setCell ⟨m.gd, tt, none⟩ (.int .i64 d) := ⟨_, rfl⟩
      have HW1 := Lib.hid hw1
      have H1 := Lib.hid (show FlowS w1 m { s with D := s.D.set tt d } wv by rw [hw1]; exact HF.out.setD d htl)
      have BB := Lib.hid (show Below m.lo w w1 by rw [hw1]; exact below_set LG.out.2.2 _)
      have hlo : m.lo ≤ w1.heap.size := Nat.le_trans LG.out.1 (Nat.le_of_lt H1.out.lt.1)
      obtain ⟨n, hnn⟩ : ∃ n, m.n = n := ⟨_, rfl⟩
      rw [hnn] at c0 c1 c2 e1 hfr hn2 htl
      have HLO := Lib.hid hlo
      clear h1 hn hto hx fb cb hlo
      go_enter Try.func79, Try.ntmps79
      go_upto_region 4 with (fail)
      rw [← hw1]
      clear hw1 c0 c1 c2 c3 cd fd
      have c3 := H1.out.c3
      have f3 := H1.out.fg 3
      go_wp2_with (at_builtin; go_must (refine wpList_append_new 39 3 (.int .i64 0) 1 8 Try.underlying39 inf_int rfl (by decide) (by decide) rfl (.tmp 42) (.tmp 44) rfl m.lo _ _ _ _ [.int .i64 (tt : Int)] rfl rfl H1.out.own rfl rfl ?c1 ?c2 ?c3 ?_))
      case c1 => intro u hu; simp at hu; subst hu; rfl
      case c2 => omega
      case c3 => exact HLO.out
      intro v' w3 ho hg hat
      have H3 := Lib.hid (H1.out.grow ho hg hat)
      have hs1 : w1.heap.size = w.heap.size := by rw [HW1.out]; simp [World.setCell]
      obtain ⟨gw, cw, rfl⟩ := own_succ ho
      have HAT := Lib.hid (show (Value.slice (some ⟨gw, 0, none⟩) (s.K.length + 1) cw).ownBlock = wv.ownBlock ∨ ∃ k, (Value.slice (some ⟨gw, 0, none⟩) (s.K.length + 1) cw).ownBlock = some k ∧ w.heap.size ≤ k from by rw [← hs1]; exact hat)
      have KP : Hid (Kept w (w3.setCell ⟨m.g, 3, none⟩ (.slice (some ⟨gw, 0, none⟩) (s.K.length + 1) cw)) m wv) := Lib.hid (fun b hb n1 n2 n3 n4 => by
        rw [set_far n1, hg.block b (by omega) (fun e => n4 e.symm), HW1.out]
        exact set_far n3)
      have hg3 : w3.heap[m.g]? = _ := (hg.block _ H1.out.lt.1 (fun e => H1.out.wne.1 e.symm)).trans H1.out.hd
      have c3' : w3.cell? ⟨m.g, 3, none⟩ = some wv := cell_blk hg3 3
      have f3' : w3.frozen? ⟨m.g, 3, none⟩ = false := frozen_blk hg3 3
      have hb3 : Below m.lo w1 w3 := (Below.refl _ _).grown hg HLO.out (fun k hk => (H1.out.own.lt k hk).1)
      have BB3 := Lib.hid ((BB.out.trans hb3).trans (below_set (w := w3) (i := 3) LG.out.1 (.slice (some ⟨gw, 0, none⟩) (s.K.length + 1) cw)))
      clear ho hg hat hg3 hb3 c3 f3
      go_wp2_with fail
      go_end0
      subst hnn
      rw [HR.out]
      exact ⟨rfl, ⟨_, H3.out, HAT.out⟩, BB3.out, KP.out⟩
    · have e2 : (x == -1) = false := by simpa using h2
      by_cases h3 : x = d
      · have HR : Hid (reachF m.n s fr tt d = s) := Lib.hid (by unfold reachF; rw [if_neg h1, if_neg (by rw [hx]; exact h2), if_pos (hx.trans h3)])
        have e3 : (x != d) = false := by simpa using h3
        obtain ⟨n, hnn⟩ : ∃ n, m.n = n := ⟨_, rfl⟩
        rw [hnn] at c0 c1 c2 e1 hfr hn2 htl
        clear h1 hn hto hx h2 h3
        go_enter Try.func79, Try.ntmps79
        go_wp2_with fail
        go_end0
        subst hnn
        rw [HR.out]
        exact ⟨rfl, ⟨wv, HF.out, .inl rfl⟩, Below.refl _ _, fun _ _ _ _ _ _ => rfl⟩
      · have HR : Hid (reachF m.n s fr tt d = { s with Bd := s.Bd.set tt true }) := Lib.hid (by unfold reachF; rw [if_neg h1, if_neg (by rw [hx]; exact h2), if_neg (by rw [hx]; exact h3)])
        have e3 : (x != d) = true := by simpa using h3
        have H2 := Lib.hid (HF.out.setB htl)
        have BB := Lib.hid (below_set (w := w) (i := tt) LG.out.2.1 (.bool true))
        have fb := HF.out.fb tt
        have cb := HF.out.cb htl
        obtain ⟨n, hnn⟩ : ∃ n, m.n = n := ⟨_, rfl⟩
        rw [hnn] at c0 c1 c2 e1 hfr hn2 htl
        clear h1 hn hto hx h2 h3
        go_enter Try.func79, Try.ntmps79
        go_wp2_with fail
        go_end0
        subst hnn
        rw [HR.out]
        exact ⟨rfl, ⟨wv, H2.out, .inl rfl⟩, BB.out, fun b _ _ h3 _ _ => set_far h3⟩

end Go.Proofs.Ytjnlgmjcabbaaaa
