/- Package future: All; slices.Clone of futures. -/
import Derived.Test.YtboelofkbhgmfaaSet13
namespace Go.Proofs.Ytboelofkbhgmfaa
set_option maxRecDepth 100000
open Go.RowKit

@[go_sem] theorem eql_nilF_no (n c : Nat) (w : World) : Sem.run Try.prog (binOp .eql 75 (.slice none n c) (.slice none 0 0)) w = .ok (.bool true) w := by kernel_rfl
@[go_sem] theorem eql_nilF_yes (a : Addr) (n c : Nat) (w : World) : Sem.run Try.prog (binOp .eql 75 (.slice (some a) n c) (.slice none 0 0)) w = .ok (.bool false) w := by kernel_rfl
theorem rowE_ones {X : Type} {enc : X → Array Value} (h : ∀ x, ∀ u ∈ (enc x).toList, u.oneCell' = true) (l : List X) : ∀ u ∈ rowE enc l, u.oneCell' = true := by
  intro u hu
  obtain ⟨x, _, hx⟩ := List.mem_flatMap.1 hu
  exact h x u hx
def ClF (w : World) (l : List FutX) (e : Ending) (w' : World) : Prop := (∃ v, e = .returned v ∧ w'.ownsRow w.heap.size 64 4 v l.length (rowE futA l)) ∧ Below w.heap.size w w'
set_option maxRecDepth 100000 in
set_option maxHeartbeats 8000000 in
theorem cloneF_any (v : Value) (l : List FutX) (w : World) (h : w.ownsRow 0 64 4 v l.length (rowE futA l)) (hn : l.length ≤ 100000) :
    Calls Try.prog 83 #[v] w (ClF w l) := by
  obtain ⟨n, e1⟩ : ∃ n, l.length = n := ⟨_, rfl⟩
  have E1 := Lib.hid e1
  have HLEN : Hid ((rowE futA l).length = n * 4) := Lib.hid (by rw [rowE_length futA_size, e1])
  rw [e1] at h hn
  have HH := Lib.hid h
  rcases h.2 with ⟨rfl, h0⟩ | ⟨g, cap, cur, rfl, _, hg, _⟩
  · have hl : l = [] := List.eq_nil_of_length_eq_zero (by omega)
    have HF : Hid (ClF w l (.returned (.slice none 0 0)) w) := Lib.hid ⟨⟨_, rfl, by rw [hl]; exact World.ownsRow_nil w w.heap.size _ 4⟩, Below.refl _ _⟩
    clear e1 h h0 hl
    go_enter Try.func83, Try.ntmps83
    go_wp2_with fail
    go_ret
    exact HF.out
  · have hw2 : Hid ((w.alloc (.cells #[] 64)).ownsRow w.heap.size 64 4 (.slice (some ⟨w.heap.size, 0, none⟩) 0 0) 0 []) :=
      Lib.hid ⟨rfl, .inr ⟨_, 0, #[], rfl, Nat.le_refl _, heap_alloc_new w _, Nat.le_refl _, Nat.zero_le _, rfl, rfl⟩⟩
    have B2 := Lib.hid (below_alloc w (.cells #[] 64))
    have HCE : Hid (∀ j u, (rowE futA l)[j]? = some u → (w.alloc (.cells #[] 64)).cell? ((⟨g, 0, none⟩ : Addr).add j) = some u) := Lib.hid fun j u hu => by
      have h1 := (HH.out.alloc (.cells #[] 64)).cells (g := g) rfl j u hu
      exact h1
    obtain ⟨i0, hi, hq⟩ : ∃ i0, Try.prog.info? 64 = some i0 ∧ (i0.zero, i0.size, i0.bytes) = (some (.agg #[.int .i64 0, .int .i64 0, .int .i32 0, .int .i64 0]), 4, 32) := by
      have hinf := inf_F
      cases hI : Try.prog.info? 64 with
      | none => rw [hI] at hinf; cases hinf
      | some i0 => rw [hI] at hinf; exact ⟨i0, rfl, by simpa using hinf⟩
    injection hq with hq1 hq2
    injection hq2 with hq2 hq3
    have HI := Lib.hid hi; have HQ1 := Lib.hid hq1; have HQ2 := Lib.hid hq2; have HQ3 := Lib.hid hq3
    clear e1 h hg hi hq1 hq2 hq3
    go_enter Try.func83, Try.ntmps83
    go_wp2_with (at_builtin; go_must (refine wpList_append_own _ rfl (.tmp 5) (.tmp 6) 75 rfl w.heap.size 64 i0 _ 4 32 Try.underlying75 HI.out HQ1.out HQ2.out HQ3.out rfl (by decide) _ 0 [] rfl hw2.out ⟨g, 0, none⟩ n cap (rowE futA l) rfl HLEN.out HCE.out (rowE_ones futA_one l) ?c1 ?c2 ?c3 ?_))
    case c1 => unfold maxLen; omega
    case c2 => omega
    case c3 => exact B2.out.size
    intro v3 w3 ho3 hg3 _
    have HF : Hid (ClF w l (.returned v3) w3) := Lib.hid ⟨⟨v3, rfl, by rw [E1.out]; simpa using ho3⟩, B2.out.grown hg3 B2.out.size (fun k hk => by have := (hw2.out.lt k hk).1; omega)⟩
    obtain ⟨A3, n3, c3, rfl⟩ : ∃ A n c, v3 = .slice A n c := by
      rcases ho3.2 with ⟨rfl, _⟩ | ⟨g, cap, cur, rfl, _⟩
      · exact ⟨_, _, _, rfl⟩
      · exact ⟨_, _, _, rfl⟩
    clear ho3 hg3
    go_wp2_with fail
    go_ret
    exact HF.out

/-- A table of futures' lists. -/
def TabF (w : World) (v : Value) (Ls : List (List FutX)) : Prop := ∃ (b : Nat) (vs : List Value), v = .slice (some ⟨b, 0, none⟩) Ls.length Ls.length ∧ w.heap[b]? = some (.cells vs.toArray 75 (0, 0)) ∧ vs.length = Ls.length ∧
  ∀ (k : Nat) (u : Value) (l : List FutX), vs[k]? = some u → Ls[k]? = some l → w.ownsRow 0 64 4 u l.length (rowE futA l)
def AllM (w : World) (Ls : List (List FutX)) (e : Ending) (w' : World) : Prop := (∃ v, e = .returned v ∧ TabF w' v Ls) ∧ Below w.heap.size w w'
/-- All under way: k rows are copied. -/
structure AlK (w wr : World) (Ls : List (List FutX)) (k : Nat) (vs : List Value) : Prop where
  len : vs.length = Ls.length
  blk : wr.heap[w.heap.size]? = some (.cells vs.toArray 75 (0, 0))
  row : ∀ (j : Nat) (u : Value) (l : List FutX), j < k → vs[j]? = some u → Ls[j]? = some l → wr.ownsRow (w.heap.size + 1) 64 4 u l.length (rowE futA l)
  bel : Below w.heap.size w wr
theorem AlK.step {w wr w2 : World} {Ls : List (List FutX)} {k : Nat} {vs : List Value} (h : AlK w wr Ls k vs) (hk : k < Ls.length) (v : Value) (hb : Below wr.heap.size wr w2) (ho : w2.ownsRow wr.heap.size 64 4 v Ls[k].length (rowE futA Ls[k])) :
    AlK w (w2.setCell ⟨w.heap.size, k, none⟩ v) Ls (k + 1) (vs.set k v) := by
  have hlt := (Array.getElem?_eq_some_iff.1 h.blk).1
  have hl0 := h.len
  refine ⟨by simp [h.len], ?_, ?_, (h.bel.trans (hb.mono h.bel.size)).setCell (Nat.le_refl _) _⟩
  · rw [set_blk ((hb.block _ hlt).trans h.blk) k v]
    simp
  · intro j u l hj hu hl
    have hset : ∀ b, b ≠ w.heap.size → (w2.setCell ⟨w.heap.size, k, none⟩ v).heap[b]? = w2.heap[b]? := fun b hb => Below.heap_setCell _ _ _ _ hb
    by_cases e : j = k
    · subst e
      rw [List.getElem?_set_self (by omega)] at hu
      injection hu with hu
      subst hu
      rw [List.getElem?_eq_getElem hk] at hl
      injection hl with hl
      subst hl
      have h1 : w2.ownsRow (w.heap.size + 1) 64 4 v Ls[j].length (rowE futA Ls[j]) := ⟨ho.1, by
        rcases ho.2 with h2 | ⟨g, cap, cur, e, hg, h3⟩
        · exact .inl h2
        · exact .inr ⟨g, cap, cur, e, by omega, h3⟩⟩
      exact ownsRow_keep h1 fun b hb' => hset b (by have := (h1.lt b hb').1; omega)
    · rw [List.getElem?_set_ne (Ne.symm e)] at hu
      have h1 := h.row j u l (by omega) hu hl
      exact ownsRow_keep h1 fun b hb' => (hset b (by have := (h1.lt b hb').1; omega)).trans (hb.block b (h1.lt b hb').2)

set_option maxRecDepth 100000 in
set_option maxHeartbeats 8000000 in
theorem allQ_any {w : World} {S : Nat → Prop} {gs qc tb : Nat} {qA : Option Addr} {vs : List Value} {qs : List Int} {Ls : List (List FutX)} (h : StoF w S gs qA qc tb vs qs Ls) (hB : Bnd qs Ls) :
    Calls Try.prog 70 #[.pointer (some ⟨gs, 0, none⟩)] w (AllM w Ls) := by
  have H := Lib.hid h
  have HBB := Lib.hid hB
  have c0 : w.cell? ⟨gs, 1, none⟩ = some (.slice (some ⟨tb, 0, none⟩) Ls.length Ls.length) := cell_blk h.blk 1
  have hgs := h.lt gs h.inS.1
  obtain ⟨n, hn⟩ : ∃ n, Ls.length = n := ⟨_, rfl⟩
  have HN := Lib.hid hn
  have hn16 : n ≤ 16 := by have := hB.n; omega
  have HMK := Lib.hid (fun w => run_make_nil Try.underlying68 inf_rowF (by decide) w n (by omega))
  rw [hn] at c0
  clear hB h hn
  have hmk := HMK.out
  go_enter Try.func70, Try.ntmps70
  go_wp2_with fail
  clear hmk
  go_loopw [17] (fun i wr => ∃ k : Nat, ∃ us, k ≤ n ∧ i = .int .i64 k ∧ AlK w wr Ls k us) (fun i _ => n - (intOf i).toNat)
  case atStart => exact ⟨0, nilR n, Nat.zero_le _, rfl, by simp [nilR, HN.out], heap_alloc_new w _, fun j u l hj => by omega, below_alloc w _⟩
  case round =>
    obtain ⟨k, us, hk, rfl, hK⟩ := hrel
    have HK := Lib.hid hK
    have hlt := (Array.getElem?_eq_some_iff.1 hK.blk).1
    clear hK
    by_cases hkn : k < n
    · have hkl : k < Ls.length := by rw [HN.out]; exact hkn
      obtain ⟨A, c, hx, c1, ho⟩ := H.out.row_at hkl
      have d1 : wr.cell? ⟨tb, k, none⟩ = _ := (HK.out.bel.cell (p := ⟨tb, k, none⟩) (H.out.lt tb H.out.inS.2)).trans c1
      have ho2 : wr.ownsRow 0 64 4 (.slice A Ls[k].length c) Ls[k].length (rowE futA Ls[k]) := ownsRow_keep ho fun b hb => HK.out.bel.block b (ho.lt b hb).2
      have HC := Lib.hid (cloneF_any _ Ls[k] wr ho2 (by have := HBB.out.le k hkl; omega))
      have HST := Lib.hid (fun (w2 : World) (v : Value) => HK.out.step (w2 := w2) hkl v)
      have hus : k < us.length := by rw [HK.out.len]; exact hkl
      have e0 : wr.cell? ⟨w.heap.size, k, none⟩ = some us[k] := by rw [cell_blk HK.out.blk]; simp [hus]
      have hf0 := frozen_blk HK.out.blk k
      generalize us[k] = old at *
      unfold ClF at HC
      generalize Ls[k].length = m at *
      have i1 : (0 : Int) ≤ (k : Int) ∧ (k : Int) < n := by omega
      clear hx c1 ho ho2 hus
      go_wp2_with fail
      refine HC.out.mono ?_
      rintro e w2 ⟨⟨v2, rfl, ho⟩, hb⟩
      have HF := Lib.hid (HST.out w2 v2 hb ho)
      have d2 : w2.cell? ⟨w.heap.size, k, none⟩ = some old := (hb.cell (p := ⟨w.heap.size, k, none⟩) hlt).trans e0
      have f2 : w2.frozen? ⟨w.heap.size, k, none⟩ = false := (hb.frozen (p := ⟨w.heap.size, k, none⟩) hlt).trans hf0
      obtain ⟨A2, n2, c2, rfl⟩ : ∃ A n c, v2 = .slice A n c := by
        rcases ho.2 with ⟨rfl, _⟩ | ⟨g, cap, cur, rfl, _⟩
        · exact ⟨_, _, _, rfl⟩
        · exact ⟨_, _, _, rfl⟩
      clear ho hb
      go_wp2_with fail
      go_roundw
      case rel => exact ⟨k + 1, _, by omega, by go_num, HF.out⟩
      case measure => simp [intOf]; omega
    · obtain rfl : k = n := by omega
      go_wp2_with fail
      go_ret
      refine ⟨⟨_, rfl, w.heap.size, us, by rw [HN.out]; rfl, HK.out.blk, HK.out.len, fun j u l hu hl => ?_⟩, HK.out.bel⟩
      have hj : j < Ls.length := (List.getElem?_eq_some_iff.1 hl).1
      have h1 := HK.out.row j u l (by rw [← HN.out]; exact hj) hu hl
      exact ⟨h1.1, by
        rcases h1.2 with h2 | ⟨g, cap, cur, e, hg, h3⟩
        · exact .inl h2
        · exact .inr ⟨g, cap, cur, e, Nat.zero_le _, h3⟩⟩
theorem fuAll_any {w : World} {S : Nat → Prop} {a : Nat} {qs : List Int} {Ls : List (List FutX)} (h : FuV w S a qs Ls) :
    Calls Try.prog 41 #[.pointer (some ⟨a, 0, none⟩)] w (AllM w Ls) := by
  obtain ⟨hB, _, gs, qA, qc, tb, vs, hb, hs⟩ := h
  have HM := Lib.hid (allQ_any hs hB)
  have c0 : w.cell? ⟨a, 0, none⟩ = some (.pointer (some ⟨gs, 0, none⟩)) := cell_blk hb 0
  clear hB hb hs
  go_enter Try.func41, Try.ntmps41
  go_wp2_with fail
  refine HM.out.mono ?_
  rintro e w' ⟨⟨v, rfl, h⟩, hb⟩
  have HF := Lib.hid (show AllM w Ls (.returned v) w' from ⟨⟨v, rfl, h⟩, hb⟩)
  obtain ⟨b, us, rfl, _⟩ := h
  clear hb
  go_wp2_with fail
  go_ret
  exact HF.out

end Go.Proofs.Ytboelofkbhgmfaa
