/- The reference's ring: New, Pop, Steal, Half, Push. (Drawn by gen/mkrs15.py.) -/
import Derived.Test.YtlmbjnegajiphaaRr15
import Derived.Deep.QuietTactic
namespace Go.Proofs.Ytlmbjnegajiphaa
set_option maxRecDepth 100000
open Go.RowKit

theorem RrV.keep {w w' : World} {S T : Nat → Prop} {b R : Nat} {M : List TK} (h : RrV w S b R M) (hf : Frm T w w') (hd : ∀ i, S i → ¬ T i) : RrV w' S b R M := by
  obtain ⟨A, c, L, h, e⟩ := h; exact ⟨A, c, L, h.keep hf hd, e⟩
theorem RrV.lt {w : World} {S : Nat → Prop} {b R : Nat} {M : List TK} (h : RrV w S b R M) : ∀ i, S i → i < w.heap.size := by
  obtain ⟨A, c, L, h, e⟩ := h; exact h.lt
/-- A new ring of the reference. -/
def RrNew (w : World) (R : Nat) (e : Ending) (w' : World) : Prop := ∃ b, e = .returned (.pointer (some ⟨b, 0, none⟩)) ∧ RrV w' (fun k => k = b) b R [] ∧ w.heap.size ≤ b ∧ Below w.heap.size w w'
theorem rrNew_any (w : World) (x : Int) : Calls Try.prog 37 #[.int .i64 x] w (RrNew w (roomZ x)) := by
  obtain ⟨R, hR⟩ : ∃ R, roomZ x = R := ⟨_, rfl⟩
  obtain ⟨m, hm⟩ : ∃ m : Int, (if x < 1 then 1 else x) = m := ⟨_, rfl⟩
  have e1 : (if (64 : Int) < m then (64 : Int) else m) = (R : Int) := by rw [← hm, ← hR]; unfold roomZ; split <;> split <;> omega
  rw [hR]
  clear hR
  go_enter Try.func37, Try.ntmps37
  go_wp2_with fail
  go_ret
  exact ⟨w.heap.size, rfl, ⟨none, 0, [], ⟨heap_alloc_new w _, Nat.le_refl _, .inl ⟨rfl, rfl, rfl⟩, (fun x hx => by simp at hx), rfl, (fun k e => by subst e; simp)⟩, rfl⟩, Nat.le_refl _, below_alloc w _⟩
/-- What Pop and Steal of the reference answer: t is gone, M is left. -/
def RrGone (w : World) (S : Nat → Prop) (b R : Nat) (M : List TK) (t : TK) (e : Ending) (w' : World) : Prop :=
  ∃ s, e = .returned (.tuple #[taskV t s, .bool true]) ∧ (I32V w' w'.heap.size s t.st ∧ t.st.length ≤ 1000) ∧ RrV w' S b R M ∧ Stp S S w w' ∧ Frm (fun i => i = b) w w'
theorem RrK.gone {w w4 : World} {S : Nat → Prop} {b R c n m c' : Nat} {A A' : Option Addr} {L : List SlotX} {M : List TK} {x : SlotX} (h : RrK w S b R A c L) (hf : Frm (fun i => i = b) w w4) (hblk : w4.heap[b]? = some (.cells #[.int .i64 R, .slice A' m c'] 74 (0, 0)))
    (hm : ((L.drop n).take m).length = m) (hc : m ≤ c') (hA : (A' = none ∧ c' = 0 ∧ m = 0) ∨ ∃ g off, A = some ⟨g, off, none⟩ ∧ (A' = some ⟨g, off + n * 12, none⟩ ∨ m = 0 ∧ A' = some ⟨g, off, none⟩)) (hx : x ∈ L) (hM : ((L.drop n).take m).map Prod.fst = M) :
    RrGone w S b R M x.1 (.returned (.tuple #[taskV x.1 x.2, .bool true])) w4 := by
  obtain ⟨h1, h2⟩ := h.st x hx
  have h3 := h1.keep hf (S' := fun i => S i ∧ i ≠ b) (fun i hi e => hi.2 e) (fun _ _ h => h) (fun i hi => h.lt i hi.1)
  exact ⟨x.2, rfl, ⟨h3.v, h2⟩, ⟨_, _, _, h.cut hf hblk hm hc hA, hM⟩, ⟨hf.more fun i _ e => e ▸ h.bS, fun _ _ h => h, fun i hi => Nat.lt_of_lt_of_le (h.lt i hi) hf.size⟩, hf⟩
/-- The world behind a store to the struct and one into the result's box. -/
theorem rr_frm {w w2 : World} {b r : Nat} {v : Value} {cs : Array Value} (hb : Below w.heap.size w w2) (hr : w.heap.size ≤ r) : Frm (fun i => i = b) w ((w2.setCell ⟨b, 1, none⟩ v).setRow r cs) := by
  have f1 : Frm (fun i => i = b) w (w2.setCell ⟨b, 1, none⟩ v) := (Frm.of_below hb).then (Frm.setCell (S := fun i => i = b) (p := ⟨b, 1, none⟩) rfl _)
  have h2 : Below w.heap.size (w2.setCell ⟨b, 1, none⟩ v) ((w2.setCell ⟨b, 1, none⟩ v).setRow r cs) := row_below hr
  exact ⟨h2.os.trans f1.os, h2.tape.trans f1.tape, h2.output.trans f1.output, Nat.le_trans f1.size h2.size, fun k hk hn => (h2.block k hk).trans (f1.block k hk hn)⟩
theorem rr_blk {w2 : World} {b r R n c : Nat} {A : Option Addr} {v : Value} {cs : Array Value} (h : w2.heap[b]? = some (.cells #[.int .i64 R, .slice A n c] 74 (0, 0))) (hr : b ≠ r) : ((w2.setCell ⟨b, 1, none⟩ v).setRow r cs).heap[b]? = some (.cells #[.int .i64 R, v] 74 (0, 0)) := by
  rw [row_far hr, set_blk h]; rfl

set_option maxRecDepth 100000 in
set_option maxHeartbeats 8000000 in
theorem rrPop_any {w : World} {S : Nat → Prop} {b R : Nat} {M : List TK} {t : TK} (h : RrV w S b R (M ++ [t])) (hML : M.length ≤ 100) : Calls Try.prog 42 #[.pointer (some ⟨b, 0, none⟩)] w (RrGone w S b R M t) := by
  obtain ⟨A, c, L, h, hM⟩ := h
  have hl : L.length = M.length + 1 := by have := congrArg List.length hM; simpa using this
  obtain ⟨N, hN⟩ : ∃ N, M.length = N := ⟨_, rfl⟩
  rw [hN] at hl
  have hlt : N < L.length := by omega
  have hx1 : L[N].1 = t := by
    have h3 : (L.map Prod.fst)[N]? = (M ++ [t])[N]? := by rw [hM]
    rw [List.getElem?_map, List.getElem?_eq_getElem hlt] at h3
    rw [List.getElem?_append_right (by omega), hN, Nat.sub_self] at h3
    exact Option.some.inj h3
  have hM1 : ((L.drop 0).take N).map Prod.fst = M := by
    rw [List.map_take, List.map_drop, hM]
    rw [List.drop_zero, ← hN, List.take_left]
  have hm : ((L.drop 0).take N).length = N := by rw [List.length_take, List.length_drop]; omega
  rcases h.at' with ⟨_, _, e⟩ | ⟨g, off, rfl, hg, hgb, hr⟩
  · rw [e] at hl; simp at hl
  have hcap := h.cap
  obtain ⟨n1, hn1⟩ : ∃ n1, L.length = n1 := ⟨_, rfl⟩
  have hblk := h.blk
  rw [hn1] at hl hlt hblk hcap
  have e1 : (n1 : Int) - 1 = (N : Int) := by omega
  have HE : Hid (∀ w4 A' c', Frm (fun i => i = b) w w4 → w4.heap[b]? = some (.cells #[.int .i64 R, .slice A' N c'] 74 (0, 0)) → N ≤ c' → (A' = some ⟨g, off + 0 * 12, none⟩ ∨ N = 0 ∧ A' = some ⟨g, off, none⟩) → RrGone w S b R M t (.returned (.tuple #[taskV t (L[N]'(by omega)).2, .bool true])) w4) := Lib.hid fun w4 A' c' h1 h2 h3 h4 => by
    have h5 := h.gone (x := L[N]'(by omega)) h1 h2 hm h3 (.inr ⟨g, off, rfl, h4⟩) (List.getElem_mem _) hM1
    rw [hx1] at h5; exact h5
  have hrg := range_part hr (j := N) (by omega)
  have hrg : w.rangeAt g (off + N * 12) (taskA t (L[N]'(by omega)).2).toList := by rw [← hx1]; exact hrg
  have hst := (h.st (L[N]'(by omega)) (List.getElem_mem _)).1
  obtain ⟨s, hs⟩ : ∃ s, (L[N]'(by omega)).2 = s := ⟨_, rfl⟩
  obtain ⟨As, cs, hse, _⟩ := hst
  rw [hs] at hse
  generalize (L[N]'(by omega)).1.st.length = ns at hse
  simp only [hs] at HE hrg
  subst hse
  have hbl := h.lt b h.bS
  have hgl := h.lt g hg
  clear h hM hx1 hM1 hm hn1 hr hg hs
  have c1 : w.cell? ⟨b, 1, none⟩ = some (.slice (some ⟨g, off, none⟩) n1 c) := cell_blk hblk 1
  obtain ⟨w1, hw1⟩ : ∃ x, x = w.alloc (.cells #[.int .i32 0, .int .i64 0, .int .i64 0, .slice none 0 0, .int .i32 0, .int .i32 0, .int .i32 0, .int .i32 0, .int .i64 0, .int .i64 0, .int .u32 0, .int .i64 0] 51) := ⟨_, rfl⟩
  have B1 : Hid (Below w.heap.size w w1) := Lib.hid (by rw [hw1]; exact below_alloc w _)
  have HZ1 : Hid (w1.heap[w.heap.size]? = some (.cells (taskA zT nilV) 51 (0, 0))) := Lib.hid (by rw [hw1]; exact heap_alloc_new w _)
  have hs1 : w.heap.size < w1.heap.size := (Array.getElem?_eq_some_iff.1 HZ1.out).1
  have HRG := Lib.hid (rangeAt_below hrg B1.out)
  have d1 : w1.cell? ⟨b, 1, none⟩ = some (.slice (some ⟨g, off, none⟩) n1 c) := (B1.out.cell (p := ⟨b, 1, none⟩) hbl).trans c1
  have HW1 := Lib.hid hw1
  have HZ7 : Hid ((w1.alloc (.cells (taskA zT nilV) 51)).heap[w1.heap.size]? = some (.cells (taskA zT nilV) 51 (0, 0))) := Lib.hid (heap_alloc_new w1 _)
  obtain ⟨w2, hw2⟩ : ∃ x, x = (w1.alloc (.cells #[.int .i32 0, .int .i64 0, .int .i64 0, .slice none 0 0, .int .i32 0, .int .i32 0, .int .i32 0, .int .i32 0, .int .i64 0, .int .i64 0, .int .u32 0, .int .i64 0] 51)).setRow w1.heap.size (taskA t (.slice As ns cs)) := ⟨_, rfl⟩
  have HT2 : Hid (w2.heap[w1.heap.size]? = some (.cells (taskA t (.slice As ns cs)) 51 (0, 0))) := Lib.hid (by rw [hw2]; exact row_at HZ7.out _)
  have B2 : Hid (Below w1.heap.size w1 w2) := Lib.hid (by rw [hw2]; exact (below_alloc w1 _).trans (row_below (Nat.le_refl _)))
  have HZ2 : Hid (w2.heap[w.heap.size]? = some (.cells (taskA zT nilV) 51 (0, 0))) := Lib.hid ((B2.out.block _ hs1).trans HZ1.out)
  have HBK : Hid (w2.heap[b]? = some (.cells #[.int .i64 R, .slice (some ⟨g, off, none⟩) n1 c] 74 (0, 0))) := Lib.hid ((B2.out.block _ (by omega)).trans ((B1.out.block _ hbl).trans hblk))
  have q1 : w2.cell? ⟨b, 1, none⟩ = some (.slice (some ⟨g, off, none⟩) n1 c) := cell_blk HBK.out 1
  have f1 := frozen_blk HBK.out 1
  have B3 : Hid (Below w.heap.size w w2) := Lib.hid (nextB B1.out B2.out)
  have HW2 := Lib.hid hw2
  have HT3 : Hid (∀ v, (w2.setCell ⟨b, 1, none⟩ v).heap[w1.heap.size]? = some (.cells (taskA t (.slice As ns cs)) 51 (0, 0))) := Lib.hid fun v => (cell_far (by omega)).trans HT2.out
  have HZ3 : Hid (∀ v, (w2.setCell ⟨b, 1, none⟩ v).heap[w.heap.size]? = some (.cells (taskA zT nilV) 51 (0, 0))) := Lib.hid fun v => (cell_far (by omega)).trans HZ2.out
  have zl : decide ((N : Int) < 0) = false := by simp
  have i1 : (0 : Int) ≤ (N : Int) ∧ (N : Int) < n1 := by omega
  clear hw1 hw2 hblk hrg c1
  go_enter Try.func42, Try.ntmps42
  go_upto_region 1 with (fail)
  rw [show w.alloc (.cells #[.int .i32 0, .int .i64 0, .int .i64 0, .slice none 0 0, .int .i32 0, .int .i32 0, .int .i32 0, .int .i32 0, .int .i64 0, .int .i64 0, .int .u32 0, .int .i64 0] 51) = w1 from HW1.out.symm]
  go_wp2_with (first | (refine load_taskMid rfl _ rfl g (off + N * 12) t (.slice As ns cs) rfl HRG.out ?_) | (refine store_task rfl _ _ rfl rfl w1.heap.size t (.slice As ns cs) rfl rfl _ _ _ HZ7.out rfl ?_; rw [← HW2.out]) | (refine load_taskAt rfl _ rfl w1.heap.size t (.slice As ns cs) rfl _ _ (HT3.out _) ?_) | (refine store_task rfl _ _ rfl rfl w.heap.size t (.slice As ns cs) rfl rfl _ _ _ (HZ3.out _) rfl ?_) | fail)
  exact ret_task_bool (u := t) (s := .slice As ns cs) rfl rfl rfl rfl (row_at (HZ3.out _) _) (HE.out _ _ _ (rr_frm B3.out (Nat.le_refl _)) (rr_blk HBK.out (by omega)) (by omega) (.inl (by rw [Nat.zero_mul]; rfl)))

set_option maxRecDepth 100000 in
set_option maxHeartbeats 8000000 in
theorem rrSteal_any {w : World} {S : Nat → Prop} {b R : Nat} {M : List TK} {t : TK} (h : RrV w S b R (t :: M)) (hML : M.length ≤ 100) : Calls Try.prog 44 #[.pointer (some ⟨b, 0, none⟩)] w (RrGone w S b R M t) := by
  obtain ⟨A, c, L, h, hM⟩ := h
  have hl : L.length = M.length + 1 := by have := congrArg List.length hM; simpa using this
  obtain ⟨N, hN⟩ : ∃ N, M.length = N := ⟨_, rfl⟩
  rw [hN] at hl
  have hlt : 0 < L.length := by omega
  have hx1 : L[0].1 = t := by
    have h3 : (L.map Prod.fst)[0]? = (t :: M)[0]? := by rw [hM]
    rw [List.getElem?_map, List.getElem?_eq_getElem hlt] at h3
    skip
    exact Option.some.inj h3
  have hM1 : ((L.drop 1).take N).map Prod.fst = M := by
    rw [List.map_take, List.map_drop, hM]
    rw [List.drop_succ_cons, List.drop_zero, ← hN, List.take_length]
  have hm : ((L.drop 1).take N).length = N := by rw [List.length_take, List.length_drop]; omega
  rcases h.at' with ⟨_, _, e⟩ | ⟨g, off, rfl, hg, hgb, hr⟩
  · rw [e] at hl; simp at hl
  have hcap := h.cap
  obtain ⟨n1, hn1⟩ : ∃ n1, L.length = n1 := ⟨_, rfl⟩
  have hblk := h.blk
  rw [hn1] at hl hlt hblk hcap
  have e1 : (n1 : Int) - 1 = (N : Int) := by omega
  have HE : Hid (∀ w4 A' c', Frm (fun i => i = b) w w4 → w4.heap[b]? = some (.cells #[.int .i64 R, .slice A' N c'] 74 (0, 0)) → N ≤ c' → (A' = some ⟨g, off + 1 * 12, none⟩ ∨ N = 0 ∧ A' = some ⟨g, off, none⟩) → RrGone w S b R M t (.returned (.tuple #[taskV t (L[0]'(by omega)).2, .bool true])) w4) := Lib.hid fun w4 A' c' h1 h2 h3 h4 => by
    have h5 := h.gone (x := L[0]'(by omega)) h1 h2 hm h3 (.inr ⟨g, off, rfl, h4⟩) (List.getElem_mem _) hM1
    rw [hx1] at h5; exact h5
  have hrg := range_part hr (j := 0) (by omega)
  have hrg : w.rangeAt g (off + 0 * 12) (taskA t (L[0]'(by omega)).2).toList := by rw [← hx1]; exact hrg
  have hst := (h.st (L[0]'(by omega)) (List.getElem_mem _)).1
  obtain ⟨s, hs⟩ : ∃ s, (L[0]'(by omega)).2 = s := ⟨_, rfl⟩
  obtain ⟨As, cs, hse, _⟩ := hst
  rw [hs] at hse
  generalize (L[0]'(by omega)).1.st.length = ns at hse
  simp only [hs] at HE hrg
  subst hse
  have hbl := h.lt b h.bS
  have hgl := h.lt g hg
  clear h hM hx1 hM1 hm hn1 hr hg hs
  have c1 : w.cell? ⟨b, 1, none⟩ = some (.slice (some ⟨g, off, none⟩) n1 c) := cell_blk hblk 1
  obtain ⟨w1, hw1⟩ : ∃ x, x = w.alloc (.cells #[.int .i32 0, .int .i64 0, .int .i64 0, .slice none 0 0, .int .i32 0, .int .i32 0, .int .i32 0, .int .i32 0, .int .i64 0, .int .i64 0, .int .u32 0, .int .i64 0] 51) := ⟨_, rfl⟩
  have B1 : Hid (Below w.heap.size w w1) := Lib.hid (by rw [hw1]; exact below_alloc w _)
  have HZ1 : Hid (w1.heap[w.heap.size]? = some (.cells (taskA zT nilV) 51 (0, 0))) := Lib.hid (by rw [hw1]; exact heap_alloc_new w _)
  have hs1 : w.heap.size < w1.heap.size := (Array.getElem?_eq_some_iff.1 HZ1.out).1
  have HRG := Lib.hid (rangeAt_below hrg B1.out)
  have d1 : w1.cell? ⟨b, 1, none⟩ = some (.slice (some ⟨g, off, none⟩) n1 c) := (B1.out.cell (p := ⟨b, 1, none⟩) hbl).trans c1
  have HW1 := Lib.hid hw1
  have HZ7 : Hid ((w1.alloc (.cells (taskA zT nilV) 51)).heap[w1.heap.size]? = some (.cells (taskA zT nilV) 51 (0, 0))) := Lib.hid (heap_alloc_new w1 _)
  obtain ⟨w2, hw2⟩ : ∃ x, x = (w1.alloc (.cells #[.int .i32 0, .int .i64 0, .int .i64 0, .slice none 0 0, .int .i32 0, .int .i32 0, .int .i32 0, .int .i32 0, .int .i64 0, .int .i64 0, .int .u32 0, .int .i64 0] 51)).setRow w1.heap.size (taskA t (.slice As ns cs)) := ⟨_, rfl⟩
  have HT2 : Hid (w2.heap[w1.heap.size]? = some (.cells (taskA t (.slice As ns cs)) 51 (0, 0))) := Lib.hid (by rw [hw2]; exact row_at HZ7.out _)
  have B2 : Hid (Below w1.heap.size w1 w2) := Lib.hid (by rw [hw2]; exact (below_alloc w1 _).trans (row_below (Nat.le_refl _)))
  have HZ2 : Hid (w2.heap[w.heap.size]? = some (.cells (taskA zT nilV) 51 (0, 0))) := Lib.hid ((B2.out.block _ hs1).trans HZ1.out)
  have HBK : Hid (w2.heap[b]? = some (.cells #[.int .i64 R, .slice (some ⟨g, off, none⟩) n1 c] 74 (0, 0))) := Lib.hid ((B2.out.block _ (by omega)).trans ((B1.out.block _ hbl).trans hblk))
  have q1 : w2.cell? ⟨b, 1, none⟩ = some (.slice (some ⟨g, off, none⟩) n1 c) := cell_blk HBK.out 1
  have f1 := frozen_blk HBK.out 1
  have B3 : Hid (Below w.heap.size w w2) := Lib.hid (nextB B1.out B2.out)
  have HW2 := Lib.hid hw2
  have HT3 : Hid (∀ v, (w2.setCell ⟨b, 1, none⟩ v).heap[w1.heap.size]? = some (.cells (taskA t (.slice As ns cs)) 51 (0, 0))) := Lib.hid fun v => (cell_far (by omega)).trans HT2.out
  have HZ3 : Hid (∀ v, (w2.setCell ⟨b, 1, none⟩ v).heap[w.heap.size]? = some (.cells (taskA zT nilV) 51 (0, 0))) := Lib.hid fun v => (cell_far (by omega)).trans HZ2.out
  have zl : ((n1 : Int) == 0) = false := by simp; omega
  have i1 : (0 : Int) < n1 := by omega
  have hoff : off + 0 * 12 = off := by omega
  rw [hoff] at HRG
  have HCC : Hid (∀ k, n1 - 1 = k → k = N) := Lib.hid (by omega)
  clear hw1 hw2 hblk hrg c1
  by_cases hc1 : c = 1
  · subst hc1
    go_enter Try.func44, Try.ntmps44
    go_upto_region 1 with (fail)
    rw [show w.alloc (.cells #[.int .i32 0, .int .i64 0, .int .i64 0, .slice none 0 0, .int .i32 0, .int .i32 0, .int .i32 0, .int .i32 0, .int .i64 0, .int .i64 0, .int .u32 0, .int .i64 0] 51) = w1 from HW1.out.symm]
    go_wp2_with (first | (refine load_taskMid rfl _ rfl g (off) t (.slice As ns cs) rfl HRG.out ?_) | (refine store_task rfl _ _ rfl rfl w1.heap.size t (.slice As ns cs) rfl rfl _ _ _ HZ7.out rfl ?_; rw [← HW2.out]) | (refine load_taskAt rfl _ rfl w1.heap.size t (.slice As ns cs) rfl _ _ (HT3.out _) ?_) | (refine store_task rfl _ _ rfl rfl w.heap.size t (.slice As ns cs) rfl rfl _ _ _ (HZ3.out _) rfl ?_) | fail)
    exact ret_task_bool (u := t) (s := .slice As ns cs) rfl rfl rfl rfl (row_at (HZ3.out _) _) (HE.out _ _ _ (rr_frm B3.out (Nat.le_refl _)) (rr_blk HBK.out (by omega)) (by omega) (.inr ⟨by omega, rfl⟩))
  · skip
    go_enter Try.func44, Try.ntmps44
    go_upto_region 1 with (fail)
    rw [show w.alloc (.cells #[.int .i32 0, .int .i64 0, .int .i64 0, .slice none 0 0, .int .i32 0, .int .i32 0, .int .i32 0, .int .i32 0, .int .i64 0, .int .i64 0, .int .u32 0, .int .i64 0] 51) = w1 from HW1.out.symm]
    go_wp2_with (first | (refine load_taskMid rfl _ rfl g (off) t (.slice As ns cs) rfl HRG.out ?_) | (refine store_task rfl _ _ rfl rfl w1.heap.size t (.slice As ns cs) rfl rfl _ _ _ HZ7.out rfl ?_; rw [← HW2.out]) | (refine load_taskAt rfl _ rfl w1.heap.size t (.slice As ns cs) rfl _ _ (HT3.out _) ?_) | (refine store_task rfl _ _ rfl rfl w.heap.size t (.slice As ns cs) rfl rfl _ _ _ (HZ3.out _) rfl ?_) | fail)
    exact ret_task_bool (u := t) (s := .slice As ns cs) rfl rfl rfl rfl (row_at (HZ3.out _) _) (HE.out _ _ _ (rr_frm B3.out (Nat.le_refl _)) (rr_blk HBK.out (by omega)) (by omega) (.inl rfl))

/-- What Half of the reference answers. -/
def RrHalf (w : World) (S : Nat → Prop) (b R : Nat) (M : List TK) (e : Ending) (w' : World) : Prop :=
  ∃ v L', e = .returned v ∧ OwnT w' w.heap.size v L' ∧ L'.map Prod.fst = M.take ((M.length + 1) / 2) ∧ (∀ x ∈ L', I32V w' w'.heap.size x.2 x.1.st ∧ x.1.st.length ≤ 1000) ∧ RrV w' S b R (M.drop ((M.length + 1) / 2)) ∧ Stp S S w w' ∧ Frm (fun i => i = b) w w'
theorem take_rowE (L : List SlotX) (q : Nat) (hq : q ≤ L.length) : rowE slotA (L.take q) = (rowE slotA L).take (q * 12) := by
  have e1 : rowE slotA L = rowE slotA (L.take q) ++ rowE slotA (L.drop q) := by rw [← rowE_append, List.take_append_drop]
  have hl := rowE_length slotA_size (L.take q)
  rw [List.length_take, Nat.min_eq_left hq] at hl
  rw [e1, ← hl, List.take_left]
theorem RrK.half {w w3 : World} {S : Nat → Prop} {b R c q c' : Nat} {A A' : Option Addr} {L : List SlotX} {M : List TK} {v : Value} (h : RrK w S b R A c L) (hM : L.map Prod.fst = M) (hq : (M.length + 1) / 2 = q) (hb : Below w.heap.size w w3)
    (ho : w3.ownsRow w.heap.size 51 12 v (L.take q).length (rowE slotA (L.take q))) (hc : L.length - q ≤ c') (hA : (A' = none ∧ c' = 0 ∧ L.length - q = 0) ∨ ∃ g off, A = some ⟨g, off, none⟩ ∧ (A' = some ⟨g, off + q * 12, none⟩ ∨ L.length - q = 0 ∧ A' = some ⟨g, off, none⟩)) :
    RrHalf w S b R M (.returned v) (w3.setCell ⟨b, 1, none⟩ (.slice A' (L.length - q) c')) := by
  have hf : Frm (fun i => i = b) w (w3.setCell ⟨b, 1, none⟩ (.slice A' (L.length - q) c')) := (Frm.of_below hb).then (Frm.setCell (S := fun i => i = b) (p := ⟨b, 1, none⟩) rfl _)
  have hl := h.lt b h.bS
  refine ⟨v, L.take q, rfl, ?_, by rw [hq, List.map_take, hM], fun x hx => ?_, ⟨A', c', (L.drop q).take (L.length - q), h.cut hf ?_ (by rw [List.length_take, List.length_drop]; omega) hc hA, ?_⟩, ⟨hf.more fun i _ e => e ▸ h.bS, fun _ _ h => h, fun i hi => Nat.lt_of_lt_of_le (h.lt i hi) hf.size⟩, hf⟩
  · exact ownsRow_keep ho fun k e => Below.heap_setCell _ _ _ _ (by have := (World.ownsRow.lt ho k e).1; show k ≠ b; omega)
  · obtain ⟨h1, h2⟩ := h.st x (List.mem_of_mem_take hx)
    exact ⟨(h1.keep hf (S' := fun i => S i ∧ i ≠ b) (fun i hi e => hi.2 e) (fun _ _ h => h) (fun i hi => h.lt i hi.1)).v, h2⟩
  · rw [set_blk ((hb.block b hl).trans h.blk)]; rfl
  · rw [hq, ← hM, List.take_of_length_le (by rw [List.length_drop]; omega), List.map_drop]
set_option maxRecDepth 100000 in
set_option maxHeartbeats 8000000 in
theorem rrHalf_any {w : World} {S : Nat → Prop} {b R : Nat} {M : List TK} (h : RrV w S b R M) (hML : M.length ≤ 100) : Calls Try.prog 47 #[.pointer (some ⟨b, 0, none⟩)] w (RrHalf w S b R M) := by
  obtain ⟨A, c, L, h, hM⟩ := h
  have hl : L.length = M.length := by have := congrArg List.length hM; simpa using this
  obtain ⟨q, hq⟩ : ∃ q, (M.length + 1) / 2 = q := ⟨_, rfl⟩
  obtain ⟨n1, hn1⟩ : ∃ n1, L.length = n1 := ⟨_, rfl⟩
  have hblk := h.blk
  have hcap := h.cap
  have hbl := h.lt b h.bS
  have HH := Lib.hid (fun w3 v A' c' => h.half (w3 := w3) (v := v) (A' := A') (c' := c') hM hq)
  rw [hn1] at hblk hcap HH
  have hq1 : q ≤ n1 := by omega
  have hqc : q ≤ c := by omega
  have ht : (L.take q).length = q := by rw [List.length_take]; omega
  rw [ht] at HH
  obtain ⟨m, hm⟩ : ∃ m, n1 - q = m := ⟨_, rfl⟩
  rw [hm] at HH
  have ea : ((n1 : Int) + 1).tdiv 2 = (q : Int) := by
    have h2 : (n1 + 1) / 2 = q := by omega
    rw [← h2]; rfl
  have eb : ((n1 : Int) + 1) / 2 = (q : Int) := by omega
  have em : n1 - q = m := hm
  have hn100 : n1 ≤ 100 := by omega
  have c1 : w.cell? ⟨b, 1, none⟩ = some (.slice A n1 c) := cell_blk hblk 1
  have f1 := frozen_blk hblk 1
  rcases h.at' with ⟨rfl, rfl, hL⟩ | ⟨g, off, rfl, hg, hgb, hr⟩
  · have hn0 : n1 = 0 := by rw [← hn1, hL]; rfl
    subst hn0
    obtain rfl : q = 0 := by omega
    obtain rfl : m = 0 := by omega
    have HB0 : Hid (Below w.heap.size w w) := Lib.hid (Below.refl _ _)
    have HO0 : Hid (w.ownsRow w.heap.size 51 12 (.slice none 0 0) 0 (rowE slotA (L.take 0))) := Lib.hid (World.ownsRow_nil _ _ _ 12)
    clear h hM hl hq hn1 ht hm hL hblk ea eb em
    go_enter Try.func47, Try.ntmps47
    go_wp2_with fail
    go_ret
    exact HH.out w _ none 0 HB0.out HO0.out (Nat.le_refl _) (by simp)
  · have HCE : Hid (∀ j u, (rowE slotA (L.take q))[j]? = some u → w.cell? ((⟨g, off, none⟩ : Addr).add j) = some u) := Lib.hid (fun j u hu => by
      rw [take_rowE L q (by omega)] at hu
      have ea : (⟨g, off, none⟩ : Addr).add j = ⟨g, off + j, none⟩ := by unfold Addr.add; split <;> simp_all
      rw [ea]
      rw [List.getElem?_take] at hu
      split at hu
      · exact hr j u hu
      · cases hu)
    have HXL : Hid ((rowE slotA (L.take q)).length = q * 12) := Lib.hid (by rw [rowE_length slotA_size, ht])
    have HW1 : Hid (∀ u ∈ rowE slotA (L.take q), u.oneCell' = true) := Lib.hid (by
      intro u hu
      obtain ⟨x, hx, hu⟩ := List.mem_flatMap.1 hu
      obtain ⟨A, c, e, _⟩ := (h.st x (List.mem_of_mem_take hx)).1
      have h1 := task_ones (t := x.1) (s := x.2) (by rw [e]; rfl)
      rw [Array.all_eq_true'] at h1
      exact h1 u (show u ∈ taskA x.1 x.2 from Array.mem_toList_iff.1 hu))
    have HNIL : Hid (w.ownsRow w.heap.size 51 12 (.slice none 0 0) 0 []) := Lib.hid (World.ownsRow_nil _ _ _ 12)
    have hgl := h.lt g hg
    obtain ⟨i0, hi, hqq⟩ : ∃ i0, Try.prog.info? 51 = some i0 ∧ (i0.zero, i0.size, i0.bytes) = (some (.agg #[.int .i32 0, .int .i64 0, .int .i64 0, .slice none 0 0, .int .i32 0, .int .i32 0, .int .i32 0, .int .i32 0, .int .i64 0, .int .i64 0, .int .u32 0, .int .i64 0]), 12, 96) := by
      have hinf := inf_task
      cases hI : Try.prog.info? 51 with
      | none => rw [hI] at hinf; cases hinf
      | some i0 => rw [hI] at hinf; exact ⟨i0, rfl, by simpa using hinf⟩
    injection hqq with hq1' hq2'
    injection hq2' with hq2' hq3'
    have HI := Lib.hid hi; have HQ1 := Lib.hid hq1'; have HQ2 := Lib.hid hq2'; have HQ3 := Lib.hid hq3'
    have HBK := Lib.hid hblk
    have hmc : m ≤ c - q := by omega
    have HCQ : Hid (c = q → m = 0) := Lib.hid (by omega)
    clear h hM hl hq hn1 ht hr hg hgb hi hq1' hq2' hq3' hblk
    by_cases hcq : c = q
    · have HM0 := Lib.hid (HCQ.out hcq)
      subst hcq
      go_enter Try.func47, Try.ntmps47
      go_wp2_with (at_builtin; go_must (refine wpList_append_own _ rfl (.const (.slice none 0 0)) (.tmp 17) 55 rfl w.heap.size 51 i0 _ 12 96 Try.underlying55 HI.out HQ1.out HQ2.out HQ3.out rfl (by decide) _ 0 [] rfl HNIL.out ⟨g, off, none⟩ c c (rowE slotA (L.take c)) rfl HXL.out HCE.out HW1.out ?c1 ?c2 ?c3 ?_))
      case c1 => unfold maxLen; omega
      case c2 => omega
      all_goals try exact Nat.le_refl _
      intro v3 w3 ho3 hg3 _
      have B3 : Hid (Below w.heap.size w w3) := Lib.hid ((Below.refl _ _).grown hg3 (Nat.le_refl _) (fun k hk => by cases hk))
      have HO3 : Hid (w3.ownsRow w.heap.size 51 12 v3 c (rowE slotA (L.take c))) := Lib.hid (by simpa using ho3)
      have hb3 : w3.heap[b]? = some (.cells #[.int .i64 R, .slice (some ⟨g, off, none⟩) n1 c] 74 (0, 0)) := (B3.out.block b hbl).trans HBK.out
      have c3 : w3.cell? ⟨b, 1, none⟩ = some (.slice (some ⟨g, off, none⟩) n1 c) := cell_blk hb3 1
      have f3 := frozen_blk hb3 1
      clear ho3 hg3 hb3 c1 f1
      go_wp2_with fail
      go_ret
      exact HH.out w3 _ _ _ B3.out HO3.out (by omega) (.inr ⟨g, off, rfl, .inr ⟨HM0.out, rfl⟩⟩)
    · go_enter Try.func47, Try.ntmps47
      go_wp2_with (at_builtin; go_must (refine wpList_append_own _ rfl (.const (.slice none 0 0)) (.tmp 17) 55 rfl w.heap.size 51 i0 _ 12 96 Try.underlying55 HI.out HQ1.out HQ2.out HQ3.out rfl (by decide) _ 0 [] rfl HNIL.out ⟨g, off, none⟩ q c (rowE slotA (L.take q)) rfl HXL.out HCE.out HW1.out ?c1 ?c2 ?c3 ?_))
      case c1 => unfold maxLen; omega
      case c2 => omega
      all_goals try exact Nat.le_refl _
      intro v3 w3 ho3 hg3 _
      have B3 : Hid (Below w.heap.size w w3) := Lib.hid ((Below.refl _ _).grown hg3 (Nat.le_refl _) (fun k hk => by cases hk))
      have HO3 : Hid (w3.ownsRow w.heap.size 51 12 v3 q (rowE slotA (L.take q))) := Lib.hid (by simpa using ho3)
      have hb3 : w3.heap[b]? = some (.cells #[.int .i64 R, .slice (some ⟨g, off, none⟩) n1 c] 74 (0, 0)) := (B3.out.block b hbl).trans HBK.out
      have c3 : w3.cell? ⟨b, 1, none⟩ = some (.slice (some ⟨g, off, none⟩) n1 c) := cell_blk hb3 1
      have f3 := frozen_blk hb3 1
      clear ho3 hg3 hb3 c1 f1
      go_wp2_with fail
      go_ret
      exact HH.out w3 _ _ _ B3.out HO3.out (by omega) (.inr ⟨g, off, rfl, .inl rfl⟩)

/-- What Push of the reference does. -/
def RrPush (w : World) (S T : Nat → Prop) (b R : Nat) (M : List TK) (t : TK) (e : Ending) (w' : World) : Prop :=
  ∃ S', e = .returned (.bool (decide (M.length < R))) ∧ RrV w' S' b R (if M.length < R then M ++ [t] else M) ∧ Stp (fun i => S i ∨ T i) S' w w' ∧ Frm (fun i => i = b) w w'
theorem RrK.push {w wQ : World} {S T : Nat → Prop} {b R c : Nat} {A : Option Addr} {L : List SlotX} {t : TK} {s vQ : Value} (h : RrK w S b R A c L) (hs : StkV w T (t, s)) (hT : ∀ i, T i → i < w.heap.size ∧ i ≠ b) (hn : t.st.length ≤ 1000) (hR : L.length < R) (hb : Below w.heap.size w wQ)
    (oQ : wQ.ownsRow w.heap.size 51 12 vQ (L.length + 1) (rowE slotA L ++ (taskA t s).toList)) : RrPush w S T b R (L.map Prod.fst) t (.returned (.bool true)) (wQ.setCell ⟨b, 1, none⟩ vQ) := by
  have hf : Frm (fun i => i = b) w (wQ.setCell ⟨b, 1, none⟩ vQ) := (Frm.of_below hb).then (Frm.setCell (S := fun i => i = b) (p := ⟨b, 1, none⟩) rfl _)
  have hl := h.lt b h.bS
  have hlen : (L.map Prod.fst).length < R := by rw [List.length_map]; exact hR
  have hq := World.ownsRow.lt oQ
  have o2 : OwnT wQ w.heap.size vQ (L ++ [(t, s)]) := OwnT.snoc rfl oQ
  have o3 : OwnT (wQ.setCell ⟨b, 1, none⟩ vQ) w.heap.size vQ (L ++ [(t, s)]) := ownsRow_keep o2 fun k e => Below.heap_setCell _ _ _ _ (by have := (hq k e).1; show k ≠ b; omega)
  obtain ⟨gq, cq, hv⟩ := own_succ oQ
  have hgq : w.heap.size ≤ gq ∧ gq < wQ.heap.size := hq gq (by rw [hv]; rfl)
  have hsz : (wQ.setCell ⟨b, 1, none⟩ vQ).heap.size = wQ.heap.size := by simp [World.setCell]
  refine ⟨fun i => S i ∨ T i ∨ i = gq, by rw [decide_eq_true hlen], ?_, ⟨hf.more fun i _ e => .inl (e ▸ h.bS), fun i hi e => ?_, fun i hi => ?_⟩, hf⟩
  · rw [if_pos hlen]
    refine ⟨some ⟨gq, 0, none⟩, cq, L ++ [(t, s)], ⟨?_, ?_, .inr ⟨gq, 0, rfl, .inr (.inr rfl), by omega, fun i u hu => ?_⟩, fun x hx => ?_, .inl h.bS, fun i hi => ?_⟩, by simp⟩
    · rw [set_blk ((hb.block b hl).trans h.blk), hv, List.length_append]; rfl
    · rcases oQ.2 with ⟨h1, h2⟩ | ⟨g2, cap, cur, e, _, _, h3, _⟩
      · omega
      · rw [hv] at e; injection e with _ _ e; rw [List.length_append, e]; simpa using h3
    · have h2 := o3.cells (g := gq) (by rw [hv]; rfl) _ _ hu
      have ea : (⟨gq, 0, none⟩ : Addr).add i = ⟨gq, 0 + i, none⟩ := by unfold Addr.add; split <;> simp_all
      rwa [ea] at h2
    · rw [List.mem_append, List.mem_singleton] at hx
      rcases hx with hx | rfl
      · obtain ⟨h1, h2⟩ := h.st x hx
        exact ⟨h1.keep hf (fun i hi e => hi.2 e) (fun i _ hi => ⟨.inl hi.1, hi.2⟩) (fun i hi => h.lt i hi.1), h2⟩
      · exact ⟨hs.keep hf (fun i hi e => (hT i hi).2 e) (fun i _ hi => ⟨.inr (.inl hi), (hT i hi).2⟩) (fun i hi => (hT i hi).1), hn⟩
    · rw [hsz]
      rcases hi with hi | hi | rfl
      · have := h.lt i hi; have := hb.size; omega
      · have := (hT i hi).1; have := hb.size; omega
      · exact hgq.2
  · rcases e with e | e | rfl
    · exact .inl e
    · exact .inr e
    · omega
  · rw [hsz]
    rcases hi with hi | hi | rfl
    · have := h.lt i hi; have := hb.size; omega
    · have := (hT i hi).1; have := hb.size; omega
    · exact hgq.2

def RrNo (w : World) (e : Ending) (w' : World) : Prop := e = .returned (.tuple #[taskV zT nilV, .bool false]) ∧ Below w.heap.size w w'
set_option maxRecDepth 100000 in
theorem rrPop_no {w : World} {S : Nat → Prop} {b R : Nat} (h : RrV w S b R []) : Calls Try.prog 42 #[.pointer (some ⟨b, 0, none⟩)] w (RrNo w) := by
  obtain ⟨A, c, L, h, hM⟩ := h
  have hL : L = [] := List.map_eq_nil_iff.1 hM
  subst hL
  have c1 : w.cell? ⟨b, 1, none⟩ = some (.slice A 0 c) := cell_blk h.blk 1
  have hbl := h.lt b h.bS
  obtain ⟨w1, hw1⟩ : ∃ x, x = w.alloc (.cells #[.int .i32 0, .int .i64 0, .int .i64 0, .slice none 0 0, .int .i32 0, .int .i32 0, .int .i32 0, .int .i32 0, .int .i64 0, .int .i64 0, .int .u32 0, .int .i64 0] 51) := ⟨_, rfl⟩
  have B1 : Hid (Below w.heap.size w w1) := Lib.hid (by rw [hw1]; exact below_alloc w _)
  have HZ1 : Hid (w1.heap[w.heap.size]? = some (.cells (taskA zT nilV) 51 (0, 0))) := Lib.hid (by rw [hw1]; exact heap_alloc_new w _)
  have d1 : w1.cell? ⟨b, 1, none⟩ = some (.slice A 0 c) := (B1.out.cell (p := ⟨b, 1, none⟩) hbl).trans c1
  have HW1 := Lib.hid hw1
  clear hw1 h hM c1
  go_enter Try.func42, Try.ntmps42
  go_upto_region 1 with (fail)
  rw [show w.alloc (.cells #[.int .i32 0, .int .i64 0, .int .i64 0, .slice none 0 0, .int .i32 0, .int .i32 0, .int .i32 0, .int .i32 0, .int .i64 0, .int .i64 0, .int .u32 0, .int .i64 0] 51) = w1 from HW1.out.symm]
  go_wp2_with (first | (refine store_task rfl _ _ rfl rfl w.heap.size zT nilV rfl rfl _ _ _ HZ1.out rfl ?_) | fail)
  exact ret_task_bool (u := zT) (s := nilV) rfl rfl rfl rfl (row_at HZ1.out _) ⟨rfl, B1.out.trans (row_below (Nat.le_refl _))⟩
set_option maxRecDepth 100000 in
theorem rrSteal_no {w : World} {S : Nat → Prop} {b R : Nat} (h : RrV w S b R []) : Calls Try.prog 44 #[.pointer (some ⟨b, 0, none⟩)] w (RrNo w) := by
  obtain ⟨A, c, L, h, hM⟩ := h
  have hL : L = [] := List.map_eq_nil_iff.1 hM
  subst hL
  have c1 : w.cell? ⟨b, 1, none⟩ = some (.slice A 0 c) := cell_blk h.blk 1
  have hbl := h.lt b h.bS
  obtain ⟨w1, hw1⟩ : ∃ x, x = w.alloc (.cells #[.int .i32 0, .int .i64 0, .int .i64 0, .slice none 0 0, .int .i32 0, .int .i32 0, .int .i32 0, .int .i32 0, .int .i64 0, .int .i64 0, .int .u32 0, .int .i64 0] 51) := ⟨_, rfl⟩
  have B1 : Hid (Below w.heap.size w w1) := Lib.hid (by rw [hw1]; exact below_alloc w _)
  have HZ1 : Hid (w1.heap[w.heap.size]? = some (.cells (taskA zT nilV) 51 (0, 0))) := Lib.hid (by rw [hw1]; exact heap_alloc_new w _)
  have d1 : w1.cell? ⟨b, 1, none⟩ = some (.slice A 0 c) := (B1.out.cell (p := ⟨b, 1, none⟩) hbl).trans c1
  have HW1 := Lib.hid hw1
  clear hw1 h hM c1
  go_enter Try.func44, Try.ntmps44
  go_upto_region 1 with (fail)
  rw [show w.alloc (.cells #[.int .i32 0, .int .i64 0, .int .i64 0, .slice none 0 0, .int .i32 0, .int .i32 0, .int .i32 0, .int .i32 0, .int .i64 0, .int .i64 0, .int .u32 0, .int .i64 0] 51) = w1 from HW1.out.symm]
  go_wp2_with (first | (refine store_task rfl _ _ rfl rfl w.heap.size zT nilV rfl rfl _ _ _ HZ1.out rfl ?_) | fail)
  exact ret_task_bool (u := zT) (s := nilV) rfl rfl rfl rfl (row_at HZ1.out _) ⟨rfl, B1.out.trans (row_below (Nat.le_refl _))⟩

end Go.Proofs.Ytlmbjnegajiphaa
