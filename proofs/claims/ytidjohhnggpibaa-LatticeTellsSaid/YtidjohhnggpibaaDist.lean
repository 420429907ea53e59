/- The different labels of a list, in the order in which they first occur; what flows to all of a list. -/
import Derived.Test.YtidjohhnggpibaaHas
namespace Go.Proofs.Ytidjohhnggpibaa
open Go.RowKit

def nats (l : List Nat) : List Int := l.map fun n : Nat => (n : Int)
theorem nats_length (l : List Nat) : (nats l).length = l.length := by simp [nats]
theorem nats_get {l : List Nat} {k : Nat} (h : k < (nats l).length) : (nats l)[k] = ((l[k]'(by simpa [nats] using h) : Nat) : Int) := by simp [nats]
theorem nats_append (l m : List Nat) : nats (l ++ m) = nats l ++ nats m := by simp [nats]
theorem nats_of {n : Nat} : ∀ {l : List Int}, l.all (okL n) = true → ∃ ns, l = nats ns ∧ ∀ x ∈ ns, x < n
  | [], _ => ⟨[], rfl, by simp⟩
  | x :: l, h => by
    rw [List.all_cons, Bool.and_eq_true] at h
    obtain ⟨ns, rfl, hn⟩ := nats_of h.2
    have := okL_iff.1 h.1
    refine ⟨x.toNat :: ns, ?_, fun y hy => ?_⟩
    · simp [nats]; omega
    · rcases List.mem_cons.1 hy with rfl | hy
      · omega
      · exact hn y hy
theorem nats_ok {n : Nat} {ns : List Nat} (h : ∀ x ∈ ns, x < n) : (nats ns).all (okL n) = true := by
  simp only [nats, List.all_map, List.all_eq_true]
  intro x hx
  have := h x hx
  simp [okL]; omega

def dedup (l : List Nat) : List Nat := l.foldl (fun acc x => if x ∈ acc then acc else acc ++ [x]) []
theorem dedup_snoc (l : List Nat) (x : Nat) : dedup (l ++ [x]) = if x ∈ dedup l then dedup l else dedup l ++ [x] := by unfold dedup; rw [List.foldl_append]; rfl
theorem snoc_ind {α : Type} {p : List α → Prop} (h0 : p []) (h1 : ∀ l x, p l → p (l ++ [x])) : ∀ l, p l := fun l => by
  have h : ∀ k, k ≤ l.length → p (l.take k) := by
    intro k
    induction k with
    | zero => intro _; simpa using h0
    | succ k ih =>
      intro hk
      rw [List.take_succ_eq_append_getElem (by omega)]
      exact h1 _ _ (ih (by omega))
  have := h l.length (Nat.le_refl _)
  rwa [List.take_length] at this
theorem mem_dedup (l : List Nat) : ∀ x, x ∈ dedup l ↔ x ∈ l := by
  refine snoc_ind (p := fun l => ∀ x, x ∈ dedup l ↔ x ∈ l) (by simp [dedup]) ?_ l
  intro l y ih x
  rw [dedup_snoc]
  split
  · rename_i h
    rw [ih x]
    simp only [List.mem_append, List.mem_singleton]
    exact ⟨.inl, fun h2 => h2.elim id (fun e => e ▸ (ih y).1 h)⟩
  · simp [ih x]
theorem dedup_length (l : List Nat) : (dedup l).length ≤ l.length := by
  refine snoc_ind (p := fun l => (dedup l).length ≤ l.length) (by simp [dedup]) ?_ l
  intro l y ih
  rw [dedup_snoc]
  split
  · simp; omega
  · simp; omega
theorem find_dedup (p : Nat → Bool) (l : List Nat) : (dedup l).find? p = l.find? p := by
  refine snoc_ind (p := fun l => (dedup l).find? p = l.find? p) (by simp [dedup]) ?_ l
  intro l y ih
  rw [dedup_snoc]
  split
  · rename_i h
    rw [List.find?_append, ← ih]
    cases hf : (dedup l).find? p with
    | some z => rfl
    | none =>
      have := List.find?_eq_none.1 hf y h
      simp [this]
  · rw [List.find?_append, List.find?_append, ih]
theorem all_dedup (p : Nat → Bool) (l : List Nat) : (dedup l).all p = l.all p := by
  rw [Bool.eq_iff_iff, List.all_eq_true, List.all_eq_true]
  exact ⟨fun h x hx => h x ((mem_dedup l x).2 hx), fun h x hx => h x ((mem_dedup l x).1 hx)⟩

/-- The first element of l from which (or to which) all go. -/
def firstZ (Z : Nat → Nat → Bool) (l : List Nat) : Option Nat := l.find? fun a => l.all fun b => Z a b
theorem first_dedup (Z : Nat → Nat → Bool) (l : List Nat) : firstZ Z (dedup l) = firstZ Z l := by
  unfold firstZ
  rw [find_dedup]
  congr 1
  funext a
  exact all_dedup _ l

theorem lie_nat {w : World} {B : Nat} {A : Option Addr} {l : List Nat} (h : Lies w B A (i64s (nats l))) {k : Nat} (hk : k < l.length) :
    ∃ b off, A = some ⟨b, off, none⟩ ∧ b < B ∧ w.cell? ⟨b, off + k, none⟩ = some (.int .i64 (l[k] : Nat)) := by
  obtain ⟨b, off, e, hb, hc⟩ := lie_int h (k := k) (by simpa [nats] using hk)
  exact ⟨b, off, e, hb, by rw [hc, nats_get]⟩

/-- That cs says of each label whether it has occurred. -/
def Seen (cs : Array Value) (l : List Nat) : Prop := cs.size = 16 ∧ ∀ i, i < 16 → cs[i]? = some (.bool (decide (i ∈ l)))
theorem Seen.mark {cs : Array Value} {l : List Nat} {x : Nat} (h : Seen cs l) : Seen (cs.setIfInBounds x (.bool true)) (l ++ [x]) := by
  refine ⟨by simp [h.1], fun i hi => ?_⟩
  rw [Array.getElem?_setIfInBounds]
  by_cases e : x = i
  · subst e; simp [h.1, hi]
  · rw [if_neg e, h.2 i hi]
    have : ¬ i = x := fun h => e h.symm
    simp [this]
theorem Seen.same {cs : Array Value} {l : List Nat} {x : Nat} (h : Seen cs l) (hx : x ∈ l) : Seen cs (l ++ [x]) := by
  refine ⟨h.1, fun i hi => ?_⟩
  rw [h.2 i hi]
  have : (i ∈ l) = (i ∈ l ++ [x]) := by
    simp only [List.mem_append, List.mem_singleton, eq_iff_iff]
    exact ⟨.inl, fun h => h.elim id (fun e => e ▸ hx)⟩
  rw [decide_eq_decide.2 (eq_iff_iff.1 this)]
theorem dedup_new {l : List Nat} {k : Nat} (hk : k < l.length) (h : ¬ l[k] ∈ l.take k) : dedup (l.take (k + 1)) = dedup (l.take k) ++ [l[k]] := by
  rw [List.take_succ_eq_append_getElem hk, dedup_snoc, if_neg]
  rwa [mem_dedup]
theorem dedup_old {l : List Nat} {k : Nat} (hk : k < l.length) (h : l[k] ∈ l.take k) : dedup (l.take (k + 1)) = dedup (l.take k) := by
  rw [List.take_succ_eq_append_getElem hk, dedup_snoc, if_pos]
  rwa [mem_dedup]

set_option maxHeartbeats 1000000 in
theorem dist_any {lv : Value} {l : List Nat} (w : World) (hl : IntsV w w.heap.size lv (nats l)) (hx : ∀ x ∈ l, x < 16) (hm : l.length ≤ 1000) :
    Calls Try.prog 61 #[lv] w fun e w' => ∃ v', e = .returned v' ∧ IntsV w' w'.heap.size v' (nats (dedup l)) ∧ Below w.heap.size w w' := by
  obtain ⟨A, c, rfl, hl⟩ := hl
  rw [nats_length]
  have HL := Lib.hid hl; clear hl
  have HX := Lib.hid hx; clear hx
  generalize hml : l.length = m at *
  have HM := Lib.hid hml; clear hml
  go_enter Try.func61, Try.ntmps61
  go_wp2_with fail
  obtain ⟨W, hW⟩ : ∃ W, W = w.alloc (.cells #[Value.bool false, Value.bool false, Value.bool false, Value.bool false, Value.bool false, Value.bool false, Value.bool false, Value.bool false, Value.bool false, Value.bool false, Value.bool false, Value.bool false, Value.bool false, Value.bool false, Value.bool false, Value.bool false] 69) := ⟨_, rfl⟩
  have hsW : W.heap.size = w.heap.size + 1 := by rw [hW, World.size_alloc]
  have hbW : Below w.heap.size w W := by rw [hW]; exact below_alloc _ _
  have hbk : ∃ cs, Seen cs [] ∧ W.heap[w.heap.size]? = some (.cells cs 69 (0, 0)) := by
    refine ⟨_, ⟨?_, ?_⟩, by rw [hW]; exact heap_alloc_new w _⟩
    · rfl
    · intro i hi
      have h16 : i = 0 ∨ i = 1 ∨ i = 2 ∨ i = 3 ∨ i = 4 ∨ i = 5 ∨ i = 6 ∨ i = 7 ∨ i = 8 ∨ i = 9 ∨ i = 10 ∨ i = 11 ∨ i = 12 ∨ i = 13 ∨ i = 14 ∨ i = 15 := by omega
      rcases h16 with rfl | rfl | rfl | rfl | rfl | rfl | rfl | rfl | rfl | rfl | rfl | rfl | rfl | rfl | rfl | rfl <;> rfl
  rw [← hW]
  have HB0 := Lib.hid hbW
  have HK0 := Lib.hid hbk
  generalize hB : w.heap.size = B at *
  clear hbW hbk hW
  have HQ := Lib.hid hB; clear hB
  have HS := Lib.hid hsW; clear hsW
  go_loopw [4, 9] (fun vo i wr => ∃ (k n : Nat) (cs : Array Value), k ≤ m ∧ i = .int .i64 k ∧ n ≤ k ∧ n = (dedup (l.take k)).length ∧ wr.ownsRow (B + 1) 3 1 vo n (i64s (nats (dedup (l.take k)))) ∧ Seen cs (l.take k) ∧ wr.heap[B]? = some (.cells cs 69 (0, 0)) ∧ B + 1 ≤ wr.heap.size ∧ Below B w wr) (fun _ i _ => m - (intOf i).toNat)
  case atStart =>
    obtain ⟨cs, h1, h2⟩ := HK0.out
    exact ⟨0, 0, cs, by omega, rfl, Nat.le_refl _, rfl, World.ownsRow_nil _ _ _ _, h1, h2, by rw [HS.out]; omega, HB0.out⟩
  case round =>
    clear HK0 HB0 HS
    obtain ⟨k, n, cs, hk, rfl, hnk, hn, ho, hseen, hblk, hsz, hb⟩ := hrel
    have HO := Lib.hid ho; clear ho
    have HSE := Lib.hid hseen; clear hseen
    have HBK := Lib.hid hblk; clear hblk
    have HBE := Lib.hid hb; clear hb
    have HNL := Lib.hid hn; clear hn
    by_cases hlt : k < m
    · have hkl : k < l.length := by rw [HM.out]; exact hlt
      obtain ⟨b, off, rfl, hbB, hc⟩ := lie_nat HL.out hkl
      have hne : ¬ b = B := by omega
      have c1 : wr.cell? ⟨b, off + k, none⟩ = some (.int .i64 (l[k] : Nat)) := by rw [HBE.out.cell (p := ⟨b, off + k, none⟩) hbB]; exact hc
      clear hc
      have hx16 := HX.out l[k] (List.getElem_mem hkl)
      have c2 : wr.cell? ⟨B, l[k], none⟩ = some (.bool (decide (l[k] ∈ l.take k))) := by rw [cell_blk HBK.out]; exact HSE.out.2 _ hx16
      have hfz : wr.frozen? ⟨B, l[k], none⟩ = false := frozen_blk HBK.out _
      have HTA := Lib.hid (show l.take (k + 1) = l.take k ++ [l[k]] from List.take_succ_eq_append_getElem hkl)
      by_cases hin : l[k] ∈ l.take k
      · have HD := Lib.hid (dedup_old hkl hin)
        have HS2 := Lib.hid (HSE.out.same hin)
        rw [decide_eq_true hin] at c2
        clear hin
        generalize hx : l[k] = x at *
        clear hx
        go_wp2_with fail
        go_roundw
        case rel => exact ⟨k + 1, n, cs, by omega, by go_num, by omega, by rw [HD.out]; exact HNL.out, by rw [HD.out]; exact HO.out, by rw [HTA.out]; exact HS2.out, HBK.out, hsz, HBE.out⟩
        case measure => simp [intOf]; omega
      · have HD := Lib.hid (dedup_new hkl hin)
        have HS2 := Lib.hid (HSE.out.mark (x := l[k]))
        rw [decide_eq_false hin] at c2
        clear hin
        generalize hx : l[k] = x at *
        clear hx
        have hown2 := (ownsRow_setCell_below HO.out (a := ⟨B, x, none⟩) (Nat.lt_succ_self B) (.bool true)).alloc (.cells #[.int .i64 x] 3)
        have HO2 := Lib.hid hown2; clear hown2
        go_wp2_with (at_builtin; go_must (refine wpList_append_L 41 3 _ 8 Try.underlying41 inf_int rfl rfl _ _ rfl (B + 1) _ _ _ rfl HO2.out (wr.heap.size + 1) _ 1 1 [.int .i64 x] rfl rfl ?c1 ?c2 ?c3 ?c4 ?c5 ?_))
        case c1 => have := lies_new (wr.setCell ⟨B, x, none⟩ (.bool true)) [.int .i64 x] 3; simpa using this
        case c2 => intro u hu; simp at hu; subst hu; rfl
        case c3 => omega
        case c4 => omega
        case c5 => simp; omega
        intro v3 w3 ho3 hg3 hb3
        have HO3 := Lib.hid ho3; clear ho3
        have hbl : Below B w w3 := ((HBE.out.setCell (p := ⟨B, x, none⟩) (Nat.le_refl _) (.bool true)).alloc (by simp; omega) (.cells #[.int .i64 x] 3)).trans (hb3.mono (Nat.le_succ _))
        have HB3 := Lib.hid hbl; clear hbl
        have hsz3 : B + 1 ≤ w3.heap.size := by have := hb3.size; simp at this; omega
        have hbk3 : w3.heap[B]? = some (.cells (cs.setIfInBounds x (.bool true)) 69 (0, 0)) := by
          rw [hb3.block B (Nat.lt_succ_self B), Below.heap_alloc _ _ B (by simp; omega)]
          exact set_blk HBK.out x _
        have HB4 := Lib.hid hbk3; clear hbk3 hg3 hb3
        go_wp2_with fail
        go_roundw
        case rel => exact ⟨k + 1, n + 1, _, by omega, by go_num, by omega, by rw [HD.out, List.length_append, ← HNL.out]; rfl, by rw [HD.out, nats_append]; simpa [i64s, nats] using HO3.out, by rw [HTA.out]; exact HS2.out, HB4.out, hsz3, HB3.out⟩
        case measure => simp [intOf]; omega
    · obtain rfl : k = m := by omega
      go_wp2_with fail
      go_ret
      refine ⟨_, rfl, ?_, by rw [HQ.out]; exact HBE.out⟩
      obtain ⟨A3, c3, rfl, _, _, _, hl3, _⟩ := Lies.of_own HO.out
      have hall : l.take k = l := by rw [← HM.out, List.take_length]
      rw [hall] at hl3
      refine ⟨A3, c3, ?_, hl3⟩
      show Value.slice A3 n c3 = _
      rw [nats_length, HNL.out, hall]

end Go.Proofs.Ytidjohhnggpibaa
