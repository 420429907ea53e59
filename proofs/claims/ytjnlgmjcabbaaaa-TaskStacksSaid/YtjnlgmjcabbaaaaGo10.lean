/- What an instruction does, as a plain function; the table of actions; the walk of Step. (Drawn: gen/s10.py; written by gen/mkstep.py.) -/
import Derived.Test.YtjnlgmjcabbaaaaStep10
namespace Go.Proofs.Ytjnlgmjcabbaaaa
set_option maxRecDepth 100000
open Go.RowKit

def fZ (op : Int) (a b : Int) : Int := if op = 4 then addZ a b else if op = 5 then subZ a b else if op = 6 then mulZ a b else if op = 8 then truthZ (decide (a < b)) else truthZ (a == b)
/-- What an instruction that may be carried out makes of a task: the task, the outcome's kind, value, code. -/
def doZ (t : TK) (op x : Int) : TK × Int × Int × Int :=
  if op = 1 then (wentZ t op [x], 1, 0, 0) else if op = 2 then (wentZ t op [], 1, 0, 0) else
  if op = 3 then (wentZ t op [topZ t.st 0, topZ t.st 0], 1, 0, 0) else
  if op = 7 then (if topZ t.st 0 = 0 then (t, 3, 0, 32) else (wentZ t op [divZ (topZ t.st 1) (topZ t.st 0)], 1, 0, 0)) else
  if op = 4 ∨ op = 5 ∨ op = 6 ∨ op = 8 ∨ op = 9 then (wentZ t op [fZ op (topZ t.st 1) (topZ t.st 0)], 1, 0, 0) else
  if op = 10 then ({ wentZ t op [] with pc := x }, 1, 0, 0) else
  if op = 11 then ((if topZ t.st 0 = 0 then { wentZ t op [] with pc := x } else wentZ t op []), 1, 0, 0) else
  if op = 12 then (wentZ t op [varZ t x.toNat], 1, 0, 0) else
  if op = 13 then (setVar (wentZ t op []) x.toNat (topZ t.st 0), 1, 0, 0) else
  if op = 14 then (wentZ t op [wrap32 t.lb], 1, 0, 0) else
  if op = 25 then (t, 2, topZ t.st 0, 0) else if op = 26 then (t, 3, 0, x) else (t, 4, 0, 0)
def stepZ (t : TK) (I : List CodeL) : TK × Int × Int × Int :=
  if (curZ I t.fn t.pc).2 = true ∧ rightS t.st.length (curZ I t.fn t.pc).1.1 (curZ I t.fn t.pc).1.2 = true then doZ t (curZ I t.fn t.pc).1.1 (curZ I t.fn t.pc).1.2 else (t, 3, 0, 24)

/-- The functions of the instructions. -/
def actsA : Array Value := #[.nilFunc, .func (.func 90) #[] #[], .func (.func 91) #[] #[], .func (.func 92) #[] #[], .func (.func 93) #[] #[], .func (.func 93) #[] #[], .func (.func 93) #[] #[], .func (.func 94) #[] #[], .func (.func 93) #[] #[], .func (.func 93) #[] #[], .func (.func 95) #[] #[], .func (.func 96) #[] #[], .func (.func 97) #[] #[], .func (.func 98) #[] #[], .func (.func 99) #[] #[], .nilFunc, .nilFunc, .nilFunc, .nilFunc, .nilFunc, .nilFunc, .nilFunc, .nilFunc, .nilFunc, .nilFunc, .func (.func 100) #[] #[], .func (.func 101) #[] #[]]
def actsV : Value := .agg actsA
theorem actsA_ones : actsA.all (·.oneCell') = true := by kernel_rfl
theorem info_actsA : (Try.prog.info? 112).map (·.size) = some 27 := by kernel_rfl
set_option maxRecDepth 100000 in
set_option maxHeartbeats 8000000 in
theorem actions_any (w : World) : Calls Try.prog 67 #[] w fun e w' => e = .returned actsV ∧ Below w.heap.size w w' := by
  go_enter Try.func67, Try.ntmps67
  go_wp2_with (first | (refine wpList_store_row rfl _ _ _ rfl w.heap.size actsA rfl rfl _ _ (heap_alloc_new w _) info_actsA rfl actsA_ones ?_) | fail)
  exact bodyPost_ret (results_cell_row rfl _ _ w.heap.size _ actsA _ _ rfl (row_at (heap_alloc_new w _) _) Try.underlying112 rfl info_actsA) rfl ⟨rfl, (below_alloc w _).trans (row_below (Nat.le_refl _))⟩

/-- What stands in the table, and what it does. -/
def ActOk (t : TK) (op x : Int) : Prop :=
  (doZ t op x = (t, 4, 0, 0) ∧ ∀ w, Sem.run Try.prog (Instr.index 112 actsV (.int .i64 op)) w = .ok .nilFunc w) ∨
  ∃ F : FuncId, (∀ w, Sem.run Try.prog (Instr.index 112 actsV (.int .i64 op)) w = .ok (.func (.func F) #[] #[]) w) ∧
    (∀ s w, I32V w w.heap.size s t.st → Calls Try.prog F #[stV t s op x] w (TO w (doZ t op x).1 (doZ t op x).2.1 (doZ t op x).2.2.1 (doZ t op x).2.2.2)) ∧ ∀ xs w, (callFunc F xs).run Try.prog w = .ok (.enter F xs) w

theorem right_pops {n : Nat} {op x : Int} {k : Nat} (h : rightS n op x = true) (hk : popsZ op = k) : k ≤ n := by
  unfold rightS at h
  rw [Bool.and_eq_true, decide_eq_true_eq, hk] at h
  omega
theorem right_local {n : Nat} {op x : Int} (h : rightS n op x = true) (hk : argZ op = 3) : ∃ i : Nat, x = i ∧ i < 4 := by
  unfold rightS hasB at h
  rw [Bool.and_eq_true, hk] at h
  have h1 : 0 ≤ x ∧ x < 4 := by simpa using h.1
  exact ⟨x.toNat, by omega, by omega⟩
set_option maxRecDepth 100000 in
set_option maxHeartbeats 4000000 in
theorem act1 (t : TK) (x : Int) (hn : t.st.length ≤ 100000) (_hx : -2147483648 ≤ x ∧ x ≤ 2147483647) (_hr : ∀ y ∈ t.st, -2147483648 ≤ y ∧ y ≤ 2147483647) (_hp : rightS t.st.length 1 x = true) : ActOk t 1 x := by
  refine .inr ⟨90, fun w => by kernel_rfl, fun s w hs => ?_, fun xs w => Try.call90 xs w⟩
  exact pushM t s 1 x w hs hn
set_option maxRecDepth 100000 in
set_option maxHeartbeats 4000000 in
theorem act2 (t : TK) (x : Int) (hn : t.st.length ≤ 100000) (_hx : -2147483648 ≤ x ∧ x ≤ 2147483647) (_hr : ∀ y ∈ t.st, -2147483648 ≤ y ∧ y ≤ 2147483647) (_hp : rightS t.st.length 2 x = true) : ActOk t 2 x := by
  refine .inr ⟨91, fun w => by kernel_rfl, fun s w hs => ?_, fun xs w => Try.call91 xs w⟩
  exact popM t s 2 x w hs hn
set_option maxRecDepth 100000 in
set_option maxHeartbeats 4000000 in
theorem act3 (t : TK) (x : Int) (hn : t.st.length ≤ 100000) (_hx : -2147483648 ≤ x ∧ x ≤ 2147483647) (_hr : ∀ y ∈ t.st, -2147483648 ≤ y ∧ y ≤ 2147483647) (hp : rightS t.st.length 3 x = true) : ActOk t 3 x := by
  have h0 : 1 ≤ t.st.length := right_pops hp (by decide)
  refine .inr ⟨92, fun w => by kernel_rfl, fun s w hs => ?_, fun xs w => Try.call92 xs w⟩
  exact dupM t s 3 x (by omega) w hs hn
set_option maxRecDepth 100000 in
set_option maxHeartbeats 4000000 in
theorem act4 (t : TK) (x : Int) (hn : t.st.length ≤ 100000) (_hx : -2147483648 ≤ x ∧ x ≤ 2147483647) (_hr : ∀ y ∈ t.st, -2147483648 ≤ y ∧ y ≤ 2147483647) (hp : rightS t.st.length 4 x = true) : ActOk t 4 x := by
  have h0 : 2 ≤ t.st.length := right_pops hp (by decide)
  refine .inr ⟨93, fun w => by kernel_rfl, fun s w hs => ?_, fun xs w => Try.call93 xs w⟩
  exact computeM t s 4 x 31 _ _ _ (by omega) rfl rfl (fun w => by kernel_rfl) (fun w => add_any _ _ w) (fun xs w => Try.call31 xs w) w hs hn
set_option maxRecDepth 100000 in
set_option maxHeartbeats 4000000 in
theorem act5 (t : TK) (x : Int) (hn : t.st.length ≤ 100000) (_hx : -2147483648 ≤ x ∧ x ≤ 2147483647) (_hr : ∀ y ∈ t.st, -2147483648 ≤ y ∧ y ≤ 2147483647) (hp : rightS t.st.length 5 x = true) : ActOk t 5 x := by
  have h0 : 2 ≤ t.st.length := right_pops hp (by decide)
  refine .inr ⟨93, fun w => by kernel_rfl, fun s w hs => ?_, fun xs w => Try.call93 xs w⟩
  exact computeM t s 5 x 32 _ _ _ (by omega) rfl rfl (fun w => by kernel_rfl) (fun w => sub_any _ _ w) (fun xs w => Try.call32 xs w) w hs hn
set_option maxRecDepth 100000 in
set_option maxHeartbeats 4000000 in
theorem act6 (t : TK) (x : Int) (hn : t.st.length ≤ 100000) (_hx : -2147483648 ≤ x ∧ x ≤ 2147483647) (_hr : ∀ y ∈ t.st, -2147483648 ≤ y ∧ y ≤ 2147483647) (hp : rightS t.st.length 6 x = true) : ActOk t 6 x := by
  have h0 : 2 ≤ t.st.length := right_pops hp (by decide)
  refine .inr ⟨93, fun w => by kernel_rfl, fun s w hs => ?_, fun xs w => Try.call93 xs w⟩
  exact computeM t s 6 x 33 _ _ _ (by omega) rfl rfl (fun w => by kernel_rfl) (fun w => mul_any _ _ w) (fun xs w => Try.call33 xs w) w hs hn
set_option maxRecDepth 100000 in
set_option maxHeartbeats 4000000 in
theorem act8 (t : TK) (x : Int) (hn : t.st.length ≤ 100000) (_hx : -2147483648 ≤ x ∧ x ≤ 2147483647) (_hr : ∀ y ∈ t.st, -2147483648 ≤ y ∧ y ≤ 2147483647) (hp : rightS t.st.length 8 x = true) : ActOk t 8 x := by
  have h0 : 2 ≤ t.st.length := right_pops hp (by decide)
  refine .inr ⟨93, fun w => by kernel_rfl, fun s w hs => ?_, fun xs w => Try.call93 xs w⟩
  exact computeM t s 8 x 34 _ _ _ (by omega) rfl rfl (fun w => by kernel_rfl) (fun w => less_any _ _ w) (fun xs w => Try.call34 xs w) w hs hn
set_option maxRecDepth 100000 in
set_option maxHeartbeats 4000000 in
theorem act9 (t : TK) (x : Int) (hn : t.st.length ≤ 100000) (_hx : -2147483648 ≤ x ∧ x ≤ 2147483647) (_hr : ∀ y ∈ t.st, -2147483648 ≤ y ∧ y ≤ 2147483647) (hp : rightS t.st.length 9 x = true) : ActOk t 9 x := by
  have h0 : 2 ≤ t.st.length := right_pops hp (by decide)
  refine .inr ⟨93, fun w => by kernel_rfl, fun s w hs => ?_, fun xs w => Try.call93 xs w⟩
  exact computeM t s 9 x 36 _ _ _ (by omega) rfl rfl (fun w => by kernel_rfl) (fun w => eq_any _ _ w) (fun xs w => Try.call36 xs w) w hs hn
set_option maxRecDepth 100000 in
set_option maxHeartbeats 4000000 in
theorem act7 (t : TK) (x : Int) (hn : t.st.length ≤ 100000) (_hx : -2147483648 ≤ x ∧ x ≤ 2147483647) (hr : ∀ y ∈ t.st, -2147483648 ≤ y ∧ y ≤ 2147483647) (hp : rightS t.st.length 7 x = true) : ActOk t 7 x := by
  have h0 : 2 ≤ t.st.length := right_pops hp (by decide)
  refine .inr ⟨94, fun w => by kernel_rfl, fun s w hs => ?_, fun xs w => Try.call94 xs w⟩
  have := divideM t s 7 x (by omega) hr w hs hn
  have e : doZ t 7 x = ((if topZ t.st 0 = 0 then t else wentZ t 7 [divZ (topZ t.st 1) (topZ t.st 0)]), (if topZ t.st 0 = 0 then 3 else 1), 0, (if topZ t.st 0 = 0 then 32 else 0)) := by
    show (if topZ t.st 0 = 0 then (t, 3, 0, 32) else (wentZ t 7 [divZ (topZ t.st 1) (topZ t.st 0)], 1, 0, 0)) = _
    by_cases h : topZ t.st 0 = 0
    · rw [if_pos h, if_pos h, if_pos h, if_pos h]
    · rw [if_neg h, if_neg h, if_neg h, if_neg h]
  rw [e]
  exact this
set_option maxRecDepth 100000 in
set_option maxHeartbeats 4000000 in
theorem act10 (t : TK) (x : Int) (hn : t.st.length ≤ 100000) (hx : -2147483648 ≤ x ∧ x ≤ 2147483647) (_hr : ∀ y ∈ t.st, -2147483648 ≤ y ∧ y ≤ 2147483647) (_hp : rightS t.st.length 10 x = true) : ActOk t 10 x := by
  refine .inr ⟨95, fun w => by kernel_rfl, fun s w hs => ?_, fun xs w => Try.call95 xs w⟩
  exact jumpM t s 10 x hx w hs hn
set_option maxRecDepth 100000 in
set_option maxHeartbeats 4000000 in
theorem act11 (t : TK) (x : Int) (hn : t.st.length ≤ 100000) (hx : -2147483648 ≤ x ∧ x ≤ 2147483647) (_hr : ∀ y ∈ t.st, -2147483648 ≤ y ∧ y ≤ 2147483647) (hp : rightS t.st.length 11 x = true) : ActOk t 11 x := by
  have h0 : 1 ≤ t.st.length := right_pops hp (by decide)
  refine .inr ⟨96, fun w => by kernel_rfl, fun s w hs => ?_, fun xs w => Try.call96 xs w⟩
  exact jumpZM t s 11 x hx (by omega) w hs hn
set_option maxRecDepth 100000 in
set_option maxHeartbeats 4000000 in
theorem act12 (t : TK) (x : Int) (hn : t.st.length ≤ 100000) (_hx : -2147483648 ≤ x ∧ x ≤ 2147483647) (_hr : ∀ y ∈ t.st, -2147483648 ≤ y ∧ y ≤ 2147483647) (hp : rightS t.st.length 12 x = true) : ActOk t 12 x := by
  refine .inr ⟨97, fun w => by kernel_rfl, fun s w hs => ?_, fun xs w => Try.call97 xs w⟩
  obtain ⟨i, rfl, hi⟩ := right_local hp rfl
  exact loadM t s 12 i i hi rfl w hs hn
set_option maxRecDepth 100000 in
set_option maxHeartbeats 4000000 in
theorem act13 (t : TK) (x : Int) (hn : t.st.length ≤ 100000) (_hx : -2147483648 ≤ x ∧ x ≤ 2147483647) (_hr : ∀ y ∈ t.st, -2147483648 ≤ y ∧ y ≤ 2147483647) (hp : rightS t.st.length 13 x = true) : ActOk t 13 x := by
  have h0 : 1 ≤ t.st.length := right_pops hp (by decide)
  refine .inr ⟨98, fun w => by kernel_rfl, fun s w hs => ?_, fun xs w => Try.call98 xs w⟩
  obtain ⟨i, rfl, hi⟩ := right_local hp rfl
  exact storeM t s 13 i i hi rfl (by omega) w hs hn
set_option maxRecDepth 100000 in
set_option maxHeartbeats 4000000 in
theorem act14 (t : TK) (x : Int) (hn : t.st.length ≤ 100000) (_hx : -2147483648 ≤ x ∧ x ≤ 2147483647) (_hr : ∀ y ∈ t.st, -2147483648 ≤ y ∧ y ≤ 2147483647) (_hp : rightS t.st.length 14 x = true) : ActOk t 14 x := by
  refine .inr ⟨99, fun w => by kernel_rfl, fun s w hs => ?_, fun xs w => Try.call99 xs w⟩
  exact labelM t s 14 x w hs hn
set_option maxRecDepth 100000 in
set_option maxHeartbeats 4000000 in
theorem act25 (t : TK) (x : Int) (hn : t.st.length ≤ 100000) (_hx : -2147483648 ≤ x ∧ x ≤ 2147483647) (_hr : ∀ y ∈ t.st, -2147483648 ≤ y ∧ y ≤ 2147483647) (hp : rightS t.st.length 25 x = true) : ActOk t 25 x := by
  have h0 : 1 ≤ t.st.length := right_pops hp (by decide)
  refine .inr ⟨100, fun w => by kernel_rfl, fun s w hs => ?_, fun xs w => Try.call100 xs w⟩
  exact retM t s 25 x (by omega) w hs hn
set_option maxRecDepth 100000 in
set_option maxHeartbeats 4000000 in
theorem act26 (t : TK) (x : Int) (hn : t.st.length ≤ 100000) (hx : -2147483648 ≤ x ∧ x ≤ 2147483647) (_hr : ∀ y ∈ t.st, -2147483648 ≤ y ∧ y ≤ 2147483647) (_hp : rightS t.st.length 26 x = true) : ActOk t 26 x := by
  refine .inr ⟨101, fun w => by kernel_rfl, fun s w hs => ?_, fun xs w => Try.call101 xs w⟩
  exact failM t s 26 x hx w hs hn
theorem act15 (t : TK) (x : Int) : ActOk t 15 x := .inl ⟨rfl, fun w => by kernel_rfl⟩
theorem act16 (t : TK) (x : Int) : ActOk t 16 x := .inl ⟨rfl, fun w => by kernel_rfl⟩
theorem act17 (t : TK) (x : Int) : ActOk t 17 x := .inl ⟨rfl, fun w => by kernel_rfl⟩
theorem act18 (t : TK) (x : Int) : ActOk t 18 x := .inl ⟨rfl, fun w => by kernel_rfl⟩
theorem act19 (t : TK) (x : Int) : ActOk t 19 x := .inl ⟨rfl, fun w => by kernel_rfl⟩
theorem act20 (t : TK) (x : Int) : ActOk t 20 x := .inl ⟨rfl, fun w => by kernel_rfl⟩
theorem act21 (t : TK) (x : Int) : ActOk t 21 x := .inl ⟨rfl, fun w => by kernel_rfl⟩
theorem act22 (t : TK) (x : Int) : ActOk t 22 x := .inl ⟨rfl, fun w => by kernel_rfl⟩
theorem act23 (t : TK) (x : Int) : ActOk t 23 x := .inl ⟨rfl, fun w => by kernel_rfl⟩
theorem act24 (t : TK) (x : Int) : ActOk t 24 x := .inl ⟨rfl, fun w => by kernel_rfl⟩
theorem act_ok (t : TK) (x : Int) (hn : t.st.length ≤ 100000) (hx : -2147483648 ≤ x ∧ x ≤ 2147483647) (hr : ∀ y ∈ t.st, -2147483648 ≤ y ∧ y ≤ 2147483647) (op : Int) (hk : knownB op = true) (hp : rightS t.st.length op x = true) : ActOk t op x := by
  have h := (knownB_iff op).1 hk
  rcases (by omega : op = 1 ∨ op = 2 ∨ op = 3 ∨ op = 4 ∨ op = 5 ∨ op = 6 ∨ op = 7 ∨ op = 8 ∨ op = 9 ∨ op = 10 ∨ op = 11 ∨ op = 12 ∨ op = 13 ∨ op = 14 ∨ op = 15 ∨ op = 16 ∨ op = 17 ∨ op = 18 ∨ op = 19 ∨ op = 20 ∨ op = 21 ∨ op = 22 ∨ op = 23 ∨ op = 24 ∨ op = 25 ∨ op = 26) with rfl | rfl | rfl | rfl | rfl | rfl | rfl | rfl | rfl | rfl | rfl | rfl | rfl | rfl | rfl | rfl | rfl | rfl | rfl | rfl | rfl | rfl | rfl | rfl | rfl | rfl
  · exact act1 t x hn hx hr hp
  · exact act2 t x hn hx hr hp
  · exact act3 t x hn hx hr hp
  · exact act4 t x hn hx hr hp
  · exact act5 t x hn hx hr hp
  · exact act6 t x hn hx hr hp
  · exact act7 t x hn hx hr hp
  · exact act8 t x hn hx hr hp
  · exact act9 t x hn hx hr hp
  · exact act10 t x hn hx hr hp
  · exact act11 t x hn hx hr hp
  · exact act12 t x hn hx hr hp
  · exact act13 t x hn hx hr hp
  · exact act14 t x hn hx hr hp
  · exact act15 t x
  · exact act16 t x
  · exact act17 t x
  · exact act18 t x
  · exact act19 t x
  · exact act20 t x
  · exact act21 t x
  · exact act22 t x
  · exact act23 t x
  · exact act24 t x
  · exact act25 t x hn hx hr hp
  · exact act26 t x hn hx hr hp

theorem cur_i32 {w : World} {B : Nat} {v : Value} {I : List CodeL} (h : ImgV w B v I) (fn pc : Int) : -2147483648 ≤ (curZ I fn pc).1.2 ∧ (curZ I fn pc).1.2 ≤ 2147483647 := by
  have hz : -2147483648 ≤ (0 : Int) ∧ (0 : Int) ≤ 2147483647 := ⟨by decide, by decide⟩
  show -2147483648 ≤ (insZ (rowZ I fn) pc).2 ∧ (insZ (rowZ I fn) pc).2 ≤ 2147483647
  unfold insZ
  by_cases h2 : inB pc (rowZ I fn).length = true
  · rw [if_pos h2]
    by_cases h1 : inB fn I.length = true
    · have e : rowZ I fn = I.getD fn.toNat [] := by unfold rowZ; rw [if_pos h1]
      rw [e] at h2 ⊢
      unfold inB at h1 h2
      simp only [Bool.and_eq_true, decide_eq_true_eq] at h1 h2
      obtain ⟨b, off, c, x, _, _, _, hr, _⟩ := h.row (k := fn.toNat) (by omega)
      have := hr.arg (k := pc.toNat) (by omega)
      exact this
    · have e : rowZ I fn = [] := by unfold rowZ; rw [if_neg h1]
      rw [e]; exact hz
  · rw [if_neg h2]; exact hz
/-- What Step keeps: its results' cells, the instruction's, the state's. -/
structure StQ (w : World) (t : TK) (s : Value) (op x : Int) (p : Nat) (w' : World) : Prop where
  z1 : w'.heap[w.heap.size + 1]? = some (.cells (taskA zT nilV) 66 (0, 0))
  z2 : w'.heap[w.heap.size + 2]? = some (.cells (outA 0 0 0) 71 (0, 0))
  b6 : w'.heap[p]? = some (.cells #[.int .i64 op, .int .i32 x] 32 (0, 0))
  b8 : w'.heap[p + 1]? = some (.cells (stateA t s op x) 109 (0, 0))
  lie : I32V w' w.heap.size s t.st
  bl : Below w.heap.size w w'
  sz3 : w.heap.size + 3 ≤ w'.heap.size
section
variable {w w' w'' : World} {t : TK} {s : Value} {op x : Int} {p : Nat}
theorem StQ.st (h : StQ w t s op x p w') : I32V w' w'.heap.size s t.st := h.lie.more h.bl.size
theorem StQ.step (h : StQ w t s op x p w') (hb : Below w'.heap.size w' w'') : StQ w t s op x p w'' :=
  have h1 := (Array.getElem?_eq_some_iff.1 h.b6).1; have h2 := (Array.getElem?_eq_some_iff.1 h.b8).1; have h3 := h.sz3
  ⟨heapLater hb (by omega) h.z1, heapLater hb (by omega) h.z2, heapLater hb h1 h.b6, heapLater hb h2 h.b8, h.lie.below (hb.mono (by omega)), nextB h.bl hb, Nat.le_trans h3 hb.size⟩
theorem StQ.c0 (h : StQ w t s op x p w') : w'.cell? ⟨p, 0, none⟩ = some (.int .i64 op) := cell_blk h.b6 0
end

@[go_sem] theorem eqlF_nil (w : World) : Sem.run Try.prog (binOp .eql 111 .nilFunc .nilFunc) w = .ok (.bool true) w := by kernel_rfl
@[go_sem] theorem eqlF_fn (F : FuncId) (w : World) : Sem.run Try.prog (binOp .eql 111 (.func (.func F) #[] #[]) .nilFunc) w = .ok (.bool false) w := by kernel_rfl

def sp5Val (fv : Value) (p : Nat) (op : Int) : Nat → Value
  | 0 => actsV
  | 1 => .pointer (some ⟨p, 0, none⟩)
  | 2 => .int .i64 op
  | 3 => fv
  | 4 => fv
  | _ => undef


set_option maxRecDepth 100000 in
set_option maxHeartbeats 16000000 in
theorem step_any (t : TK) (s : Value) (I : List CodeL) (v : Value) (w : World) (hs : I32V w w.heap.size s t.st) (hn : t.st.length ≤ 100000) (hr : ∀ y ∈ t.st, -2147483648 ≤ y ∧ y ≤ 2147483647) (hv : ImgV w w.heap.size v I) :
    Calls Try.prog 40 #[taskV t s, v] w (TO w (stepZ t I).1 (stepZ t I).2.1 (stepZ t I).2.2.1 (stepZ t I).2.2.2) := by
  obtain ⟨A, n, cp, rfl⟩ : ∃ A n cp, s = .slice A n cp := by obtain ⟨A, cp, e, _⟩ := hs; exact ⟨A, _, cp, e⟩
  have HV := Lib.hid hv; have HS := Lib.hid hs
  have hxr := cur_i32 hv t.fn t.pc
  obtain ⟨op, hop⟩ : ∃ z, (curZ I t.fn t.pc).1.1 = z := ⟨_, rfl⟩
  obtain ⟨x, hx⟩ : ∃ z, (curZ I t.fn t.pc).1.2 = z := ⟨_, rfl⟩
  obtain ⟨fk, hfk⟩ : ∃ z, (curZ I t.fn t.pc).2 = z := ⟨_, rfl⟩
  obtain ⟨rs, hrs⟩ : ∃ z, rightS t.st.length op x = z := ⟨_, rfl⟩
  obtain ⟨z, hz⟩ : ∃ z, stepZ t I = z := ⟨_, rfl⟩
  rw [hz]
  obtain ⟨z, kz, vz, cz⟩ := z
  have HNO : Hid (¬ (fk = true ∧ rs = true) → z = t ∧ kz = 3 ∧ vz = 0 ∧ cz = 24) := Lib.hid (fun h => by
    unfold stepZ at hz; rw [hfk, hop, hx, hrs, if_neg h] at hz
    injection hz with h1 h2; injection h2 with h2 h3; injection h3 with h3 h4
    exact ⟨h1.symm, h2.symm, h3.symm, h4.symm⟩)
  have HYES : Hid (fk = true → rs = true → doZ t op x = (z, kz, vz, cz) ∧ ActOk t op x) := Lib.hid (fun h1 h2 => by
    refine ⟨?_, act_ok t x hn (by rw [← hx]; exact hxr) hr op ?_ (by rw [hrs]; exact h2)⟩
    · unfold stepZ at hz; rw [hfk, hop, hx, hrs, if_pos ⟨h1, h2⟩] at hz; exact hz
    · rw [← hop]; rw [← hfk] at h1; unfold curZ at h1; rw [Bool.and_eq_true] at h1; exact h1.2)
  have HC : Hid (∀ w, ImgV w w.heap.size v I → Calls Try.prog 64 #[taskV t (.slice A n cp), v] w fun e w' => e = .returned (.tuple #[insV op x, .bool fk]) ∧ Below w.heap.size w w') := Lib.hid fun w h => by rw [← hop, ← hx, ← hfk]; exact current_any t (.slice A n cp) I v w h
  have HRS : Hid (∀ w, I32V w w.heap.size (.slice A n cp) t.st → Calls Try.prog 65 #[stV t (.slice A n cp) op x] w fun e w' => e = .returned (.bool rs) ∧ Below w.heap.size w w') := Lib.hid fun w h => by rw [← hrs]; exact rightS_any t (.slice A n cp) op x w h hn
  have HF : Hid (∀ w, I32V w w.heap.size (.slice A n cp) t.st → Calls Try.prog 66 #[stV t (.slice A n cp) op x, .int .i64 24] w (TO w t 3 0 24)) := Lib.hid fun w h => failed_any t (.slice A n cp) op x 24 w h hn
  have HU : Hid (∀ w, I32V w w.heap.size (.slice A n cp) t.st → Calls Try.prog 68 #[stV t (.slice A n cp) op x, outV 4 0 0] w (TO w t 4 0 0)) := Lib.hid fun w h => unchanged_any t (.slice A n cp) op x 4 0 0 w h hn
  clear hop hx hfk hrs hz hxr hr hs hv
  have hb3 := nextB (nextB (below_alloc w (.cells (taskA t (.slice A n cp)) 66)) (below_alloc _ (.cells (taskA zT nilV) 66))) (below_alloc _ (.cells (outA 0 0 0) 71))
  have HB3 := Lib.hid hb3
  obtain ⟨w3, h3⟩ : ∃ w3, w3 = ((w.alloc (.cells (taskA t (.slice A n cp)) 66)).alloc (.cells (taskA zT nilV) 66)).alloc (.cells (outA 0 0 0) 71) := ⟨_, rfl⟩
  rw [← h3] at HB3
  have HA2 : Hid (w3.heap[w.heap.size]? = some (.cells (taskA t (.slice A n cp)) 66 (0, 0))) := Lib.hid (by rw [h3]; exact heapOld (heapOld (heapNew rfl)))
  have HA4 : Hid (w3.heap[w.heap.size + 1]? = some (.cells (taskA zT nilV) 66 (0, 0))) := Lib.hid (by rw [h3]; exact heapOld (heapNew (by simp)))
  have HA5 : Hid (w3.heap[w.heap.size + 2]? = some (.cells (outA 0 0 0) 71 (0, 0))) := Lib.hid (by rw [h3]; exact heapNew (by simp))
  have HSZ : Hid (w3.heap.size = w.heap.size + 3) := Lib.hid (by rw [h3]; simp)
  clear hb3
  unfold taskV taskA
  go_enter Try.func40, Try.ntmps40
  go_upto_region 1 with (fail)
  rw [show Code.wp Try.prog _ _ _ _ = Code.wp Try.prog _ _ _ w3 from by rw [h3]; rfl]
  clear h3
  go_wp2_with (first | (refine load_taskAt rfl _ rfl _ t (.slice A n cp) rfl _ _ HA2.out ?_) | fail)
  refine (HC.out w3 (HV.out.later HB3.out)).mono ?_
  rintro e w4 ⟨rfl, hb⟩
  have hsz := HSZ.out
  have a2 := heapLater hb (by omega) HA2.out
  have C4 := Lib.hid (heapLater hb (by omega) HA4.out); have C5 := Lib.hid (heapLater hb (by omega) HA5.out)
  have HB4 := Lib.hid (nextB HB3.out hb)
  have HW4 : Hid (w.heap.size + 3 ≤ w4.heap.size) := Lib.hid (by have := hb.size; omega)
  have d0 : w4.cell? ⟨w.heap.size, 0, none⟩ = some (.int .i32 t.id) := cell_blk a2 0
  have d1 : w4.cell? ⟨w.heap.size, 1, none⟩ = some (.int .i64 t.fn) := cell_blk a2 1
  have d2 : w4.cell? ⟨w.heap.size, 2, none⟩ = some (.int .i64 t.pc) := cell_blk a2 2
  have d3 : w4.cell? ⟨w.heap.size, 3, none⟩ = some (.slice A n cp) := cell_blk a2 3
  have d4 : w4.cell? ⟨w.heap.size, 4, none⟩ = some (.int .i32 t.v0) := cell_blk a2 4
  have d5 : w4.cell? ⟨w.heap.size, 5, none⟩ = some (.int .i32 t.v1) := cell_blk a2 5
  have d6 : w4.cell? ⟨w.heap.size, 6, none⟩ = some (.int .i32 t.v2) := cell_blk a2 6
  have d7 : w4.cell? ⟨w.heap.size, 7, none⟩ = some (.int .i32 t.v3) := cell_blk a2 7
  have d8 : w4.cell? ⟨w.heap.size, 8, none⟩ = some (.int .i64 t.lb) := cell_blk a2 8
  have d9 : w4.cell? ⟨w.heap.size, 9, none⟩ = some (.int .i64 t.cl) := cell_blk a2 9
  have d10 : w4.cell? ⟨w.heap.size, 10, none⟩ = some (.int .u32 t.pv) := cell_blk a2 10
  have d11 : w4.cell? ⟨w.heap.size, 11, none⟩ = some (.int .i64 t.wk) := cell_blk a2 11
  have hlt : w.heap.size < w4.heap.size := by have := HW4.out; omega
  clear hb a2 hsz HA2 HA4 HA5 HB3 HSZ HC HV
  unfold insV
  go_upto_region 3 with (fail)
  obtain ⟨w6, h6⟩ : ∃ w6, w6 = (w4.alloc (.cells #[.int .i64 op, .int .i32 x] 32)).alloc (.cells (stateA t (.slice A n cp) op x) 109) := ⟨_, rfl⟩
  rw [show Code.wp Try.prog _ _ _ _ = Code.wp Try.prog _ _ _ w6 from by rw [h6]; rfl]
  have HQ : Hid (StQ w t (.slice A n cp) op x w4.heap.size w6) := Lib.hid (by
    have hw4 := HW4.out
    have hb6 : Below w4.heap.size w4 w6 := by rw [h6]; exact nextB (below_alloc _ _) (below_alloc _ _)
    refine ⟨heapLater hb6 (by omega) C4.out, heapLater hb6 (by omega) C5.out, ?_, ?_, HS.out.below (nextB HB4.out hb6), nextB HB4.out hb6, Nat.le_trans hw4 hb6.size⟩
    · rw [h6]; exact heapOld (heapNew rfl)
    · rw [h6]; exact heapNew (by simp))
  clear h6 d0 d1 d2 d3 d4 d5 d6 d7 d8 d9 d10 d11 hlt C4 C5 HB4 HW4 HS
  obtain ⟨p, hp⟩ : ∃ p, w4.heap.size = p := ⟨_, rfl⟩
  rw [hp] at HQ ⊢
  clear hp
  cases fk with
  | false =>
    obtain ⟨rfl, rfl, rfl, rfl⟩ := HNO.out (by simp)
    go_wp2_with (first | (refine load_state rfl _ rfl _ _ _ _ _ rfl _ _ HQ.out.b8 ?_) | fail)
    refine (HF.out w6 HQ.out.st).mono ?_
    rintro e w8 ⟨⟨s', rfl, ho⟩, hb⟩
    have H8 := Lib.hid (HQ.out.step hb)
    have HO : Hid (Own32 w8 (w.heap.size + 3) s' z.st) := Lib.hid (ho.less HQ.out.sz3)
    have HZ2 : Hid ((w8.setRow (w.heap.size + 1) (taskA z s')).heap[w.heap.size + 2]? = some (.cells (outA 0 0 0) 71 (0, 0))) := Lib.hid ((row_far (by omega)).trans H8.out.z2)
    clear ho hb
    go_wp2_with (first | (refine store_task rfl _ _ rfl rfl _ z s' rfl rfl _ _ _ H8.out.z1 HO.out.one ?_) | (refine store_out rfl _ _ rfl rfl _ 3 0 24 rfl rfl _ _ _ _ HZ2.out ?_) | fail)
    exact ret_TO rfl rfl rfl rfl H8.out.z1 H8.out.z2 (by omega) (by omega) (by omega) (by omega) (by omega) HO.out H8.out.bl
  | true =>
    have q0 : w6.cell? ⟨p + 1, 0, none⟩ = some (.int .i32 t.id) := cell_blk HQ.out.b8 0
    have q1 : w6.cell? ⟨p + 1, 1, none⟩ = some (.int .i64 t.fn) := cell_blk HQ.out.b8 1
    have q2 : w6.cell? ⟨p + 1, 2, none⟩ = some (.int .i64 t.pc) := cell_blk HQ.out.b8 2
    have q3 : w6.cell? ⟨p + 1, 3, none⟩ = some (.slice A n cp) := cell_blk HQ.out.b8 3
    have q4 : w6.cell? ⟨p + 1, 4, none⟩ = some (.int .i32 t.v0) := cell_blk HQ.out.b8 4
    have q5 : w6.cell? ⟨p + 1, 5, none⟩ = some (.int .i32 t.v1) := cell_blk HQ.out.b8 5
    have q6 : w6.cell? ⟨p + 1, 6, none⟩ = some (.int .i32 t.v2) := cell_blk HQ.out.b8 6
    have q7 : w6.cell? ⟨p + 1, 7, none⟩ = some (.int .i32 t.v3) := cell_blk HQ.out.b8 7
    have q8 : w6.cell? ⟨p + 1, 8, none⟩ = some (.int .i64 t.lb) := cell_blk HQ.out.b8 8
    have q9 : w6.cell? ⟨p + 1, 9, none⟩ = some (.int .i64 t.cl) := cell_blk HQ.out.b8 9
    have q10 : w6.cell? ⟨p + 1, 10, none⟩ = some (.int .u32 t.pv) := cell_blk HQ.out.b8 10
    have q11 : w6.cell? ⟨p + 1, 11, none⟩ = some (.int .i64 t.wk) := cell_blk HQ.out.b8 11
    have q12 : w6.cell? ⟨p + 1, 12, none⟩ = some (.int .i64 op) := cell_blk HQ.out.b8 12
    have q13 : w6.cell? ⟨p + 1, 13, none⟩ = some (.int .i32 x) := cell_blk HQ.out.b8 13
    go_wp2_with fail
    refine (HRS.out w6 HQ.out.st).mono ?_
    rintro e w7 ⟨rfl, hb⟩
    clear q0 q1 q2 q3 q4 q5 q6 q7 q8 q9 q10 q11 q12 q13
    have HQ7 := Lib.hid (HQ.out.step hb)
    clear hb HQ
    cases rs with
    | false =>
      obtain ⟨rfl, rfl, rfl, rfl⟩ := HNO.out (by simp)
      go_wp2_with (first | (refine load_state rfl _ rfl _ _ _ _ _ rfl _ _ HQ7.out.b8 ?_) | fail)
      refine (HF.out w7 HQ7.out.st).mono ?_
      rintro e w8 ⟨⟨s', rfl, ho⟩, hb⟩
      have H8 := Lib.hid (HQ7.out.step hb)
      have HO : Hid (Own32 w8 (w.heap.size + 3) s' z.st) := Lib.hid (ho.less HQ7.out.sz3)
      have HZ2 : Hid ((w8.setRow (w.heap.size + 1) (taskA z s')).heap[w.heap.size + 2]? = some (.cells (outA 0 0 0) 71 (0, 0))) := Lib.hid ((row_far (by omega)).trans H8.out.z2)
      clear ho hb
      go_wp2_with (first | (refine store_task rfl _ _ rfl rfl _ z s' rfl rfl _ _ _ H8.out.z1 HO.out.one ?_) | (refine store_out rfl _ _ rfl rfl _ 3 0 24 rfl rfl _ _ _ _ HZ2.out ?_) | fail)
      exact ret_TO rfl rfl rfl rfl H8.out.z1 H8.out.z2 (by omega) (by omega) (by omega) (by omega) (by omega) HO.out H8.out.bl
    | true =>
      obtain ⟨hdo, hact⟩ := HYES.out (by simp) (by simp)
      clear HNO HYES
      rcases hact with ⟨hdo4, hix⟩ | ⟨F, hix, hF, hE⟩
      · rw [hdo] at hdo4
        injection hdo4 with e1 e2; injection e2 with e2 e3; injection e3 with e3 e4
        have e1' := e1.symm
        subst e1' e2 e3 e4
        obtain ⟨fv, hfv⟩ : ∃ fv, fv = Value.nilFunc := ⟨_, rfl⟩
        have HIX : Hid (∀ w, Sem.run Try.prog (Instr.index 112 actsV (.int .i64 op)) w = .ok fv w) := Lib.hid (by rw [hfv]; exact hix)
        have HFV := Lib.hid hfv
        clear hdo hix hfv
        go_upto_region 5 with (fail)
        refine Reg.wp_facts_sl [30, 31, 32, 33, 9] rfl [] [[], [], [(1, 31)], [(0, 30), (2, 32)], [(3, 33)]] [(4, 9)] (Reg.Known (sp5Val fv p op) (fun _ _ _ => True) []) (fun _ w' => StQ w t (.slice A n cp) op x p w') (by kernel_rfl) (by kernel_rfl) ?start ?steps ?finish
        case start => exact HQ7.out.step (Below.refl _ _).drew
        case steps =>
          refine Reg.Steps.zip ?_ ?_
          · refine Reg.step_go rfl ?_
            intro a wi ki hf hd hS hc K hK
            clear hf hd
            have HSS := Lib.hid hS; clear hS
            have hK0 := Lib.hid hK; clear hK hc
            go_simp
            refine (actions_any wi).mono ?_
            rintro e wA ⟨rfl, hbA⟩
            exact hK0.out _ _ (Reg.Known.mk_val rfl rfl) (fun _ _ h => Reg.Known.keepX h id) (HSS.out.step hbA)
          refine Reg.Steps.zip ?_ ?_
          · refine Reg.step_go rfl ?_
            intro a wi ki hf hd hS hc K hK
            have f6 : a.tmps.getD 6 undef = .pointer (some ⟨p, 0, none⟩) := hf.same 6 rfl
            clear hf hd hc
            have hK0 := Lib.hid hK; clear hK
            have hS0 := Lib.hid hS; clear hS
            go_simp
            exact hK0.out _ _ (Reg.Known.mk_val rfl rfl) (fun _ _ h => h) hS0.out
          refine Reg.Steps.zip ?_ ?_
          · refine Reg.step_go rfl ?_
            intro a wi ki hf hd hS hc K hK
            have e31 : a.tmps.getD 31 undef = .pointer (some ⟨p, 0, none⟩) := hd.1.plain rfl
            clear hf hd hc
            have cc := hS.c0
            have hK0 := Lib.hid hK; clear hK
            have hS0 := Lib.hid hS; clear hS
            go_simp
            exact hK0.out _ _ (Reg.Known.mk_val rfl rfl) (fun _ _ h => h) hS0.out
          refine Reg.Steps.zip ?_ ?_
          · refine Reg.step_go rfl ?_
            intro a wi ki hf hd hS hc K hK
            have e30 : a.tmps.getD 30 undef = actsV := hd.1.plain rfl
            have e32 : a.tmps.getD 32 undef = .int .i64 op := hd.2.1.plain rfl
            clear hf hd hc
            have hix := HIX.out wi
            have hK0 := Lib.hid hK; clear hK
            have hS0 := Lib.hid hS; clear hS
            go_simp
            exact hK0.out _ _ (Reg.Known.mk_val rfl rfl) (fun _ _ h => h) hS0.out
          refine Reg.Steps.zip ?_ ?_
          · refine Reg.step_go rfl ?_
            intro a wi ki hf hd hS hc K hK
            have e33 : a.tmps.getD 33 undef = fv := hd.1.plain rfl
            clear hf hd hc
            have hK0 := Lib.hid hK; clear hK
            have hS0 := Lib.hid hS; clear hS
            go_simp
            exact hK0.out _ _ (Reg.Known.mk_val rfl rfl) (fun _ _ h => h) hS0.out
          exact Reg.Steps.nil
        case finish =>
          intro a w8 hf hd hS
          have HQ8 := Lib.hid hS; clear hS
          obtain ⟨u, hu⟩ : ∃ u : Nat → Value, u = fun s => a.tmps.getD s undef := ⟨_, rfl⟩
          have e9 : u 9 = .nilFunc := by rw [hu, ← HFV.out]; exact hd.1.plain rfl
          rw [hf.eq, ← hu]
          clear hf hu hd HQ7
          simp (config := { maxSteps := 10000000 }) [Reg.filled, e9]
          clear e9
          go_wp2_with (first | (refine load_state rfl _ rfl _ _ _ _ _ rfl _ _ HQ8.out.b8 ?_) | fail)
          refine (HU.out w8 HQ8.out.st).mono ?_
          rintro e w9 ⟨⟨s', rfl, ho⟩, hb⟩
          have H9 := Lib.hid (HQ8.out.step hb)
          have HO : Hid (Own32 w9 (w.heap.size + 3) s' t.st) := Lib.hid (ho.less HQ8.out.sz3)
          have HZ2 : Hid ((w9.setRow (w.heap.size + 1) (taskA t s')).heap[w.heap.size + 2]? = some (.cells (outA 0 0 0) 71 (0, 0))) := Lib.hid ((row_far (by omega)).trans H9.out.z2)
          clear ho hb
          go_wp2_with (first | (refine store_task rfl _ _ rfl rfl _ t s' rfl rfl _ _ _ H9.out.z1 HO.out.one ?_) | (refine store_out rfl _ _ rfl rfl _ 4 0 0 rfl rfl _ _ _ _ HZ2.out ?_) | fail)
          exact ret_TO rfl rfl rfl rfl H9.out.z1 H9.out.z2 (by omega) (by omega) (by omega) (by omega) (by omega) HO.out H9.out.bl
      · rw [hdo] at hF
        obtain ⟨fv, hfv⟩ : ∃ fv, fv = Value.func (.func F) #[] #[] := ⟨_, rfl⟩
        have HIX : Hid (∀ w, Sem.run Try.prog (Instr.index 112 actsV (.int .i64 op)) w = .ok fv w) := Lib.hid (by rw [hfv]; exact hix)
        have HFV := Lib.hid hfv
        have HFF := Lib.hid hF; have HEE := Lib.hid hE
        clear hdo hix hfv hF hE
        go_upto_region 5 with (fail)
        refine Reg.wp_facts_sl [30, 31, 32, 33, 9] rfl [] [[], [], [(1, 31)], [(0, 30), (2, 32)], [(3, 33)]] [(4, 9)] (Reg.Known (sp5Val fv p op) (fun _ _ _ => True) []) (fun _ w' => StQ w t (.slice A n cp) op x p w') (by kernel_rfl) (by kernel_rfl) ?start ?steps ?finish
        case start => exact HQ7.out.step (Below.refl _ _).drew
        case steps =>
          refine Reg.Steps.zip ?_ ?_
          · refine Reg.step_go rfl ?_
            intro a wi ki hf hd hS hc K hK
            clear hf hd
            have HSS := Lib.hid hS; clear hS
            have hK0 := Lib.hid hK; clear hK hc
            go_simp
            refine (actions_any wi).mono ?_
            rintro e wA ⟨rfl, hbA⟩
            exact hK0.out _ _ (Reg.Known.mk_val rfl rfl) (fun _ _ h => Reg.Known.keepX h id) (HSS.out.step hbA)
          refine Reg.Steps.zip ?_ ?_
          · refine Reg.step_go rfl ?_
            intro a wi ki hf hd hS hc K hK
            have f6 : a.tmps.getD 6 undef = .pointer (some ⟨p, 0, none⟩) := hf.same 6 rfl
            clear hf hd hc
            have hK0 := Lib.hid hK; clear hK
            have hS0 := Lib.hid hS; clear hS
            go_simp
            exact hK0.out _ _ (Reg.Known.mk_val rfl rfl) (fun _ _ h => h) hS0.out
          refine Reg.Steps.zip ?_ ?_
          · refine Reg.step_go rfl ?_
            intro a wi ki hf hd hS hc K hK
            have e31 : a.tmps.getD 31 undef = .pointer (some ⟨p, 0, none⟩) := hd.1.plain rfl
            clear hf hd hc
            have cc := hS.c0
            have hK0 := Lib.hid hK; clear hK
            have hS0 := Lib.hid hS; clear hS
            go_simp
            exact hK0.out _ _ (Reg.Known.mk_val rfl rfl) (fun _ _ h => h) hS0.out
          refine Reg.Steps.zip ?_ ?_
          · refine Reg.step_go rfl ?_
            intro a wi ki hf hd hS hc K hK
            have e30 : a.tmps.getD 30 undef = actsV := hd.1.plain rfl
            have e32 : a.tmps.getD 32 undef = .int .i64 op := hd.2.1.plain rfl
            clear hf hd hc
            have hix := HIX.out wi
            have hK0 := Lib.hid hK; clear hK
            have hS0 := Lib.hid hS; clear hS
            go_simp
            exact hK0.out _ _ (Reg.Known.mk_val rfl rfl) (fun _ _ h => h) hS0.out
          refine Reg.Steps.zip ?_ ?_
          · refine Reg.step_go rfl ?_
            intro a wi ki hf hd hS hc K hK
            have e33 : a.tmps.getD 33 undef = fv := hd.1.plain rfl
            clear hf hd hc
            have hK0 := Lib.hid hK; clear hK
            have hS0 := Lib.hid hS; clear hS
            go_simp
            exact hK0.out _ _ (Reg.Known.mk_val rfl rfl) (fun _ _ h => h) hS0.out
          exact Reg.Steps.nil
        case finish =>
          intro a w8 hf hd hS
          have HQ8 := Lib.hid hS; clear hS
          obtain ⟨u, hu⟩ : ∃ u : Nat → Value, u = fun s => a.tmps.getD s undef := ⟨_, rfl⟩
          have e9 : u 9 = .func (.func F) #[] #[] := by rw [hu, ← HFV.out]; exact hd.1.plain rfl
          rw [hf.eq, ← hu]
          clear hf hu hd HQ7
          simp (config := { maxSteps := 10000000 }) [Reg.filled, e9]
          clear e9
          have hee := HEE.out
          go_wp2_with (first | (refine load_state rfl _ rfl _ _ _ _ _ rfl _ _ HQ8.out.b8 ?_) | fail)
          refine (HFF.out (.slice A n cp) w8 HQ8.out.st).mono ?_
          rintro e w9 ⟨⟨s', rfl, ho⟩, hb⟩
          have H9 := Lib.hid (HQ8.out.step hb)
          have HO : Hid (Own32 w9 (w.heap.size + 3) s' z.st) := Lib.hid (ho.less HQ8.out.sz3)
          have HZ2 : Hid ((w9.setRow (w.heap.size + 1) (taskA z s')).heap[w.heap.size + 2]? = some (.cells (outA 0 0 0) 71 (0, 0))) := Lib.hid ((row_far (by omega)).trans H9.out.z2)
          clear ho hb
          go_wp2_with (first | (refine store_task rfl _ _ rfl rfl _ z s' rfl rfl _ _ _ H9.out.z1 HO.out.one ?_) | (refine store_out rfl _ _ rfl rfl _ kz vz cz rfl rfl _ _ _ _ HZ2.out ?_) | fail)
          exact ret_TO rfl rfl rfl rfl H9.out.z1 H9.out.z2 (by omega) (by omega) (by omega) (by omega) (by omega) HO.out H9.out.bl

end Go.Proofs.Ytjnlgmjcabbaaaa
