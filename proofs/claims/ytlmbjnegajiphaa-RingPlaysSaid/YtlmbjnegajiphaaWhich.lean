/- The search in a table of function values; Arg, Pops and Pushes of package ops, for any number. -/
import Derived.Test.YtlmbjnegajiphaaOps
import Derived.Test.YtlmbjnegajiphaaApd
namespace Go.Proofs.Ytlmbjnegajiphaa
set_option maxRecDepth 100000
open Go.RowKit

/-- The first from k on, among m, that holds (0: none). -/
def firstH (hz : Nat → Bool) : Nat → Nat → Nat
  | _, 0 => 0
  | k, m + 1 => if hz k then k else firstH hz (k + 1) m

@[go_sem] theorem neq_nilFunc (w : World) : (binOp .neq 126 .nilFunc .nilFunc).run Try.prog w = .ok (.bool false) w := by kernel_rfl
@[go_sem] theorem neq_func (k : FuncId) (w : World) : (binOp .neq 126 (.func (.func k) #[] #[]) .nilFunc).run Try.prog w = .ok (.bool true) w := by kernel_rfl

set_option maxRecDepth 100000 in
set_option maxHeartbeats 4000000 in
theorem which_any (op : Int) (n c : Nat) (F : Nat → FuncId) (hz : Nat → Bool) (b : Nat) (w : World) (hn : n ≤ 100)
    (h0 : w.cell? ⟨b, 0, none⟩ = some .nilFunc) (hc : ∀ i, 1 ≤ i → i < n → w.cell? ⟨b, i, none⟩ = some (.func (.func (F i)) #[] #[]))
    (hF : ∀ i, 1 ≤ i → i < n → ∀ w', Calls Try.prog (F i) #[.int .i64 op] w' fun e w'' => e = .returned (.bool (hz i)) ∧ w'' = w')
    (hE : ∀ i, 1 ≤ i → i < n → ∀ xs w', (callFunc (F i) xs).run Try.prog w' = .ok (.enter (F i) xs) w') (hz0 : hz 0 = false) :
    Calls Try.prog 108 #[.int .i64 op, .slice (some ⟨b, 0, none⟩) n c] w fun e w' => e = .returned (.int .i64 (firstH hz 0 n)) ∧ w' = w := by
  have H0 := Lib.hid h0; have HC := Lib.hid hc; have HF := Lib.hid hF; have HE0 := Lib.hid hE; have HZ0 := Lib.hid hz0
  clear h0 hc hF hE hz0
  go_enter Try.func108, Try.ntmps108
  go_wp2_with fail
  go_loopw [9] (fun i wr => ∃ k : Nat, k ≤ n ∧ i = .int .i64 k ∧ firstH hz 0 n = firstH hz k (n - k) ∧ wr = w) (fun i _ => n - (intOf i).toNat)
  case atStart => exact ⟨0, Nat.zero_le _, rfl, rfl, rfl⟩
  case round =>
    obtain ⟨k, hk, rfl, he, hw⟩ := hrel
    have HE := Lib.hid he; clear he
    by_cases hkn : k < n
    · have e1 : n - k = (n - (k + 1)) + 1 := by omega
      rcases Nat.eq_zero_or_pos k with rfl | hk1
      · have HE3 : Hid (firstH hz 0 ((n - (0 + 1)) + 1) = firstH hz 1 (n - 1)) := Lib.hid (by show (if hz 0 = true then 0 else firstH hz 1 (n - (0 + 1))) = _; rw [if_neg (by rw [HZ0.out]; decide)])
        have hc0 := H0.out
        go_wp2_with fail
        exact ⟨⟨1, by omega, rfl, HE.out.trans (show firstH hz 0 (n - 0) = firstH hz 1 (n - 1) by rw [e1]; exact HE3.out), trivial⟩, by simp only [intOf]; omega⟩
      · have hck := HC.out k hk1 hkn
        have hek := HE0.out k hk1 hkn
        have e3 : firstH hz 0 n = if hz k = true then k else firstH hz (k + 1) (n - (k + 1)) := by rw [HE.out, e1]; rfl
        cases hzk : hz k with
        | false =>
          have HE3 : Hid (firstH hz 0 n = firstH hz (k + 1) (n - (k + 1))) := Lib.hid (by rw [e3, hzk]; rfl)
          clear e3
          have HFK := Lib.hid (HF.out k hk1 hkn w); rw [hzk] at HFK
          have e2 : ((k : Int) + 1) = ((k + 1 : Nat) : Int) := by omega
          have HE4 := Lib.hid e2; clear e2 hzk
          go_wp2_with fail
          refine HFK.out.mono ?_
          rintro e w' ⟨rfl, rfl⟩
          go_wp2_with fail
          exact ⟨⟨k + 1, by omega, by rw [HE4.out], HE3.out, trivial⟩, by simp only [intOf]; omega⟩
        | true =>
          have HE3 : Hid (firstH hz 0 n = k) := Lib.hid (by rw [e3, hzk]; rfl)
          clear e3
          have HFK := Lib.hid (HF.out k hk1 hkn w); rw [hzk] at HFK
          clear hzk
          go_wp2_with fail
          refine HFK.out.mono ?_
          rintro e w' ⟨rfl, rfl⟩
          go_wp2_with fail
          go_ret
          rw [HE3.out]; exact ⟨rfl, rfl⟩
    · have e1 : n - k = 0 := by omega
      have HE2 := HE.out
      rw [e1] at HE2
      have HE3 := Lib.hid (HE2.trans (by rfl : firstH hz k 0 = 0)); clear HE2 e1
      go_wp2_with fail
      go_ret
      exact ⟨by rw [HE3.out]; rfl, rfl⟩

/-- What stands in the tables. -/
def argF (i : Nat) : FuncId := if i = 1 then 109 else if i = 2 then 110 else if i = 3 then 111 else if i = 4 then 112 else if i = 5 then 113 else 114
def argH (op : Int) (i : Nat) : Bool := if i = 0 then false else if i = 1 then numberB op else if i = 2 then placeB op else if i = 3 then localB op else if i = 4 then tagB op else if i = 5 then functionB op else portB op
def popF (i : Nat) : FuncId := if i = 1 then 118 else 119
def popH (op : Int) (i : Nat) : Bool := if i = 0 then false else if i = 1 then oneB op else twoB op
def pushF (i : Nat) : FuncId := if i = 1 then 124 else 125
def pushH (op : Int) (i : Nat) : Bool := if i = 0 then false else if i = 1 then putOneB op else putTwoB op
theorem arg_first (op : Int) : ((firstH (argH op) 0 7 : Nat) : Int) = argZ op := by
  unfold argZ
  simp only [firstH, argH, Nat.reduceAdd, Nat.reduceEqDiff, if_true, if_false, Bool.false_eq_true]
  cases numberB op <;> cases placeB op <;> cases localB op <;> cases tagB op <;> cases functionB op <;> cases portB op <;> rfl
theorem pop_first (op : Int) : ((firstH (popH op) 0 3 : Nat) : Int) = popsZ op := by
  unfold popsZ
  simp only [firstH, popH, Nat.reduceAdd, Nat.reduceEqDiff, if_true, if_false, Bool.false_eq_true]
  cases oneB op <;> cases twoB op <;> rfl
theorem push_first (op : Int) : ((firstH (pushH op) 0 3 : Nat) : Int) = pushesZ op := by
  unfold pushesZ
  simp only [firstH, pushH, Nat.reduceAdd, Nat.reduceEqDiff, if_true, if_false, Bool.false_eq_true]
  cases putOneB op <;> cases putTwoB op <;> rfl

set_option maxRecDepth 100000 in
set_option maxHeartbeats 4000000 in
theorem arg_any (op : Int) (w : World) : Calls Try.prog 79 #[.int .i64 op] w fun e w' => e = .returned (.int .i64 (argZ op)) ∧ Below w.heap.size w w' := by
  go_enter Try.func79, Try.ntmps79
  go_wp2_with fail
  have hnew : (w.alloc (.cells #[.nilFunc, .func (.func 109) #[] #[], .func (.func 110) #[] #[], .func (.func 111) #[] #[], .func (.func 112) #[] #[], .func (.func 113) #[] #[], .func (.func 114) #[] #[]] 126)).heap[w.heap.size]? = some (.cells #[.nilFunc, .func (.func 109) #[] #[], .func (.func 110) #[] #[], .func (.func 111) #[] #[], .func (.func 112) #[] #[], .func (.func 113) #[] #[], .func (.func 114) #[] #[]] 126 (0, 0)) := heap_alloc_new w _
  have hb := below_alloc w (.cells #[.nilFunc, .func (.func 109) #[] #[], .func (.func 110) #[] #[], .func (.func 111) #[] #[], .func (.func 112) #[] #[], .func (.func 113) #[] #[], .func (.func 114) #[] #[]] 126)
  refine (which_any op 7 7 argF (argH op) w.heap.size _ (by decide) (by rw [cell_blk hnew]; rfl) (fun i h1 h2 => ?_) (fun i h1 h2 w' => ?_) (fun i h1 h2 xs w' => ?_) rfl).mono ?_
  · rw [cell_blk hnew]
    rcases (by omega : i = 1 ∨ i = 2 ∨ i = 3 ∨ i = 4 ∨ i = 5 ∨ i = 6) with rfl | rfl | rfl | rfl | rfl | rfl <;> rfl
  · rcases (by omega : i = 1 ∨ i = 2 ∨ i = 3 ∨ i = 4 ∨ i = 5 ∨ i = 6) with rfl | rfl | rfl | rfl | rfl | rfl
    · exact hasNumber_any op w'
    · exact hasPlace_any op w'
    · exact hasLocal_any op w'
    · exact hasTag_any op w'
    · exact hasFunction_any op w'
    · exact hasPort_any op w'
  · rcases (by omega : i = 1 ∨ i = 2 ∨ i = 3 ∨ i = 4 ∨ i = 5 ∨ i = 6) with rfl | rfl | rfl | rfl | rfl | rfl
    · exact Try.call109 xs w'
    · exact Try.call110 xs w'
    · exact Try.call111 xs w'
    · exact Try.call112 xs w'
    · exact Try.call113 xs w'
    · exact Try.call114 xs w'
  · rintro e w' ⟨rfl, rfl⟩
    rw [arg_first]
    go_wp2_with fail
    go_ret
    exact ⟨rfl, hb⟩

set_option maxRecDepth 100000 in
set_option maxHeartbeats 4000000 in
theorem pops_any (op : Int) (w : World) : Calls Try.prog 90 #[.int .i64 op] w fun e w' => e = .returned (.int .i64 (popsZ op)) ∧ Below w.heap.size w w' := by
  go_enter Try.func90, Try.ntmps90
  go_wp2_with fail
  have hnew : (w.alloc (.cells #[.nilFunc, .func (.func 118) #[] #[], .func (.func 119) #[] #[]] 126)).heap[w.heap.size]? = some (.cells #[.nilFunc, .func (.func 118) #[] #[], .func (.func 119) #[] #[]] 126 (0, 0)) := heap_alloc_new w _
  have hb := below_alloc w (.cells #[.nilFunc, .func (.func 118) #[] #[], .func (.func 119) #[] #[]] 126)
  refine (which_any op 3 3 popF (popH op) w.heap.size _ (by decide) (by rw [cell_blk hnew]; rfl) (fun i h1 h2 => ?_) (fun i h1 h2 w' => ?_) (fun i h1 h2 xs w' => ?_) rfl).mono ?_
  · rw [cell_blk hnew]
    rcases (by omega : i = 1 ∨ i = 2) with rfl | rfl <;> rfl
  · rcases (by omega : i = 1 ∨ i = 2) with rfl | rfl
    · exact takesOne_any op w'
    · exact takesTwo_any op w'
  · rcases (by omega : i = 1 ∨ i = 2) with rfl | rfl
    · exact Try.call118 xs w'
    · exact Try.call119 xs w'
  · rintro e w' ⟨rfl, rfl⟩
    rw [pop_first]
    go_wp2_with fail
    go_ret
    exact ⟨rfl, hb⟩

set_option maxRecDepth 100000 in
set_option maxHeartbeats 4000000 in
theorem pushes_any (op : Int) (w : World) : Calls Try.prog 115 #[.int .i64 op] w fun e w' => e = .returned (.int .i64 (pushesZ op)) ∧ Below w.heap.size w w' := by
  go_enter Try.func115, Try.ntmps115
  go_wp2_with fail
  have hnew : (w.alloc (.cells #[.nilFunc, .func (.func 124) #[] #[], .func (.func 125) #[] #[]] 126)).heap[w.heap.size]? = some (.cells #[.nilFunc, .func (.func 124) #[] #[], .func (.func 125) #[] #[]] 126 (0, 0)) := heap_alloc_new w _
  have hb := below_alloc w (.cells #[.nilFunc, .func (.func 124) #[] #[], .func (.func 125) #[] #[]] 126)
  refine (which_any op 3 3 pushF (pushH op) w.heap.size _ (by decide) (by rw [cell_blk hnew]; rfl) (fun i h1 h2 => ?_) (fun i h1 h2 w' => ?_) (fun i h1 h2 xs w' => ?_) rfl).mono ?_
  · rw [cell_blk hnew]
    rcases (by omega : i = 1 ∨ i = 2) with rfl | rfl <;> rfl
  · rcases (by omega : i = 1 ∨ i = 2) with rfl | rfl
    · exact putsOne_any op w'
    · exact putsTwo_any op w'
  · rcases (by omega : i = 1 ∨ i = 2) with rfl | rfl
    · exact Try.call124 xs w'
    · exact Try.call125 xs w'
  · rintro e w' ⟨rfl, rfl⟩
    rw [push_first]
    go_wp2_with fail
    go_ret
    exact ⟨rfl, hb⟩

end Go.Proofs.Ytlmbjnegajiphaa
