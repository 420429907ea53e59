/- What each instruction is, as plain functions of its number; the functions on one number alone, of package ops and of the reference. (Drawn by gen/ops5.py.) -/
import Derived.Test.YtlmbjnegajiphaaRows
import Derived.WalkKit
import Derived.WalkLawsBesides
import Derived.Lib.Hide
import Derived.Outline
namespace Go.Proofs.Ytlmbjnegajiphaa
set_option maxRecDepth 100000
open Go.RowKit

def knownB (op : Int) : Bool := decide (1 ≤ op) && decide (op ≤ 26)
def numberB (op : Int) : Bool := op == 1 || op == 26
def placeB (op : Int) : Bool := op == 10 || op == 11
def localB (op : Int) : Bool := op == 12 || op == 13
def tagB (op : Int) : Bool := op == 15 || op == 16 || op == 17 || op == 22
def functionB (op : Int) : Bool := op == 20
def portB (op : Int) : Bool := op == 23 || op == 24
def oneB (op : Int) : Bool := op == 2 || op == 3 || op == 11 || op == 13 || op == 16 || op == 17 || op == 18 || op == 21 || op == 22 || op == 23 || op == 25
def twoB (op : Int) : Bool := op == 4 || op == 5 || op == 6 || op == 7 || op == 8 || op == 9 || op == 19 || op == 20
def putOneB (op : Int) : Bool := op == 1 || op == 4 || op == 5 || op == 6 || op == 7 || op == 8 || op == 9 || op == 12 || op == 14 || op == 16 || op == 17 || op == 18 || op == 20 || op == 21 || op == 23
def putTwoB (op : Int) : Bool := op == 3 || op == 24
def endsB (op : Int) : Bool := op == 25 || op == 26
def argZ (op : Int) : Int := if numberB op then 1 else if placeB op then 2 else if localB op then 3 else if tagB op then 4 else if functionB op then 5 else if portB op then 6 else 0
def popsZ (op : Int) : Int := if oneB op then 1 else if twoB op then 2 else 0
def pushesZ (op : Int) : Int := if putOneB op then 1 else if putTwoB op then 2 else 0

theorem numberB_not {op : Int} (h : op ≠ 1 ∧ op ≠ 26) : numberB op = false := by
  unfold numberB; simp [h]
theorem placeB_not {op : Int} (h : op ≠ 10 ∧ op ≠ 11) : placeB op = false := by
  unfold placeB; simp [h]
theorem localB_not {op : Int} (h : op ≠ 12 ∧ op ≠ 13) : localB op = false := by
  unfold localB; simp [h]
theorem tagB_not {op : Int} (h : op ≠ 15 ∧ op ≠ 16 ∧ op ≠ 17 ∧ op ≠ 22) : tagB op = false := by
  unfold tagB; simp [h]
theorem functionB_not {op : Int} (h : op ≠ 20) : functionB op = false := by
  unfold functionB; simp [h]
theorem portB_not {op : Int} (h : op ≠ 23 ∧ op ≠ 24) : portB op = false := by
  unfold portB; simp [h]
theorem oneB_not {op : Int} (h : op ≠ 2 ∧ op ≠ 3 ∧ op ≠ 11 ∧ op ≠ 13 ∧ op ≠ 16 ∧ op ≠ 17 ∧ op ≠ 18 ∧ op ≠ 21 ∧ op ≠ 22 ∧ op ≠ 23 ∧ op ≠ 25) : oneB op = false := by
  unfold oneB; simp [h]
theorem twoB_not {op : Int} (h : op ≠ 4 ∧ op ≠ 5 ∧ op ≠ 6 ∧ op ≠ 7 ∧ op ≠ 8 ∧ op ≠ 9 ∧ op ≠ 19 ∧ op ≠ 20) : twoB op = false := by
  unfold twoB; simp [h]
theorem putOneB_not {op : Int} (h : op ≠ 1 ∧ op ≠ 4 ∧ op ≠ 5 ∧ op ≠ 6 ∧ op ≠ 7 ∧ op ≠ 8 ∧ op ≠ 9 ∧ op ≠ 12 ∧ op ≠ 14 ∧ op ≠ 16 ∧ op ≠ 17 ∧ op ≠ 18 ∧ op ≠ 20 ∧ op ≠ 21 ∧ op ≠ 23) : putOneB op = false := by
  unfold putOneB; simp [h]
theorem putTwoB_not {op : Int} (h : op ≠ 3 ∧ op ≠ 24) : putTwoB op = false := by
  unfold putTwoB; simp [h]
theorem endsB_not {op : Int} (h : op ≠ 25 ∧ op ≠ 26) : endsB op = false := by
  unfold endsB; simp [h]

set_option maxRecDepth 100000 in
set_option maxHeartbeats 4000000 in
theorem hasNumber_any (op : Int) (w : World) : Calls Try.prog 109 #[.int .i64 op] w fun e w' => e = .returned (.bool (numberB op)) ∧ w' = w := by
  rcases (by omega : op = 1 ∨ op = 26 ∨ (op ≠ 1 ∧ op ≠ 26)) with rfl | rfl | ⟨n1, n26⟩
  all_goals go_enter Try.func109, Try.ntmps109
  all_goals go_wp2_with fail
  all_goals go_ret
  · exact ⟨rfl, rfl⟩
  · exact ⟨rfl, rfl⟩
  · exact ⟨rfl, rfl⟩

set_option maxRecDepth 100000 in
set_option maxHeartbeats 4000000 in
theorem hasPlace_any (op : Int) (w : World) : Calls Try.prog 110 #[.int .i64 op] w fun e w' => e = .returned (.bool (placeB op)) ∧ w' = w := by
  rcases (by omega : op = 10 ∨ op = 11 ∨ (op ≠ 10 ∧ op ≠ 11)) with rfl | rfl | ⟨n10, n11⟩
  all_goals go_enter Try.func110, Try.ntmps110
  all_goals go_wp2_with fail
  all_goals go_ret
  · exact ⟨rfl, rfl⟩
  · exact ⟨rfl, rfl⟩
  · exact ⟨rfl, rfl⟩

set_option maxRecDepth 100000 in
set_option maxHeartbeats 4000000 in
theorem hasLocal_any (op : Int) (w : World) : Calls Try.prog 111 #[.int .i64 op] w fun e w' => e = .returned (.bool (localB op)) ∧ w' = w := by
  rcases (by omega : op = 12 ∨ op = 13 ∨ (op ≠ 12 ∧ op ≠ 13)) with rfl | rfl | ⟨n12, n13⟩
  all_goals go_enter Try.func111, Try.ntmps111
  all_goals go_wp2_with fail
  all_goals go_ret
  · exact ⟨rfl, rfl⟩
  · exact ⟨rfl, rfl⟩
  · exact ⟨rfl, rfl⟩

set_option maxRecDepth 100000 in
set_option maxHeartbeats 4000000 in
theorem hasTag_any (op : Int) (w : World) : Calls Try.prog 112 #[.int .i64 op] w fun e w' => e = .returned (.bool (tagB op)) ∧ w' = w := by
  rcases (by omega : op = 15 ∨ op = 16 ∨ op = 17 ∨ op = 22 ∨ (op ≠ 15 ∧ op ≠ 16 ∧ op ≠ 17 ∧ op ≠ 22)) with rfl | rfl | rfl | rfl | ⟨n15, n16, n17, n22⟩
  all_goals go_enter Try.func112, Try.ntmps112
  all_goals go_wp2_with fail
  all_goals go_ret
  · exact ⟨rfl, rfl⟩
  · exact ⟨rfl, rfl⟩
  · exact ⟨rfl, rfl⟩
  · exact ⟨rfl, rfl⟩
  · rw [tagB_not ⟨n15, n16, n17, n22⟩]; exact ⟨rfl, rfl⟩

set_option maxRecDepth 100000 in
set_option maxHeartbeats 4000000 in
theorem hasFunction_any (op : Int) (w : World) : Calls Try.prog 113 #[.int .i64 op] w fun e w' => e = .returned (.bool (functionB op)) ∧ w' = w := by
  rcases (by omega : op = 20 ∨ (op ≠ 20)) with rfl | n20
  all_goals go_enter Try.func113, Try.ntmps113
  all_goals go_wp2_with fail
  all_goals go_ret
  · exact ⟨rfl, rfl⟩
  · exact ⟨rfl, rfl⟩

set_option maxRecDepth 100000 in
set_option maxHeartbeats 4000000 in
theorem hasPort_any (op : Int) (w : World) : Calls Try.prog 114 #[.int .i64 op] w fun e w' => e = .returned (.bool (portB op)) ∧ w' = w := by
  rcases (by omega : op = 23 ∨ op = 24 ∨ (op ≠ 23 ∧ op ≠ 24)) with rfl | rfl | ⟨n23, n24⟩
  all_goals go_enter Try.func114, Try.ntmps114
  all_goals go_wp2_with fail
  all_goals go_ret
  · exact ⟨rfl, rfl⟩
  · exact ⟨rfl, rfl⟩
  · exact ⟨rfl, rfl⟩

set_option maxRecDepth 100000 in
set_option maxHeartbeats 4000000 in
theorem takesOne_any (op : Int) (w : World) : Calls Try.prog 118 #[.int .i64 op] w fun e w' => e = .returned (.bool (oneB op)) ∧ w' = w := by
  rcases (by omega : op = 2 ∨ op = 3 ∨ op = 11 ∨ op = 13 ∨ op = 16 ∨ op = 17 ∨ op = 18 ∨ op = 21 ∨ op = 22 ∨ op = 23 ∨ op = 25 ∨ (op ≠ 2 ∧ op ≠ 3 ∧ op ≠ 11 ∧ op ≠ 13 ∧ op ≠ 16 ∧ op ≠ 17 ∧ op ≠ 18 ∧ op ≠ 21 ∧ op ≠ 22 ∧ op ≠ 23 ∧ op ≠ 25)) with rfl | rfl | rfl | rfl | rfl | rfl | rfl | rfl | rfl | rfl | rfl | ⟨n2, n3, n11, n13, n16, n17, n18, n21, n22, n23, n25⟩
  all_goals go_enter Try.func118, Try.ntmps118
  all_goals go_wp2_with fail
  all_goals go_ret
  · exact ⟨rfl, rfl⟩
  · exact ⟨rfl, rfl⟩
  · exact ⟨rfl, rfl⟩
  · exact ⟨rfl, rfl⟩
  · exact ⟨rfl, rfl⟩
  · exact ⟨rfl, rfl⟩
  · exact ⟨rfl, rfl⟩
  · exact ⟨rfl, rfl⟩
  · exact ⟨rfl, rfl⟩
  · exact ⟨rfl, rfl⟩
  · exact ⟨rfl, rfl⟩
  · rw [oneB_not ⟨n2, n3, n11, n13, n16, n17, n18, n21, n22, n23, n25⟩]; exact ⟨rfl, rfl⟩

set_option maxRecDepth 100000 in
set_option maxHeartbeats 4000000 in
theorem takesTwo_any (op : Int) (w : World) : Calls Try.prog 119 #[.int .i64 op] w fun e w' => e = .returned (.bool (twoB op)) ∧ w' = w := by
  rcases (by omega : op = 4 ∨ op = 5 ∨ op = 6 ∨ op = 7 ∨ op = 8 ∨ op = 9 ∨ op = 19 ∨ op = 20 ∨ (op ≠ 4 ∧ op ≠ 5 ∧ op ≠ 6 ∧ op ≠ 7 ∧ op ≠ 8 ∧ op ≠ 9 ∧ op ≠ 19 ∧ op ≠ 20)) with rfl | rfl | rfl | rfl | rfl | rfl | rfl | rfl | ⟨n4, n5, n6, n7, n8, n9, n19, n20⟩
  all_goals go_enter Try.func119, Try.ntmps119
  all_goals go_wp2_with fail
  all_goals go_ret
  · exact ⟨rfl, rfl⟩
  · exact ⟨rfl, rfl⟩
  · exact ⟨rfl, rfl⟩
  · exact ⟨rfl, rfl⟩
  · exact ⟨rfl, rfl⟩
  · exact ⟨rfl, rfl⟩
  · exact ⟨rfl, rfl⟩
  · exact ⟨rfl, rfl⟩
  · rw [twoB_not ⟨n4, n5, n6, n7, n8, n9, n19, n20⟩]; exact ⟨rfl, rfl⟩

set_option maxRecDepth 100000 in
set_option maxHeartbeats 4000000 in
theorem putsOne_any (op : Int) (w : World) : Calls Try.prog 124 #[.int .i64 op] w fun e w' => e = .returned (.bool (putOneB op)) ∧ w' = w := by
  rcases (by omega : op = 1 ∨ op = 4 ∨ op = 5 ∨ op = 6 ∨ op = 7 ∨ op = 8 ∨ op = 9 ∨ op = 12 ∨ op = 14 ∨ op = 16 ∨ op = 17 ∨ op = 18 ∨ op = 20 ∨ op = 21 ∨ op = 23 ∨ (op ≠ 1 ∧ op ≠ 4 ∧ op ≠ 5 ∧ op ≠ 6 ∧ op ≠ 7 ∧ op ≠ 8 ∧ op ≠ 9 ∧ op ≠ 12 ∧ op ≠ 14 ∧ op ≠ 16 ∧ op ≠ 17 ∧ op ≠ 18 ∧ op ≠ 20 ∧ op ≠ 21 ∧ op ≠ 23)) with rfl | rfl | rfl | rfl | rfl | rfl | rfl | rfl | rfl | rfl | rfl | rfl | rfl | rfl | rfl | ⟨n1, n4, n5, n6, n7, n8, n9, n12, n14, n16, n17, n18, n20, n21, n23⟩
  all_goals go_enter Try.func124, Try.ntmps124
  all_goals go_wp2_with fail
  all_goals go_ret
  · exact ⟨rfl, rfl⟩
  · exact ⟨rfl, rfl⟩
  · exact ⟨rfl, rfl⟩
  · exact ⟨rfl, rfl⟩
  · exact ⟨rfl, rfl⟩
  · exact ⟨rfl, rfl⟩
  · exact ⟨rfl, rfl⟩
  · exact ⟨rfl, rfl⟩
  · exact ⟨rfl, rfl⟩
  · exact ⟨rfl, rfl⟩
  · exact ⟨rfl, rfl⟩
  · exact ⟨rfl, rfl⟩
  · exact ⟨rfl, rfl⟩
  · exact ⟨rfl, rfl⟩
  · exact ⟨rfl, rfl⟩
  · rw [putOneB_not ⟨n1, n4, n5, n6, n7, n8, n9, n12, n14, n16, n17, n18, n20, n21, n23⟩]; exact ⟨rfl, rfl⟩

set_option maxRecDepth 100000 in
set_option maxHeartbeats 4000000 in
theorem putsTwo_any (op : Int) (w : World) : Calls Try.prog 125 #[.int .i64 op] w fun e w' => e = .returned (.bool (putTwoB op)) ∧ w' = w := by
  rcases (by omega : op = 3 ∨ op = 24 ∨ (op ≠ 3 ∧ op ≠ 24)) with rfl | rfl | ⟨n3, n24⟩
  all_goals go_enter Try.func125, Try.ntmps125
  all_goals go_wp2_with fail
  all_goals go_ret
  · exact ⟨rfl, rfl⟩
  · exact ⟨rfl, rfl⟩
  · exact ⟨rfl, rfl⟩

set_option maxRecDepth 100000 in
set_option maxHeartbeats 4000000 in
theorem ends_any (op : Int) (w : World) : Calls Try.prog 116 #[.int .i64 op] w fun e w' => e = .returned (.bool (endsB op)) ∧ w' = w := by
  rcases (by omega : op = 25 ∨ op = 26 ∨ (op ≠ 25 ∧ op ≠ 26)) with rfl | rfl | ⟨n25, n26⟩
  all_goals go_enter Try.func116, Try.ntmps116
  all_goals go_wp2_with fail
  all_goals go_ret
  · exact ⟨rfl, rfl⟩
  · exact ⟨rfl, rfl⟩
  · exact ⟨rfl, rfl⟩

set_option maxRecDepth 100000 in
set_option maxHeartbeats 4000000 in
theorem refEnds_any (op : Int) (w : World) : Calls Try.prog 86 #[.int .i64 op] w fun e w' => e = .returned (.bool (endsB op)) ∧ w' = w := by
  rcases (by omega : op = 25 ∨ op = 26 ∨ (op ≠ 25 ∧ op ≠ 26)) with rfl | rfl | ⟨n25, n26⟩
  all_goals go_enter Try.func86, Try.ntmps86
  all_goals go_wp2_with fail
  all_goals go_ret
  · exact ⟨rfl, rfl⟩
  · exact ⟨rfl, rfl⟩
  · exact ⟨rfl, rfl⟩

set_option maxRecDepth 100000 in
set_option maxHeartbeats 4000000 in
theorem refArg_any (op : Int) (w : World) : Calls Try.prog 58 #[.int .i64 op] w fun e w' => e = .returned (.int .i64 (argZ op)) ∧ w' = w := by
  rcases (by omega : op = 1 ∨ op = 26 ∨ op = 10 ∨ op = 11 ∨ op = 12 ∨ op = 13 ∨ op = 15 ∨ op = 16 ∨ op = 17 ∨ op = 22 ∨ op = 20 ∨ op = 23 ∨ op = 24 ∨ (op ≠ 1 ∧ op ≠ 26 ∧ op ≠ 10 ∧ op ≠ 11 ∧ op ≠ 12 ∧ op ≠ 13 ∧ op ≠ 15 ∧ op ≠ 16 ∧ op ≠ 17 ∧ op ≠ 22 ∧ op ≠ 20 ∧ op ≠ 23 ∧ op ≠ 24)) with rfl | rfl | rfl | rfl | rfl | rfl | rfl | rfl | rfl | rfl | rfl | rfl | rfl | ⟨n1, n26, n10, n11, n12, n13, n15, n16, n17, n22, n20, n23, n24⟩
  all_goals go_enter Try.func58, Try.ntmps58
  all_goals go_wp2_with fail
  all_goals go_ret
  · exact ⟨rfl, rfl⟩
  · exact ⟨rfl, rfl⟩
  · exact ⟨rfl, rfl⟩
  · exact ⟨rfl, rfl⟩
  · exact ⟨rfl, rfl⟩
  · exact ⟨rfl, rfl⟩
  · exact ⟨rfl, rfl⟩
  · exact ⟨rfl, rfl⟩
  · exact ⟨rfl, rfl⟩
  · exact ⟨rfl, rfl⟩
  · exact ⟨rfl, rfl⟩
  · exact ⟨rfl, rfl⟩
  · exact ⟨rfl, rfl⟩
  · unfold argZ
    rw [numberB_not ⟨n1, n26⟩, placeB_not ⟨n10, n11⟩, localB_not ⟨n12, n13⟩, tagB_not ⟨n15, n16, n17, n22⟩, functionB_not n20, portB_not ⟨n23, n24⟩]; exact ⟨rfl, rfl⟩

set_option maxRecDepth 100000 in
set_option maxHeartbeats 4000000 in
theorem refPops_any (op : Int) (w : World) : Calls Try.prog 84 #[.int .i64 op] w fun e w' => e = .returned (.int .i64 (popsZ op)) ∧ w' = w := by
  rcases (by omega : op = 2 ∨ op = 3 ∨ op = 11 ∨ op = 13 ∨ op = 16 ∨ op = 17 ∨ op = 18 ∨ op = 21 ∨ op = 22 ∨ op = 23 ∨ op = 25 ∨ op = 4 ∨ op = 5 ∨ op = 6 ∨ op = 7 ∨ op = 8 ∨ op = 9 ∨ op = 19 ∨ op = 20 ∨ (op ≠ 2 ∧ op ≠ 3 ∧ op ≠ 11 ∧ op ≠ 13 ∧ op ≠ 16 ∧ op ≠ 17 ∧ op ≠ 18 ∧ op ≠ 21 ∧ op ≠ 22 ∧ op ≠ 23 ∧ op ≠ 25 ∧ op ≠ 4 ∧ op ≠ 5 ∧ op ≠ 6 ∧ op ≠ 7 ∧ op ≠ 8 ∧ op ≠ 9 ∧ op ≠ 19 ∧ op ≠ 20)) with rfl | rfl | rfl | rfl | rfl | rfl | rfl | rfl | rfl | rfl | rfl | rfl | rfl | rfl | rfl | rfl | rfl | rfl | rfl | ⟨n2, n3, n11, n13, n16, n17, n18, n21, n22, n23, n25, n4, n5, n6, n7, n8, n9, n19, n20⟩
  all_goals go_enter Try.func84, Try.ntmps84
  all_goals go_wp2_with fail
  all_goals go_ret
  · exact ⟨rfl, rfl⟩
  · exact ⟨rfl, rfl⟩
  · exact ⟨rfl, rfl⟩
  · exact ⟨rfl, rfl⟩
  · exact ⟨rfl, rfl⟩
  · exact ⟨rfl, rfl⟩
  · exact ⟨rfl, rfl⟩
  · exact ⟨rfl, rfl⟩
  · exact ⟨rfl, rfl⟩
  · exact ⟨rfl, rfl⟩
  · exact ⟨rfl, rfl⟩
  · exact ⟨rfl, rfl⟩
  · exact ⟨rfl, rfl⟩
  · exact ⟨rfl, rfl⟩
  · exact ⟨rfl, rfl⟩
  · exact ⟨rfl, rfl⟩
  · exact ⟨rfl, rfl⟩
  · exact ⟨rfl, rfl⟩
  · exact ⟨rfl, rfl⟩
  · unfold popsZ
    rw [oneB_not ⟨n2, n3, n11, n13, n16, n17, n18, n21, n22, n23, n25⟩, twoB_not ⟨n4, n5, n6, n7, n8, n9, n19, n20⟩]; exact ⟨rfl, rfl⟩

set_option maxRecDepth 100000 in
set_option maxHeartbeats 4000000 in
theorem refPushes_any (op : Int) (w : World) : Calls Try.prog 85 #[.int .i64 op] w fun e w' => e = .returned (.int .i64 (pushesZ op)) ∧ w' = w := by
  rcases (by omega : op = 1 ∨ op = 4 ∨ op = 5 ∨ op = 6 ∨ op = 7 ∨ op = 8 ∨ op = 9 ∨ op = 12 ∨ op = 14 ∨ op = 16 ∨ op = 17 ∨ op = 18 ∨ op = 20 ∨ op = 21 ∨ op = 23 ∨ op = 3 ∨ op = 24 ∨ (op ≠ 1 ∧ op ≠ 4 ∧ op ≠ 5 ∧ op ≠ 6 ∧ op ≠ 7 ∧ op ≠ 8 ∧ op ≠ 9 ∧ op ≠ 12 ∧ op ≠ 14 ∧ op ≠ 16 ∧ op ≠ 17 ∧ op ≠ 18 ∧ op ≠ 20 ∧ op ≠ 21 ∧ op ≠ 23 ∧ op ≠ 3 ∧ op ≠ 24)) with rfl | rfl | rfl | rfl | rfl | rfl | rfl | rfl | rfl | rfl | rfl | rfl | rfl | rfl | rfl | rfl | rfl | ⟨n1, n4, n5, n6, n7, n8, n9, n12, n14, n16, n17, n18, n20, n21, n23, n3, n24⟩
  all_goals go_enter Try.func85, Try.ntmps85
  all_goals go_wp2_with fail
  all_goals go_ret
  · exact ⟨rfl, rfl⟩
  · exact ⟨rfl, rfl⟩
  · exact ⟨rfl, rfl⟩
  · exact ⟨rfl, rfl⟩
  · exact ⟨rfl, rfl⟩
  · exact ⟨rfl, rfl⟩
  · exact ⟨rfl, rfl⟩
  · exact ⟨rfl, rfl⟩
  · exact ⟨rfl, rfl⟩
  · exact ⟨rfl, rfl⟩
  · exact ⟨rfl, rfl⟩
  · exact ⟨rfl, rfl⟩
  · exact ⟨rfl, rfl⟩
  · exact ⟨rfl, rfl⟩
  · exact ⟨rfl, rfl⟩
  · exact ⟨rfl, rfl⟩
  · exact ⟨rfl, rfl⟩
  · unfold pushesZ
    rw [putOneB_not ⟨n1, n4, n5, n6, n7, n8, n9, n12, n14, n16, n17, n18, n20, n21, n23⟩, putTwoB_not ⟨n3, n24⟩]; exact ⟨rfl, rfl⟩

theorem knownB_iff (op : Int) : knownB op = true ↔ 1 ≤ op ∧ op ≤ 26 := by unfold knownB; simp

theorem known_any (op : Int) (w : World) : Calls Try.prog 89 #[.int .i64 op] w fun e w' => e = .returned (.bool (knownB op)) ∧ w' = w := by
  rcases (by omega : op < 1 ∨ 26 < op ∨ 1 ≤ op ∧ op ≤ 26) with h | h | h
  · have d1 : decide (1 ≤ op) = false := decide_eq_false (by omega)
    have d2 : ¬ 1 ≤ op := by omega
    go_enter Try.func89, Try.ntmps89
    go_wp2_with fail
    go_ret
    unfold knownB; rw [d1]; exact ⟨rfl, rfl⟩
  · have d1 : decide (op ≤ 26) = false := decide_eq_false (by omega)
    have d0 : decide (1 ≤ op) = true := decide_eq_true (by omega)
    have d2 : 1 ≤ op := by omega
    have d3 : ¬ op ≤ 26 := by omega
    go_enter Try.func89, Try.ntmps89
    go_wp2_with fail
    go_ret
    unfold knownB; rw [d1, d0]; exact ⟨rfl, rfl⟩
  · have d1 : decide (1 ≤ op) = true := decide_eq_true h.1
    have d2 : decide (op ≤ 26) = true := decide_eq_true h.2
    have d3 := h.1
    have d4 := h.2
    go_enter Try.func89, Try.ntmps89
    go_wp2_with fail
    go_ret
    unfold knownB; rw [d1, d2]; exact ⟨rfl, rfl⟩

theorem refKnown_any (op : Int) (w : World) : Calls Try.prog 117 #[.int .i64 op] w fun e w' => e = .returned (.bool (knownB op)) ∧ w' = w := by
  rcases (by omega : op < 1 ∨ 26 < op ∨ 1 ≤ op ∧ op ≤ 26) with h | h | h
  · have d1 : decide (1 ≤ op) = false := decide_eq_false (by omega)
    have d2 : ¬ 1 ≤ op := by omega
    go_enter Try.func117, Try.ntmps117
    go_wp2_with fail
    go_ret
    unfold knownB; rw [d1]; exact ⟨rfl, rfl⟩
  · have d1 : decide (op ≤ 26) = false := decide_eq_false (by omega)
    have d0 : decide (1 ≤ op) = true := decide_eq_true (by omega)
    have d2 : 1 ≤ op := by omega
    have d3 : ¬ op ≤ 26 := by omega
    go_enter Try.func117, Try.ntmps117
    go_wp2_with fail
    go_ret
    unfold knownB; rw [d1, d0]; exact ⟨rfl, rfl⟩
  · have d1 : decide (1 ≤ op) = true := decide_eq_true h.1
    have d2 : decide (op ≤ 26) = true := decide_eq_true h.2
    have d3 := h.1
    have d4 := h.2
    go_enter Try.func117, Try.ntmps117
    go_wp2_with fail
    go_ret
    unfold knownB; rw [d1, d2]; exact ⟨rfl, rfl⟩

end Go.Proofs.Ytlmbjnegajiphaa
