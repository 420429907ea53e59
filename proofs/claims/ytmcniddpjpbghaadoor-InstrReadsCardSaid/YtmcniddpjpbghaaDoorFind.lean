/- Find of package ops: the map from names to numbers that a call builds, and the look-up. -/
import Derived.Test.YtmcniddpjpbghaaDoorNames
import Derived.Maps.OwnSet
import Derived.Maps.OwnOps
namespace Go.Proofs.YtmcniddpjpbghaaDoor
set_option maxRecDepth 100000
open Go.RowKit Go.Maps Go.WideMaps

theorem keyS : Keyed Tryd.prog 9 := string_keyed Tryd.underlying9
theorem zeroI (w : World) : (zeroValue 3).run Tryd.prog w = .ok (.int .i64 0) w := by kernel_rfl
@[go_sem] theorem run_make_names (w : World) : (Instr.makeMap 105 (some (.int .i64 27))).run Tryd.prog w = .ok (.map (some w.heap.size)) (w.alloc (.map #[] 0)) := by
  simp [Instr.makeMap, go_sem]

def nmD (i : Nat) : Lit := .string (nm i).data.toList
def mapD : Nat → DataW Unit
  | 0 => .map []
  | i + 1 => (mapD i).put (nmD (i + 1)) (.lit (.int .i64 ((i + 1 : Nat) : Int)))
theorem nm_short (i : Nat) : (nm i).size ≤ maxLen := by
  have h : ∀ l ∈ nmsL, l.length ≤ 7 := by decide
  have : (nmsL.getD i []).length ≤ 7 := by
    rw [List.getD_eq_getElem?_getD]
    cases hc : nmsL[i]? with
    | none => simp
    | some l => exact h l (List.mem_of_getElem? hc)
  have e : (nm i).size = (nmsL.getD i []).length := by unfold nm ByteArray.size; simp
  rw [e]; unfold maxLen; omega

/-- Block b of w is the map of the first n names. -/
def MapV (w : World) (b n : Nat) : Prop := w.ownsMap Tryd.prog 9 (plainElem Tryd.prog 3) b n (mapD n)

set_option maxRecDepth 100000 in
set_option maxHeartbeats 4000000 in
theorem byName_any (w : World) (hN : NamesIn w) : Calls Tryd.prog 70 #[] w fun e w' => e = .returned (.map (some w.heap.size)) ∧ MapV w' w.heap.size 26 ∧ Below w.heap.size w w' := by
  have HN := Lib.hid hN; clear hN
  have HO : Hid (MapV (w.alloc (.map #[] 0)) w.heap.size 0) := Lib.hid (World.ownsMap_made w Tryd.prog 9 _)
  have HB := Lib.hid (below_alloc w (.map #[] 0))
  go_enter Tryd.func70, Tryd.ntmps70
  go_wp2_with fail
  go_loopw [2] (fun i wr => ∃ k : Nat, k ≤ 26 ∧ i = .int .i64 ((k : Int) + 1) ∧ MapV wr w.heap.size k ∧ Below w.heap.size w wr) (fun i _ => 27 - (intOf i).toNat)
  case atStart => exact ⟨0, Nat.zero_le _, rfl, HO.out, HB.out⟩
  case round =>
    clear HO HB
    obtain ⟨k, hk, rfl, hown, hb⟩ := hrel
    have HM := Lib.hid hown; have HB := Lib.hid hb; clear hown hb
    by_cases hkn : k < 26
    · have hc := (HN.out.below HB.out).2 (k + 1) (by omega)
      have HK := Lib.hid (keyOf_string_mk (s := nm (k + 1)) Tryd.underlying9 (nm_short _))
      go_wp2_with (first
        | (at_mapUpdate; refine wpList_mapUpdate_own _ rfl _ _ _ 105 rfl 9 3 keyS Tryd.underlying105 _ w.heap.size k _ rfl HM.out (by unfold maxLen; omega) _ _ _ rfl rfl HK.out _ [] (plainElem_int Tryd.underlying3 (WalkArith.wf_i64 (by omega))) ?_)
        | fail)
      intro w1 hown1 hgrow1
      have HM1 : Hid (MapV w1 w.heap.size (k + 1)) := Lib.hid hown1
      have HB1 := Lib.hid (HB.out.grown hgrow1 HB.out.size (fun j hj => by cases hj; exact Nat.le_refl _))
      have e2 : ((k : Int) + 1 + 1) = (((k + 1 : Nat) : Int) + 1) := by omega
      have HE2 := Lib.hid e2
      clear hown1 hgrow1 hc HM HB HK e2
      go_wp2_with fail
      exact ⟨⟨k + 1, by omega, by rw [HE2.out], HM1.out, HB1.out⟩, by simp only [intOf]; omega⟩
    · obtain rfl : k = 26 := by omega
      go_wp2_with fail
      go_ret
      exact ⟨rfl, HM.out, HB.out⟩

/-! What the map says. -/
theorem isMapD : ∀ n, IsMap (mapD n)
  | 0 => isMap_empty
  | n + 1 => (isMapD n).put _ _
theorem keyLit (b : List UInt8) : WideAt.IsKeyLit (.string b) := by first | trivial | (unfold WideAt.IsKeyLit; simp) | (constructor <;> simp)
/-- The last among the first n names that is l (0: none). -/
def lastL (l : List UInt8) : Nat → Nat
  | 0 => 0
  | n + 1 => if (nm (n + 1)).data.toList = l then n + 1 else lastL l n
theorem mapD_at (l : List UInt8) : ∀ n, (mapD n).atKey (.string l) (.lit (.int .i64 0)) = .lit (.int .i64 (lastL l n : Nat)) ∧ Maps.has (mapD n) (.string l) = (lastL l n != 0)
  | 0 => ⟨rfl, rfl⟩
  | n + 1 => by
    have ih := mapD_at l n
    by_cases h : (nm (n + 1)).data.toList = l
    · subst h
      have e : lastL (nm (n + 1)).data.toList (n + 1) = n + 1 := if_pos rfl
      rw [e]
      exact ⟨atKey_put_same (isMapD n) (keyLit _) _ _, has_put_same (isMapD n) (keyLit _) _⟩
    · have e : lastL l (n + 1) = lastL l n := if_neg h
      have hne : (Lit.string l) ≠ nmD (n + 1) := fun e => h (by unfold nmD at e; injection e with e; exact e.symm)
      rw [e]
      exact ⟨(atKey_put_other hne _ _).trans ih.1, (has_put_other hne _).trans ih.2⟩
theorem lastL_zero {l : List UInt8} : ∀ {n : Nat}, (∀ i, 1 ≤ i → i ≤ n → (nm i).data.toList ≠ l) → lastL l n = 0
  | 0, _ => rfl
  | n + 1, h => (if_neg (h (n + 1) (by omega) (by omega))).trans (lastL_zero fun i h1 h2 => h i h1 (by omega))
theorem firstH_zero {hz : Nat → Bool} : ∀ {m k : Nat}, (∀ i, k ≤ i → i < k + m → hz i = false) → firstH hz k m = 0
  | 0, _, _ => rfl
  | m + 1, k, h => by
    show (if hz k = true then k else firstH hz (k + 1) m) = 0
    rw [if_neg (by rw [h k (by omega) (by omega)]; decide)]
    exact firstH_zero fun i h1 h2 => h i (by omega) (by omega)
theorem findN_eq (s : ByteArray) : findN s = firstH (fun i => (nm i).data.toList == s.data.toList) 1 26 := by
  unfold findN
  congr 1
  funext i
  rw [ByteArray.toList_eq, ByteArray.toList_eq]
/-- A name's number is its own. -/
theorem nm_own : ∀ i, i < 27 → 1 ≤ i → lastL (nm i).data.toList 26 = i ∧ firstH (fun j => (nm j).data.toList == (nm i).data.toList) 1 26 = i := by decide +kernel
theorem last_first (s : ByteArray) : lastL s.data.toList 26 = findN s := by
  rw [findN_eq]
  by_cases h : ∃ i, 1 ≤ i ∧ i < 27 ∧ (nm i).data.toList = s.data.toList
  · obtain ⟨i, h1, h2, h3⟩ := h
    rw [← h3, (nm_own i h2 h1).1, (nm_own i h2 h1).2]
  · rw [lastL_zero (fun i h1 h2 e => h ⟨i, h1, by omega, e⟩), firstH_zero (fun i h1 h2 => by
      rw [beq_eq_false_iff_ne]; exact fun e => h ⟨i, h1, by omega, e⟩)]
theorem findN_nm {i : Nat} (h1 : 1 ≤ i) (h2 : i < 27) : findN (nm i) = i := by rw [findN_eq]; exact (nm_own i h2 h1).2
theorem nm_findN {s : ByteArray} (h : findN s ≠ 0) : 1 ≤ findN s ∧ findN s ≤ 26 ∧ nm (findN s) = s := by
  by_cases h' : ∃ i, 1 ≤ i ∧ i < 27 ∧ (nm i).data.toList = s.data.toList
  · obtain ⟨i, h1, h2, h3⟩ := h'
    have e : nm i = s := WideShapes.bytes_inj h3
    have := findN_nm h1 h2
    rw [e] at this
    rw [this, e]
    exact ⟨h1, by omega, rfl⟩
  · exact absurd (by rw [findN_eq, firstH_zero (fun i h1 h2 => by rw [beq_eq_false_iff_ne]; exact fun e => h' ⟨i, h1, by omega, e⟩)]) h

set_option maxRecDepth 100000 in
set_option maxHeartbeats 4000000 in
theorem find_any (s : ByteArray) (hs : s.size ≤ maxLen) (w : World) (hN : NamesIn w) : Calls Tryd.prog 43 #[.string s] w fun e w' => e = .returned (.tuple #[.int .i64 (findN s), .bool (findN s != 0)]) ∧ Below w.heap.size w w' := by
  have HK := Lib.hid (keyOf_string_mk (s := s) Tryd.underlying9 hs)
  have HF := Lib.hid (mapD_at s.data.toList 26); rw [last_first] at HF
  have HN := Lib.hid hN; clear hN
  go_enter Tryd.func43, Tryd.ntmps43
  go_wp2_with fail
  refine (byName_any w HN.out).mono ?_
  rintro e w1 ⟨rfl, hm, hb⟩
  have HM : Hid (w1.ownsMap Tryd.prog 9 (plainElem Tryd.prog 3) w.heap.size 26 (mapD 26)) := Lib.hid hm
  have HB := Lib.hid hb; clear hm hb
  go_wp2_with (first
    | (at_lookup; refine wpList_lookup_own_ok_int _ rfl _ _ 105 rfl 9 3 .i64 keyS Tryd.underlying105 Tryd.underlying3 (zeroI _) w.heap.size 26 _ rfl HM.out _ _ rfl HK.out ?_)
    | fail)
  intro c hat hwc
  have e1 : c = (findN s : Int) := by
    have := hat.symm.trans HF.out.1
    injection this with this; injection this
  subst e1
  rw [HF.out.2]
  clear hat hwc
  go_wp2_with fail
  go_ret2
  exact ⟨rfl, HB.out⟩

end Go.Proofs.YtmcniddpjpbghaaDoor
