/- The instructions' names: the table that the package lays, Name; the reference's list, its Name and Find. -/
import Derived.Test.YtmcniddpjpbghaaDoorWhich
namespace Go.Proofs.YtmcniddpjpbghaaDoor
set_option maxRecDepth 100000
open Go.RowKit

/-- The names by number (0: none). -/
def nmsL : List (List UInt8) := [[], [112, 117, 115, 104], [112, 111, 112], [100, 117, 112], [97, 100, 100], [115, 117, 98], [109, 117, 108], [100, 105, 118], [108, 101, 115, 115], [101, 113], [106, 117, 109, 112], [106, 117, 109, 112, 122], [108, 111, 97, 100], [115, 116, 111, 114, 101], [108, 97, 98, 101, 108], [114, 97, 105, 115, 101], [105, 110, 112, 117, 116], [110, 101, 119], [114, 101, 97, 100], [119, 114, 105, 116, 101], [102, 111, 114, 107], [119, 97, 105, 116], [101, 109, 105, 116], [114, 101, 108, 101, 97, 115, 101], [116, 97, 107, 101], [114, 101, 116], [102, 97, 105, 108]]
def nm (i : Nat) : ByteArray := ⟨(nmsL.getD i []).toArray⟩
/-- The variable's cells hold them. -/
def NamesIn (w : World) : Prop := 0 < w.heap.size ∧ ∀ i, i < 27 → w.cell? ⟨0, i, none⟩ = some (.string (nm i))
theorem NamesIn.below {w w' : World} (h : NamesIn w) (hb : Below w.heap.size w w') : NamesIn w' :=
  ⟨Nat.lt_of_lt_of_le h.1 hb.size, fun i hi => (hb.cell (p := ⟨0, i, none⟩) h.1).trans (h.2 i hi)⟩
/-- What an instruction is called. -/
def nameA (op : Int) : ByteArray := if knownB op then nm op.toNat else ⟨#[]⟩

set_option maxRecDepth 100000 in
set_option maxHeartbeats 4000000 in
theorem name_any (op : Int) (w : World) (hN : NamesIn w) : Calls Tryd.prog 34 #[.int .i64 op] w fun e w' => e = .returned (.string (nameA op)) ∧ w' = w := by
  cases hk : knownB op with
  | false =>
    have HE := Lib.hid (show nameA op = ⟨#[]⟩ by unfold nameA; rw [hk]; rfl)
    have HK := Lib.hid (known_any op w); rw [hk] at HK
    clear hk
    go_enter Tryd.func34, Tryd.ntmps34
    go_wp2_with fail
    refine HK.out.mono ?_
    rintro e w' ⟨rfl, rfl⟩
    go_wp2_with fail
    go_ret
    rw [HE.out]; exact ⟨rfl, rfl⟩
  | true =>
    have h2 := (knownB_iff op).1 hk
    obtain ⟨k, rfl⟩ : ∃ k : Nat, op = k := ⟨op.toNat, by omega⟩
    have HE := Lib.hid (show nameA k = nm k by unfold nameA; rw [hk]; simp)
    have HK := Lib.hid (known_any k w); rw [hk] at HK
    have hc := hN.2 k (by omega)
    clear hk
    go_enter Tryd.func34, Tryd.ntmps34
    go_wp2_with fail
    refine HK.out.mono ?_
    rintro e w' ⟨rfl, rfl⟩
    go_wp2_with fail
    go_ret
    rw [HE.out]; exact ⟨rfl, rfl⟩

/-- The reference's list. -/
def refBlk : Array Value := ((nmsL.drop 1).map fun l => Value.string ⟨l.toArray⟩).toArray
theorem refBlk_get {k : Nat} (hk : k < 26) : refBlk[k]? = some (.string (nm (k + 1))) := by
  have h1 : (nmsL.drop 1)[k]? = some (nmsL.getD (k + 1) []) := by
    have hl : nmsL.length = 27 := rfl
    rw [List.getElem?_drop, Nat.add_comm 1 k, List.getD_eq_getElem?_getD, List.getElem?_eq_getElem (by omega)]; rfl
  unfold refBlk nm
  rw [List.getElem?_toArray, List.getElem?_map, h1]; rfl

set_option maxRecDepth 100000 in
set_option maxHeartbeats 4000000 in
theorem refNames_any (w : World) : Calls Tryd.prog 65 #[] w fun e w' => e = .returned (.slice (some ⟨w.heap.size, 0, none⟩) 26 26) ∧ w' = w.alloc (.cells refBlk 9) := by
  go_enter Tryd.func65, Tryd.ntmps65
  go_wp2_with fail
  go_ret
  exact ⟨rfl, rfl⟩

/-- The number of a name (0: none). -/
def findN (s : ByteArray) : Nat := firstH (fun i => (nm i).toList == s.toList) 1 26

set_option maxRecDepth 100000 in
set_option maxHeartbeats 4000000 in
theorem refFind_any (s : ByteArray) (w : World) : Calls Tryd.prog 45 #[.string s] w fun e w' => e = .returned (.tuple #[.int .i64 (findN s), .bool (findN s != 0)]) ∧ Below w.heap.size w w' := by
  have hnew : (w.alloc (.cells refBlk 9)).heap[w.heap.size]? = some (.cells refBlk 9 (0, 0)) := heap_alloc_new w _
  have HB := Lib.hid (below_alloc w (.cells refBlk 9))
  have HC : Hid (∀ k, k < 26 → (w.alloc (.cells refBlk 9)).cell? ⟨w.heap.size, k, none⟩ = some (.string (nm (k + 1)))) := Lib.hid fun k hk => by rw [cell_blk hnew]; exact refBlk_get hk
  clear hnew
  go_enter Tryd.func45, Tryd.ntmps45
  go_wp2_with fail
  refine (refNames_any w).mono ?_
  rintro e w1 ⟨rfl, rfl⟩
  obtain ⟨w2, hw2⟩ : ∃ w2, w2 = w.alloc (.cells refBlk 9) := ⟨_, rfl⟩
  rw [← hw2] at HC HB
  rw [← hw2]
  clear hw2
  go_wp2_with fail
  go_loopw [5] (fun i wr => ∃ k : Nat, k ≤ 26 ∧ i = .int .i64 k ∧ findN s = firstH (fun i => (nm i).toList == s.toList) (k + 1) (26 - k) ∧ wr = w2) (fun i _ => 26 - (intOf i).toNat)
  case atStart => exact ⟨0, Nat.zero_le _, rfl, rfl, rfl⟩
  case round =>
    obtain ⟨k, hk, rfl, he, hw⟩ := hrel
    have HE := Lib.hid he; clear he
    by_cases hkn : k < 26
    · have e1 : 26 - k = (26 - (k + 1)) + 1 := by omega
      have hck := HC.out k hkn
      have e3 : findN s = if ((nm (k + 1)).toList == s.toList) = true then k + 1 else firstH (fun i => (nm i).toList == s.toList) (k + 1 + 1) (26 - (k + 1)) := by rw [HE.out, e1]; rfl
      clear e1
      cases hzk : ((nm (k + 1)).toList == s.toList) with
      | false =>
        have HE3 : Hid (findN s = firstH (fun i => (nm i).toList == s.toList) (k + 1 + 1) (26 - (k + 1))) := Lib.hid (by rw [e3, hzk]; rfl)
        clear e3
        have e2 : ((k : Int) + 1) = ((k + 1 : Nat) : Int) := by omega
        have HE4 := Lib.hid e2; clear e2
        go_wp2_with fail
        exact ⟨⟨k + 1, by omega, by rw [HE4.out], HE3.out, trivial⟩, by simp only [intOf]; omega⟩
      | true =>
        have HE3 : Hid (findN s = k + 1) := Lib.hid (by rw [e3, hzk]; rfl)
        clear e3
        go_wp2_with fail
        go_ret2
        rw [HE3.out]
        exact ⟨rfl, HB.out⟩
    · have e1 : 26 - k = 0 := by omega
      have HE3 : Hid (findN s = 0) := Lib.hid (by rw [HE.out, e1]; rfl)
      clear e1
      go_wp2_with fail
      go_ret2
      rw [HE3.out]
      exact ⟨rfl, HB.out⟩

set_option maxRecDepth 100000 in
set_option maxHeartbeats 4000000 in
theorem refName_any (op : Int) (w : World) : Calls Tryd.prog 38 #[.int .i64 op] w fun e w' => e = .returned (.string (nameA op)) ∧ Below w.heap.size w w' := by
  cases hk : knownB op with
  | false =>
    have HE := Lib.hid (show nameA op = ⟨#[]⟩ by unfold nameA; rw [hk]; rfl)
    have HK := Lib.hid (refKnown_any op w); rw [hk] at HK
    clear hk
    go_enter Tryd.func38, Tryd.ntmps38
    go_wp2_with fail
    refine HK.out.mono ?_
    rintro e w' ⟨rfl, rfl⟩
    go_wp2_with fail
    go_ret
    rw [HE.out]; exact ⟨rfl, Below.refl _ _⟩
  | true =>
    have h2 := (knownB_iff op).1 hk
    obtain ⟨k, rfl⟩ : ∃ k : Nat, op = (k : Int) + 1 := ⟨op.toNat - 1, by omega⟩
    have HE := Lib.hid (show nameA ((k : Int) + 1) = nm (k + 1) by unfold nameA; rw [hk]; rfl)
    have HK := Lib.hid (refKnown_any ((k : Int) + 1) w); rw [hk] at HK
    have hnew : (w.alloc (.cells refBlk 9)).heap[w.heap.size]? = some (.cells refBlk 9 (0, 0)) := heap_alloc_new w _
    have HB := Lib.hid (below_alloc w (.cells refBlk 9))
    have hc : (w.alloc (.cells refBlk 9)).cell? ⟨w.heap.size, k, none⟩ = some (.string (nm (k + 1))) := by rw [cell_blk hnew]; exact refBlk_get (by omega)
    have hk2 : k < 26 := by omega
    clear hk hnew h2
    go_enter Tryd.func38, Tryd.ntmps38
    go_wp2_with fail
    refine HK.out.mono ?_
    rintro e w' ⟨rfl, rfl⟩
    go_wp2_with fail
    refine (refNames_any _).mono ?_
    rintro e w1 ⟨rfl, rfl⟩
    obtain ⟨w2, hw2⟩ : ∃ w2, w2 = w'.alloc (.cells refBlk 9) := ⟨_, rfl⟩
    rw [← hw2] at hc HB
    rw [← hw2]
    clear hw2
    go_wp2_with fail
    go_ret
    rw [HE.out]; exact ⟨rfl, HB.out⟩

end Go.Proofs.YtmcniddpjpbghaaDoor
