/- What an argument that is a list of lists of 32 bits' numbers holds; the walk of known (law 14). -/
import Derived.Test.YtnelaeafjejjgaaLaw
import Derived.Test.YtnelaeafjejjgaaNew14
import Derived.Test.YtnelaeafjejjgaaLiesI
import Derived.Deep.Matrix
import Derived.Deep.Grids
namespace Go.Proofs.Ytnelaeafjejjgaa
set_option maxRecDepth 100000
open Go.RowKit Go.WideShapes Go.ChangeShapes Go.Deep

section
variable {H : Type} {enc : TypeId × Value → H} {W : World}
theorem open_tab32 {base : Nat} {v : Value} {d : DataW H} {ps : List MemPlace} (hv : Value.okWide Try.prog W .any base 22 v) (h : DataW.Trod enc Try.prog W 0 (fun _ => true) true 22 v d ps) :
    ∃ rs : List Rw32, Tab32 W W.heap.size v rs ∧ rs.length ≤ maxLen ∧ ∀ r ∈ rs, r.l.length ≤ maxLen := by
  obtain ⟨a0, len, cap, rfl⟩ := okWide_slice Try.underlying22 hv
  obtain ⟨fuel, hf⟩ := h
  rcases open_int_rows Try.underlying22 Try.underlying24 Try.underlying21 (by kernel_rfl) (by kernel_rfl) hf with ⟨hcs, _⟩ | ⟨a, len', cap', A, L, C, Z, hcs, _, hl, hm, _, hr⟩
  · simp [Value.cells] at hcs
    obtain ⟨rfl, rfl, rfl⟩ := hcs
    exact ⟨[], ⟨none, 0, rfl, Lies.nil, fun r hr => by cases hr⟩, Nat.zero_le _, fun r hr => by cases hr⟩
  · simp [Value.cells] at hcs
    obtain ⟨rfl, rfl, rfl⟩ := hcs
    have hlen : ((List.range len).map fun r => (⟨A r, C r, (Z r).take (L r)⟩ : Rw32)).length = len := by simp
    refine ⟨(List.range len).map fun r => ⟨A r, C r, (Z r).take (L r)⟩, ⟨some a, cap, by rw [hlen], ?_, ?_⟩, by omega, ?_⟩
    · intro hp
      have hp' : 0 < len := by simpa [hdrs32] using hp
      obtain ⟨b, off, spot⟩ := a
      have h0 := (hr 0 (by omega)).1
      have hspot : spot = none := by simpa [Addr.add] using World.cell?_spot h0
      subst hspot
      refine ⟨b, off, rfl, ?_, fun j u hu => ?_⟩
      · rw [Go.WideShapes.add_plain] at h0
        exact World.block_lt_of_cell? W _ h0
      · have hj : j < len := by
          have := (List.getElem?_eq_some_iff.1 hu).1; simpa [hdrs32] using this
        have hc := hr j (by omega)
        rw [← Go.WideShapes.add_plain, hc.1, ← hu]
        have htl : ((Z j).take (L j)).length = L j := by rw [List.length_take]; omega
        simp [hj, hdrs32, Rw32.hdr, htl]
    · intro r hrm
      obtain ⟨j, hj, rfl⟩ := List.mem_map.1 hrm
      have hj' : j < len := by simpa using hj
      obtain ⟨h1, h2, h3, h4, h5, h6, h7⟩ := hr j (by omega)
      refine ⟨by simp only [List.length_take]; omega, ?_⟩
      dsimp only
      cases hA : A j with
      | none =>
        have hC := h6 hA
        intro hp
        simp [i32s] at hp; omega
      | some a' =>
        obtain ⟨_, hc⟩ := h7 a' hA
        exact lies_of_ints (by omega) (fun i hi => hc i (by omega))
    · intro r hrm
      obtain ⟨j, hj, rfl⟩ := List.mem_map.1 hrm
      have hj' : j < len := by simpa using hj
      obtain ⟨h1, h2, h3, h4, h5, h6, h7⟩ := hr j (by omega)
      simp only [List.length_take]; omega
end

theorem InK.inp {W w : World} {g : Nat} {v : Value} {rs : List Rw32} (h : InK W w g v rs) : InpV w w.heap.size g rs := by
  obtain ⟨A, c, e, _, _, _, hl, _⟩ := Lies.of_own h.own
  exact ⟨v, h.cell, A, c, e, hl, fun r hr => ⟨(h.row r hr).1, (h.row r hr).2.1⟩⟩
theorem InpV.below {w w' : World} {B g : Nat} {rs : List Rw32} (h : InpV w B g rs) (hb : Below B w w') (hg : g < B) : InpV w' B g rs := by
  obtain ⟨v, c, ht⟩ := h
  exact ⟨v, (hb.cell (p := ⟨g, 0, none⟩) hg).trans c, ht.below hb⟩

set_option maxRecDepth 100000 in
set_option maxHeartbeats 4000000 in
theorem known14_any (w : World) : Calls Try.prog 15 #[] w fun e w' => e = .returned (.bool true) ∧ Below w.heap.size w w' := by
  obtain ⟨w1, hw1⟩ : ∃ w1, w1 = w.alloc (.cells #[.int .i32 5, .int .i32 6] 21) := ⟨_, rfl⟩
  obtain ⟨w2, hw2⟩ : ∃ w2, w2 = w1.alloc (.cells #[.slice (some ⟨w.heap.size, 0, none⟩) 2 2, .slice none 0 0] 24) := ⟨_, rfl⟩
  have hl1 : Lies w1 w1.heap.size (some ⟨w.heap.size, 0, none⟩) (i32s [5, 6]) := by rw [hw1]; exact (lies_new w (i32s [5, 6]) 21).more (by simp)
  have hb2 : Below w1.heap.size w1 w2 := by rw [hw2]; exact below_alloc w1 _
  have HT : Hid (Tab32 w2 w2.heap.size (.slice (some ⟨w1.heap.size, 0, none⟩) 2 2) [⟨some ⟨w.heap.size, 0, none⟩, 2, [5, 6]⟩, ⟨none, 0, []⟩]) := Lib.hid
    ⟨_, 2, rfl, by rw [hw2]; exact (lies_new w1 [.slice (some ⟨w.heap.size, 0, none⟩) 2 2, .slice none 0 0] 24).more (by simp), fun r hr => by
      rcases List.mem_cons.1 hr with rfl | hr
      · exact ⟨Nat.le_refl _, (hl1.below hb2).more hb2.size⟩
      · obtain rfl : r = ⟨none, 0, []⟩ := by simpa using hr
        exact ⟨Nat.le_refl _, Lies.nil⟩⟩
  have HB : Hid (Below w.heap.size w w2) := Lib.hid ((by rw [hw1]; exact below_alloc w _ : Below w.heap.size w w1).trans (hb2.mono (by rw [hw1]; simp)))
  have HW1 := Lib.hid hw1; have HW2 := Lib.hid hw2
  have HN := Lib.hid (newInput_any _ _ w2 HT.out (by simp) (fun r hr => by
    rcases List.mem_cons.1 hr with rfl | hr
    · show 2 ≤ 100000; omega
    · obtain rfl : r = ⟨none, 0, []⟩ := by simpa using hr
      show 0 ≤ 100000; omega))
  have hs1 : w1.heap.size = w.heap.size + 1 := by rw [hw1]; simp
  rw [hs1] at HN
  clear hw1 hw2 hl1 hb2 hs1
  go_enter Try.func15, Try.ntmps15
  go_wp2_with fail
  rw [← HW1.out, ← HW2.out]
  with_reducible refine HN.out.mono ?_
  rintro e w3 ⟨g, v, rs', rfl, hin, hls⟩
  have HLS : Hid (listsOf rs' = [[5, 6], []]) := Lib.hid hls
  have HI := Lib.hid hin.inp
  have hlen : rs'.length ≤ 100000 := by
    have := congrArg List.length HLS.out
    simp [listsOf] at this; omega
  have G1 := Lib.hid (inGet_any _ g rs' 0 1 w3 HI.out (by decide) (by decide) hlen)
  have G2 := Lib.hid (inGet_any _ g rs' 1 0 w3 HI.out (by decide) (by decide) hlen)
  have L1 := Lib.hid (inLen_any _ g rs' 0 w3 HI.out (by decide) hlen)
  have L2 := Lib.hid (inLen_any _ g rs' 2 w3 HI.out (by decide) hlen)
  unfold GotZ at G1 G2
  rw [HLS.out] at G1 G2 L1 L2
  rw [show valZ [[5, 6], []] 0 1 = 6 from by decide, show isZ [[5, 6], []] 0 1 = true from by decide] at G1
  rw [show valZ [[5, 6], []] 1 0 = 0 from by decide, show isZ [[5, 6], []] 1 0 = false from by decide] at G2
  rw [show ((lenZ [[5, 6], []] 0 : Nat) : Int) = 2 from by decide] at L1
  rw [show ((lenZ [[5, 6], []] 2 : Nat) : Int) = 0 from by decide] at L2
  have HB3 := Lib.hid (HB.out.trans (hin.old.mono HB.out.size))
  clear hin hls hlen
  go_wp2_with fail
  refine G1.out.mono ?_
  rintro e w' ⟨rfl, rfl⟩
  go_wp2_with fail
  refine G2.out.mono ?_
  rintro e w' ⟨rfl, rfl⟩
  go_wp2_with fail
  refine L1.out.mono ?_
  rintro e w' ⟨rfl, rfl⟩
  go_wp2_with fail
  refine L2.out.mono ?_
  rintro e w' ⟨rfl, rfl⟩
  go_wp2_with fail
  go_ret
  exact ⟨rfl, HB3.out⟩

end Go.Proofs.Ytnelaeafjejjgaa
