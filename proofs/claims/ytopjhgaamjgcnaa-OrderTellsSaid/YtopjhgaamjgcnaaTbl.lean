/- The tables that the laws ask about. -/
import Derived.Test.YtopjhgaamjgcnaaChn
import Derived.StillTailTactics
import Derived.RegionTactic
import Derived.Deep.CutRange
import Derived.Deep.DeepCutAuto
namespace Go.Proofs.Ytopjhgaamjgcnaa
open Go.RowKit

def u64s (l : List Int) : List Value := l.map (Value.int .u64)
/-- The value v is a slice that holds the numbers l. -/
def NumsV (w : World) (B : Nat) (v : Value) (l : List Int) : Prop := ∃ A c, v = .slice A l.length c ∧ Lies w B A (u64s l) ∧ l.length ≤ maxLen ∧ ∀ x ∈ l, 0 ≤ x ∧ x ≤ 18446744073709551615
theorem NumsV.below {w w' : World} {B : Nat} {v : Value} {l : List Int} (h : NumsV w B v l) (hb : Below B w w') : NumsV w' B v l := by
  obtain ⟨A, c, e, h, hm⟩ := h; exact ⟨A, c, e, h.below hb, hm⟩
theorem NumsV.more {w : World} {B B' : Nat} {v : Value} {l : List Int} (h : NumsV w B v l) (hb : B ≤ B') : NumsV w B' v l := by
  obtain ⟨A, c, e, h, hm⟩ := h; exact ⟨A, c, e, h.more hb, hm⟩
theorem lie_num {w : World} {B : Nat} {A : Option Addr} {l : List Int} (h : Lies w B A (u64s l)) {k : Nat} (hk : k < l.length) :
    ∃ b off, A = some ⟨b, off, none⟩ ∧ b < B ∧ w.cell? ⟨b, off + k, none⟩ = some (.int .u64 l[k]) := by
  obtain ⟨b, off, e, hb, hc⟩ := h.cell (k := k) (by simpa [u64s] using hk)
  exact ⟨b, off, e, hb, by rw [hc]; simp [u64s]⟩
theorem FG.drew {w : World} {base n k : Nat} {v : Value} {G C : Nat → Nat} {Z : Nat → Nat → Bool} (h : FG w base v n k G C Z) : FG w.drew base v n k G C Z := h.below (Below.refl _ _).drew

set_option maxHeartbeats 4000000 in
theorem table_any {lv : Value} {l : List Int} (w : World) (n base : Nat) (hn : n ≤ 255) (hbase : base ≤ 255) (hl : NumsV w w.heap.size lv l) :
    Calls Try.prog 8 #[.int .u8 n, lv, .int .u8 base] w fun e w' => ∃ v G C Z, e = .returned v ∧ FG w' w.heap.size v (n % 6 + 1) (n % 6 + 1) G C Z ∧ Below w.heap.size w w' := by
  obtain ⟨A, c, rfl, hl, hm, hx⟩ := hl
  unfold maxLen at hm
  have HL := Lib.hid hl; clear hl
  have HX := Lib.hid hx; clear hx
  obtain ⟨m, hmm⟩ : ∃ m, n % 6 + 1 = m := ⟨_, rfl⟩
  have hm1 : 1 ≤ m := by omega
  have hm6 : m ≤ 6 := by omega
  have hmi : (n : Int) % 6 + 1 = m := by omega
  generalize hln : l.length = ln at *
  have HLN := Lib.hid hln; clear hln
  rw [hmm]
  go_enter Try.func8, Try.ntmps8
  go_wp2_with fail
  have HMI := Lib.hid hmi; clear hmi hmm
  refine (chain_any m hm1 (by omega) w).mono ?_
  rintro e w1 ⟨v, G, C, rfl, hg, hb⟩
  obtain ⟨g, c1, rfl, hbg, hg1, _, _⟩ := hg.grid (by omega)
  have HG := Lib.hid hg; clear hg
  have HB := Lib.hid hb; clear hb
  go_upto_if 21 with (fail)
  go_cut [9] (fun _ wx => ∃ Z, FG wx w.heap.size (.slice (some ⟨g, 0, none⟩) m c1) m m G C Z ∧ Below w.heap.size w wx)
  case first =>
    by_cases h3 : base % 3 = 1
    · have e3 : ((base : Int) % 3 == 1) = true := by simp; omega
      go_wp2_with fail
      go_loopw [9] (fun i wr => ∃ (k : Nat) (Z : Nat → Nat → Bool), k ≤ m ∧ i = .int .i64 k ∧ FG wr w.heap.size (.slice (some ⟨g, 0, none⟩) m c1) m m G C Z ∧ Below w.heap.size w wr) (fun i _ => m - (intOf i).toNat)
      case atStart => exact ⟨0, _, by omega, rfl, HG.out, HB.out⟩
      case round =>
        clear HG HB
        obtain ⟨k, Z, hk, rfl, hg, hb⟩ := hrel
        have HG := Lib.hid hg; clear hg
        have HB := Lib.hid hb; clear hb
        by_cases hkm : k < m
        · go_wp2_with fail
          obtain ⟨w2, hw2⟩ : ∃ w2 : World, w2 = wr := ⟨_, rfl⟩
          have HG1 := Lib.hid (hw2 ▸ HG.out)
          have HB1 := Lib.hid (hw2 ▸ HB.out : Below w.heap.size w w2)
          rw [← hw2]
          clear HG HB hw2
          go_loopw [10] (fun i wr => ∃ (j : Nat) (Z : Nat → Nat → Bool), j ≤ m ∧ i = .int .i64 j ∧ FG wr w.heap.size (.slice (some ⟨g, 0, none⟩) m c1) m m G C Z ∧ Below w.heap.size w wr) (fun i _ => m - (intOf i).toNat)
          case atStart => exact ⟨0, _, by omega, rfl, HG1.out, HB1.out⟩
          case round =>
            clear HG1 HB1
            obtain ⟨j, Z, hj, rfl, hg, hb⟩ := hrel
            have HG := Lib.hid hg; clear hg
            have HB := Lib.hid hb; clear hb
            by_cases hjm : j < m
            · obtain ⟨g', c', hv, _, _, htop, _⟩ := HG.out.grid hm1
              injection hv with hv1 _ hv3
              injection hv1 with hv1
              injection hv1 with hv1 _ _
              subst hv1 hv3
              have t1 := htop k hkm
              have t2 := HG.out.rows.cell hkm hjm
              have t3 := HG.out.rows.frozen (i := j) hkm
              have hlo := HG.out.rows.lo k hkm
              clear htop
              go_wp2_with fail
              go_roundw
              case rel => exact ⟨j + 1, _, by omega, by go_num, HG.out.set hkm _, HB.out.setCell (p := ⟨G k, j, none⟩) hlo _⟩
              case measure => simp [intOf]; omega
            · obtain rfl : j = m := by omega
              go_wp2_with fail
              go_roundw
              case rel => exact ⟨k + 1, _, by omega, by go_num, HG.out, HB.out⟩
              case measure => simp [intOf]; omega
        · obtain rfl : k = m := by omega
          go_wp2_with fail
          go_meet
          exact ⟨_, HG.out, HB.out⟩
    · have e3 : ((base : Int) % 3 == 1) = false := by simp; omega
      go_wp2_with fail
      go_meet
      exact ⟨_, HG.out, HB.out⟩
  case rest =>
    obtain ⟨Z, hg, hb⟩ := hcut
    clear HG HB
    go_wp2_with fail
    go_loopw [11] (fun i wr => ∃ (k : Nat) (Z : Nat → Nat → Bool), k ≤ m ∧ i = .int .i64 k ∧ FG wr w.heap.size (.slice (some ⟨g, 0, none⟩) m c1) m m G C Z ∧ Below w.heap.size w wr) (fun i _ => m - (intOf i).toNat)
    case atStart => exact ⟨0, _, by omega, rfl, hg, hb⟩
    case round =>
      clear hg hb
      obtain ⟨k, Z, hk, rfl, hg, hb⟩ := hrel
      have HG := Lib.hid hg; clear hg
      have HB := Lib.hid hb; clear hb
      by_cases hkm : k < m ∧ k < ln
      · obtain ⟨hkm, hkl⟩ := hkm
        have hkl2 : k < l.length := by rw [HLN.out]; exact hkl
        obtain ⟨b2, o2, rfl, hb2, c2⟩ := lie_num HL.out hkl2
        have hxr := HX.out l[k] (List.getElem_mem hkl2)
        generalize l[k] = x at *
        have C2 := Lib.hid c2; clear c2
        go_wp2_with fail
        obtain ⟨w2, hw2⟩ : ∃ w2 : World, w2 = wr := ⟨_, rfl⟩
        have HG1 := Lib.hid (hw2 ▸ HG.out)
        have HB1 := Lib.hid (hw2 ▸ HB.out : Below w.heap.size w w2)
        rw [← hw2]
        clear HG HB hw2
        go_loopw [12] (fun i wr => ∃ (j : Nat) (Z : Nat → Nat → Bool), j ≤ m ∧ i = .int .i64 j ∧ FG wr w.heap.size (.slice (some ⟨g, 0, none⟩) m c1) m m G C Z ∧ Below w.heap.size w wr) (fun i _ => m - (intOf i).toNat)
        case atStart => exact ⟨0, _, by omega, rfl, HG1.out, HB1.out⟩
        case round =>
          clear HG1 HB1
          obtain ⟨j, Z, hj, rfl, hg, hb⟩ := hrel
          have HG := Lib.hid hg; clear hg
          have HB := Lib.hid hb; clear hb
          by_cases hjm : j < m
          · obtain ⟨g', c', hv, _, _, htop, _⟩ := HG.out.grid hm1
            injection hv with hv1 _ hv3
            injection hv1 with hv1
            injection hv1 with hv1 _ _
            subst hv1 hv3
            have t1 := htop k hkm
            have t2 := HG.out.rows.cell hkm hjm
            have t3 := HG.out.rows.frozen (i := j) hkm
            have hlo := HG.out.rows.lo k hkm
            have t4 : wr.cell? ⟨b2, o2 + k, none⟩ = some (.int .u64 x) := by rw [HB.out.cell (p := ⟨b2, o2 + k, none⟩) hb2]; exact C2.out
            clear htop
            have i1 : (0 : Int) ≤ (k : Int) ∧ (k : Int) < m := by omega
            have i2 : (0 : Int) ≤ (j : Int) ∧ (j : Int) < m := by omega
            have HB3 := Lib.hid (fun y : Bool => HB.out.setCell (p := ⟨G k, j, none⟩) hlo (.bool y))
            have HG3 := Lib.hid (fun y : Bool => HG.out.set (b := j) hkm y)
            go_wp2_with fail
            · go_still_tail 14, (by kernel_rfl)
              change wpList _ _ _ _ _ wr.drew
              go_wp2_with fail
              go_roundw
              case rel => exact ⟨j + 1, _, by omega, by go_num, (HG3.out _).drew, (HB3.out _).drew⟩
              case measure => simp [intOf]; omega
            · go_roundw
              case rel => exact ⟨j + 1, _, by omega, by go_num, HG.out, HB.out⟩
              case measure => simp [intOf]; omega
          · obtain rfl : j = m := by omega
            go_wp2_with fail
            go_roundw
            case rel => exact ⟨k + 1, _, by omega, by go_num, HG.out, HB.out⟩
            case measure => simp [intOf]; omega
      · by_cases hk2 : k < m
        all_goals
          go_wp2_with fail
          go_ret
          exact ⟨_, G, C, Z, rfl, HG.out, HB.out⟩

end Go.Proofs.Ytopjhgaamjgcnaa
