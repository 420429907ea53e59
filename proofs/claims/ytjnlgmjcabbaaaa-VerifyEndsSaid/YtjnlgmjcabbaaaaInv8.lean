/- The first instruction that may not stand in any function: the walk of verify.firstInvalid. (Drawn: fi4a.json, fi4b.json.) -/
import Derived.Test.YtjnlgmjcabbaaaaModel8
import Derived.Test.YtjnlgmjcabbaaaaRegion
import Derived.Deep.CutRange
import Derived.Deep.DeepCutAuto
import Derived.BigQuiet
namespace Go.Proofs.Ytjnlgmjcabbaaaa
set_option maxRecDepth 100000
open Go.RowKit

/-- Block b of w holds an instruction. -/
def IB (w : World) (b : Nat) (op arg : Int) : Prop := w.heap[b]? = some (.cells #[.int .i64 op, .int .i32 arg] 32 (0, 0))
section
variable {w w' : World} {b : Nat} {op arg : Int}
theorem IB.lt (h : IB w b op arg) : b < w.heap.size := (Array.getElem?_eq_some_iff.1 h).1
theorem IB.below (h : IB w b op arg) (hb : Below w.heap.size w w') : IB w' b op arg := (hb.block b h.lt).trans h
theorem IB.c0 (h : IB w b op arg) : w.cell? ⟨b, 0, none⟩ = some (.int .i64 op) := cell_blk h 0
theorem IB.c1 (h : IB w b op arg) : w.cell? ⟨b, 1, none⟩ = some (.int .i32 arg) := cell_blk h 1
end
theorem known_any' {val : Nat → Value} {sp : List Nat} {i : Nat} {v : Value} {w w' : World} (h : Reg.Known val (fun _ _ _ => True) sp i v w) : Reg.Known val (fun _ _ _ => True) sp i v w' := ⟨h.plain, fun _ => trivial⟩
structure StF (w0 : World) (g b : Nat) (op arg : Int) (zi : Nat) (bd : Int) (k : Nat) (w : World) : Prop where
  i : IB w b op arg
  lt : g < w.heap.size
  g : w.cell? ⟨g, zi, none⟩ = some (.int .i64 bd)
  b : Below w0.heap.size w0 w
theorem StF.step {w0 w w' : World} {g b zi k : Nat} {op arg bd : Int} (h : StF w0 g b op arg zi bd k w) (hb : Below w.heap.size w w') : StF w0 g b op arg zi bd k w' :=
  ⟨h.i.below hb, Nat.lt_of_lt_of_le h.lt hb.size, (hb.cell (p := ⟨g, zi, none⟩) h.lt).trans h.g, nextB h.b hb⟩

def bndA (p fs ls gs : Int) : Array Value := #[.int .i64 9223372036854775807, .int .i64 9223372036854775807, .int .i64 p, .int .i64 4, .int .i64 ls, .int .i64 fs, .int .i64 gs]
theorem bndA_at (p fs ls gs : Int) (zi : Nat) (h : zi ≤ 6) : (bndA p fs ls gs)[zi]? = some (.int .i64 (boundZ p fs ls gs zi)) := by
  rcases (by omega : zi = 0 ∨ zi = 1 ∨ zi = 2 ∨ zi = 3 ∨ zi = 4 ∨ zi = 5 ∨ zi = 6) with rfl | rfl | rfl | rfl | rfl | rfl | rfl <;> rfl

def fi4aVal (op arg : Int) : Nat → Value
  | 0 => .agg #[.int .i64 op, .int .i32 arg]
  | 1 => .bool false
  | 2 => .bool true
  | 3 => .bool true
  | 4 => undef
  | 5 => undef
  | 6 => undef
  | 7 => undef
  | 8 => undef
  | 9 => undef
  | 10 => undef
  | 11 => undef
  | 12 => undef
  | 13 => .bool true
  | _ => undef

def fi4bVal (op arg bd : Int) (b g zi : Nat) : Nat → Value
  | 0 => .agg #[.int .i64 op, .int .i32 arg]
  | 1 => .bool true
  | 2 => .bool false
  | 3 => .bool false
  | 4 => .pointer (some ⟨b, 1, none⟩)
  | 5 => .int .i32 arg
  | 6 => .int .i64 arg
  | 7 => .pointer (some ⟨b, 0, none⟩)
  | 8 => .int .i64 op
  | 9 => .int .i64 zi
  | 10 => .pointer (some ⟨g, zi, none⟩)
  | 11 => .int .i64 bd
  | 12 => .bool true
  | 13 => .bool true
  | _ => undef

def fi4cVal (op arg bd : Int) (b g zi : Nat) : Nat → Value
  | 0 => .agg #[.int .i64 op, .int .i32 arg]
  | 1 => .bool true
  | 2 => .bool false
  | 3 => .bool false
  | 4 => .pointer (some ⟨b, 1, none⟩)
  | 5 => .int .i32 arg
  | 6 => .int .i64 arg
  | 7 => .pointer (some ⟨b, 0, none⟩)
  | 8 => .int .i64 op
  | 9 => .int .i64 zi
  | 10 => .pointer (some ⟨g, zi, none⟩)
  | 11 => .int .i64 bd
  | 12 => .bool false
  | 13 => .bool false
  | _ => undef


set_option maxRecDepth 100000 in
set_option maxHeartbeats 8000000 in
theorem firstInvalid_any (f : CodeL) (fs ls gs : Int) (v : Value) (w : World) (hv : RowI w w.heap.size v f) (hn : f.length ≤ 100000) :
    Calls Try.prog 53 #[v, .agg (bndA f.length fs ls gs)] w fun e w' =>
      e = .returned (.tuple #[.int .i64 ((invalidO f fs ls gs).getD 0 : Nat), .bool (invalidO f fs ls gs).isSome]) ∧ Below w.heap.size w w' := by
  obtain ⟨n, hnl⟩ : ∃ n, f.length = n := ⟨_, rfl⟩
  obtain ⟨o, ho⟩ : ∃ o, invalidO f fs ls gs = o := ⟨_, rfl⟩
  obtain ⟨hz, hhz⟩ : ∃ hz, badI f fs ls gs = hz := ⟨_, rfl⟩
  have hO : firstO hz 0 n = o := by rw [← ho, ← hnl, ← hhz]; rfl
  obtain ⟨A, c, rfl, hvl, hvi⟩ := hv
  rw [ho]
  obtain ⟨w1, hw1⟩ : ∃ w1, w1 = w.alloc (.cells (bndA f.length fs ls gs) 91) := ⟨_, rfl⟩
  have hnew : w1.heap[w.heap.size]? = some (.cells (bndA f.length fs ls gs) 91 (0, 0)) := by rw [hw1]; exact heap_alloc_new w _
  have hb1 : Below w.heap.size w w1 := by rw [hw1]; exact below_alloc _ _
  have HV := Lib.hid (RowI.below (B := w.heap.size) ⟨A, c, rfl, hvl, hvi⟩ hb1)
  have HNEW := Lib.hid hnew; have B1 := Lib.hid hb1; have HNL := Lib.hid hnl; have HHZ := Lib.hid hhz; have HO := Lib.hid hO
  have HLT := Lib.hid (show w.heap.size < w1.heap.size from (Array.getElem?_eq_some_iff.1 hnew).1)
  unfold bndA at hw1 ⊢
  clear hnew hb1 hvl hvi ho hO hhz
  rw [hnl] at hw1 hn ⊢
  clear hnl
  go_enter Try.func53, Try.ntmps53
  go_wp2_with fail
  rw [← hw1]
  clear hw1
  go_loopw [10] (fun i wr => ∃ k : Nat, k ≤ n ∧ i = .int .i64 k ∧ firstO hz 0 n = firstO hz k (n - k) ∧ Below w1.heap.size w1 wr) (fun i _ => n - (intOf i).toNat)
  case atStart => exact ⟨0, Nat.zero_le _, rfl, rfl, Below.refl _ _⟩
  case round =>
    obtain ⟨k, hk, rfl, he, hb⟩ := hrel
    have HE := Lib.hid he; have HB := Lib.hid hb; clear he hb
    by_cases hkn : k < n
    · have e1 : n - k = (n - (k + 1)) + 1 := by omega
      have e3 : firstO hz 0 n = if hz k = true then some k else firstO hz (k + 1) (n - (k + 1)) := by rw [HE.out, e1]; rfl
      have E3 := Lib.hid e3; clear e3 e1
      obtain ⟨bb, off, cc, hvv, hbb, c0, c1⟩ := (HV.out.below (HB.out.mono B1.out.size)).cells (k := k) (by rw [HNL.out]; exact hkn)
      obtain rfl : A = some ⟨bb, off, none⟩ := by injection hvv
      clear hvv
      have har := HV.out.arg (k := k) (by rw [HNL.out]; exact hkn)
      have hbk : hz k = badI f fs ls gs k := by rw [HHZ.out]
      unfold badI at hbk
      rw [HNL.out] at hbk
      obtain ⟨op, hop⟩ : ∃ z, cop f k = z := ⟨_, rfl⟩
      obtain ⟨arg, harg⟩ : ∃ z, carg f k = z := ⟨_, rfl⟩
      rw [hop] at c0 hbk
      rw [harg] at c1 har hbk
      obtain ⟨zi, hzi⟩ : ∃ zi : Nat, argZ op = (zi : Int) := ⟨(argZ op).toNat, by have := argZ_range op; omega⟩
      have hz6 : zi ≤ 6 := by have := argZ_range op; omega
      rw [hzi] at hbk
      obtain ⟨bd, hbd⟩ : ∃ z, boundZ n fs ls gs zi = z := ⟨_, rfl⟩
      rw [hbd] at hbk
      obtain ⟨r, hr⟩ : ∃ z, rightB op arg = z := ⟨_, rfl⟩
      rw [hr] at hbk
      obtain ⟨q, hq⟩ : ∃ z, decide (bd ≤ arg) = z := ⟨_, rfl⟩
      rw [hq] at hbk
      have HR : Hid (∀ w, Calls Try.prog 77 #[.agg #[.int .i64 op, .int .i32 arg]] w fun e w' => e = .returned (.bool r) ∧ Below w.heap.size w w') := Lib.hid fun w => by rw [← hr]; exact right_any op arg w
      have HA : Hid (∀ w, Calls Try.prog 78 #[.int .i64 op] w fun e w' => e = .returned (.int .i64 zi) ∧ Below w.heap.size w w') := Lib.hid fun w => by rw [← hzi]; exact arg_any op w
      have cg : wr.cell? ⟨w.heap.size, zi, none⟩ = some (.int .i64 bd) := by
        rw [HB.out.cell (p := ⟨w.heap.size, zi, none⟩) HLT.out, cell_blk HNEW.out, HNL.out, bndA_at _ _ _ _ _ hz6, hbd]
      have hgl : w.heap.size < wr.heap.size := Nat.lt_of_lt_of_le HLT.out HB.out.size
      obtain ⟨b, hb⟩ : ∃ b, wr.heap.size = b := ⟨_, rfl⟩
      obtain ⟨w7, hw7⟩ : ∃ w7, wr.alloc (.cells #[.int .i64 op, .int .i32 arg] 32) = w7 := ⟨_, rfl⟩
      have hb7 : Below wr.heap.size wr w7 := by rw [← hw7]; exact below_alloc _ _
      have HST : Hid (StF w7 w.heap.size b op arg zi bd 0 w7) := Lib.hid ⟨by rw [← hw7, ← hb]; exact heap_alloc_new wr _, Nat.lt_of_lt_of_le hgl hb7.size, (hb7.cell (p := ⟨w.heap.size, zi, none⟩) hgl).trans cg, Below.refl _ _⟩
      have B7 := Lib.hid (HB.out.trans (hb7.mono HB.out.size))
      have HW := Lib.hid (show IntKind.i64.wrap arg = arg from IntWalk.i64_in _ (by unfold I32 at har; omega))
      have HQ := Lib.hid hq; have HBK := Lib.hid hbk
      have HZ := Lib.hid hz6
      clear hb7 hgl cg hop harg hzi hbd hr hq hbk har hz6
      cases r with
      | false =>
        have HY : Hid (o = some k) := Lib.hid (by rw [← HO.out, E3.out, if_pos (by rw [HBK.out]; rfl)])
        go_upto_region 4 with (fail)
        refine Reg.wp_facts_sl [15, 16, 17, 18, 19, 20, 21, 22, 23, 24, 25, 26, 27, 28] rfl [] [[], [(0, 15)], [(1, 16)], [(2, 17)], [], [(4, 19)], [(5, 20)], [], [(7, 22)], [(8, 23)], [(9, 24)], [(10, 25)], [(6, 21), (11, 26)], [(3, 18), (12, 27)]] [(13, 28)] (Reg.Known (fi4aVal op arg) (fun _ _ _ => True) []) (StF w7 w.heap.size b op arg zi bd) (by kernel_rfl) (by kernel_rfl) ?start ?steps ?finish
        case start => exact HST.out.step ((Below.refl _ _).drew)
        case steps =>
          refine Reg.Steps.zip ?_ ?_
          · refine Reg.step_go rfl ?_
            intro a wi ki hf hd hS hc K hK
            have f7 : a.tmps.getD 7 undef = .pointer (some ⟨b, 0, none⟩) := hf.same 7 rfl
            clear hf hd hc
            have cc0 := hS.i.c0
            have cc1 := hS.i.c1
            have hK0 := Lib.hid hK; clear hK
            have hS0 := Lib.hid hS; clear hS
            go_simp
            exact hK0.out _ _ (Reg.Known.mk_val rfl rfl) (fun _ _ h => h) hS0.out
          refine Reg.Steps.zip ?_ ?_
          · refine Reg.step_go rfl ?_
            intro a wi ki hf hd hS hc K hK
            have e15 : a.tmps.getD 15 undef = .agg #[.int .i64 op, .int .i32 arg] := hd.1.plain rfl
            clear hf hd
            have HS := Lib.hid hS; clear hS
            have hK0 := Lib.hid hK; clear hK hc
            go_simp
            refine (HR.out wi).mono ?_
            rintro e wA ⟨rfl, hbA⟩
            exact hK0.out _ _ (Reg.Known.mk_val rfl rfl) (fun _ _ h => known_any' h) (HS.out.step hbA)
          refine Reg.Steps.zip ?_ ?_
          · refine Reg.step_go rfl ?_
            intro a wi ki hf hd hS hc K hK
            have e16 : a.tmps.getD 16 undef = .bool false := hd.1.plain rfl
            clear hf hd hc
            have hK0 := Lib.hid hK; clear hK
            have hS0 := Lib.hid hS; clear hS
            go_simp
            exact hK0.out _ _ (Reg.Known.mk_val rfl rfl) (fun _ _ h => h) hS0.out
          refine Reg.Steps.zip ?_ ?_
          · refine Reg.step_go rfl ?_
            intro a wi ki hf hd hS hc K hK
            have e17 : a.tmps.getD 17 undef = .bool true := hd.1.plain rfl
            clear hf hd hc
            have hK0 := Lib.hid hK; clear hK
            have hS0 := Lib.hid hS; clear hS
            go_simp
            exact hK0.out _ _ (Reg.Known.mk_val rfl rfl) (fun _ _ h => h) hS0.out
          refine Reg.Steps.zip ?_ ?_
          · exact Reg.step_off rfl (fun u w h => h.plain rfl) (fun w => Reg.Known.mk_val rfl rfl) rfl
          refine Reg.Steps.zip ?_ ?_
          · exact Reg.step_off rfl (fun u w h => h.plain rfl) (fun w => Reg.Known.mk_val rfl rfl) rfl
          refine Reg.Steps.zip ?_ ?_
          · exact Reg.step_off rfl (fun u w h => h.plain rfl) (fun w => Reg.Known.mk_val rfl rfl) rfl
          refine Reg.Steps.zip ?_ ?_
          · exact Reg.step_off rfl (fun u w h => h.plain rfl) (fun w => Reg.Known.mk_val rfl rfl) rfl
          refine Reg.Steps.zip ?_ ?_
          · exact Reg.step_off rfl (fun u w h => h.plain rfl) (fun w => Reg.Known.mk_val rfl rfl) rfl
          refine Reg.Steps.zip ?_ ?_
          · exact Reg.step_off rfl (fun u w h => h.plain rfl) (fun w => Reg.Known.mk_val rfl rfl) rfl
          refine Reg.Steps.zip ?_ ?_
          · exact Reg.step_off rfl (fun u w h => h.plain rfl) (fun w => Reg.Known.mk_val rfl rfl) rfl
          refine Reg.Steps.zip ?_ ?_
          · exact Reg.step_off rfl (fun u w h => h.plain rfl) (fun w => Reg.Known.mk_val rfl rfl) rfl
          refine Reg.Steps.zip ?_ ?_
          · exact Reg.step_off rfl (fun u w h => h.plain rfl) (fun w => Reg.Known.mk_val rfl rfl) rfl
          refine Reg.Steps.zip ?_ ?_
          · refine Reg.step_go rfl ?_
            intro a wi ki hf hd hS hc K hK
            have e18 : a.tmps.getD 18 undef = .bool true := hd.1.plain rfl
            have e27 : a.tmps.getD 27 undef = undef := hd.2.1.plain rfl
            clear hf hd hc
            have hK0 := Lib.hid hK; clear hK
            have hS0 := Lib.hid hS; clear hS
            go_simp
            exact hK0.out _ _ (Reg.Known.mk_val rfl rfl) (fun _ _ h => h) hS0.out
          exact Reg.Steps.nil
        case finish =>
          intro a w8 hf hd hS
          have HS8 := Lib.hid hS; clear hS
          obtain ⟨u, hu⟩ : ∃ u : Nat → Value, u = fun s => a.tmps.getD s undef := ⟨_, rfl⟩
          have e28 : u 28 = .bool true := by rw [hu]; exact hd.1.plain rfl
          rw [hf.eq, ← hu]
          clear hf hu hd
          simp (config := { maxSteps := 10000000 }) [Reg.filled, e28]
          clear e28
          go_wp2_with fail
          go_ret2
          rw [HY.out]
          exact ⟨rfl, B1.out.trans ((B7.out.trans (HS8.out.b.mono B7.out.size)).mono B1.out.size)⟩
      | true =>
        cases q with
        | true =>
          have HY : Hid (o = some k) := Lib.hid (by rw [← HO.out, E3.out, if_pos (by rw [HBK.out]; rfl)])
          go_upto_region 4 with (fail)
          refine Reg.wp_facts_sl [15, 16, 17, 18, 19, 20, 21, 22, 23, 24, 25, 26, 27, 28] rfl [] [[], [(0, 15)], [(1, 16)], [(2, 17)], [], [(4, 19)], [(5, 20)], [], [(7, 22)], [(8, 23)], [(9, 24)], [(10, 25)], [(6, 21), (11, 26)], [(3, 18), (12, 27)]] [(13, 28)] (Reg.Known (fi4bVal op arg bd b w.heap.size zi) (fun _ _ _ => True) []) (StF w7 w.heap.size b op arg zi bd) (by kernel_rfl) (by kernel_rfl) ?start ?steps ?finish
          case start => exact HST.out.step (Below.refl _ _).drew
          case steps =>
            refine Reg.Steps.zip ?_ ?_
            · refine Reg.step_go rfl ?_
              intro a wi ki hf hd hS hc K hK
              have f7 : a.tmps.getD 7 undef = .pointer (some ⟨b, 0, none⟩) := hf.same 7 rfl
              clear hf hd hc
              have cc0 := hS.i.c0
              have cc1 := hS.i.c1
              have hK0 := Lib.hid hK; clear hK
              have hS0 := Lib.hid hS; clear hS
              go_simp
              exact hK0.out _ _ (Reg.Known.mk_val rfl rfl) (fun _ _ h => h) hS0.out
            refine Reg.Steps.zip ?_ ?_
            · refine Reg.step_go rfl ?_
              intro a wi ki hf hd hS hc K hK
              have e15 : a.tmps.getD 15 undef = .agg #[.int .i64 op, .int .i32 arg] := hd.1.plain rfl
              clear hf hd
              have HS := Lib.hid hS; clear hS
              have hK0 := Lib.hid hK; clear hK hc
              go_simp
              refine (HR.out wi).mono ?_
              rintro e wA ⟨rfl, hbA⟩
              exact hK0.out _ _ (Reg.Known.mk_val rfl rfl) (fun _ _ h => known_any' h) (HS.out.step hbA)
            refine Reg.Steps.zip ?_ ?_
            · refine Reg.step_go rfl ?_
              intro a wi ki hf hd hS hc K hK
              have e16 : a.tmps.getD 16 undef = .bool true := hd.1.plain rfl
              clear hf hd hc
              have hK0 := Lib.hid hK; clear hK
              have hS0 := Lib.hid hS; clear hS
              go_simp
              exact hK0.out _ _ (Reg.Known.mk_val rfl rfl) (fun _ _ h => h) hS0.out
            refine Reg.Steps.zip ?_ ?_
            · refine Reg.step_go rfl ?_
              intro a wi ki hf hd hS hc K hK
              have e17 : a.tmps.getD 17 undef = .bool false := hd.1.plain rfl
              clear hf hd hc
              have hK0 := Lib.hid hK; clear hK
              have hS0 := Lib.hid hS; clear hS
              go_simp
              exact hK0.out _ _ (Reg.Known.mk_val rfl rfl) (fun _ _ h => h) hS0.out
            refine Reg.Steps.zip ?_ ?_
            · refine Reg.step_on rfl (fun u w h => h.plain rfl) ?_
              intro a wi ki hf hd hS hc K hK
              have f7 : a.tmps.getD 7 undef = .pointer (some ⟨b, 0, none⟩) := hf.same 7 rfl
              clear hf hd hc
              have hK0 := Lib.hid hK; clear hK
              have hS0 := Lib.hid hS; clear hS
              go_simp
              exact hK0.out _ _ (Reg.Known.mk_val rfl rfl) (fun _ _ h => h) hS0.out
            refine Reg.Steps.zip ?_ ?_
            · refine Reg.step_on rfl (fun u w h => h.plain rfl) ?_
              intro a wi ki hf hd hS hc K hK
              have e19 : a.tmps.getD 19 undef = .pointer (some ⟨b, 1, none⟩) := hd.1.plain rfl
              clear hf hd hc
              have cc1 := hS.i.c1
              have hK0 := Lib.hid hK; clear hK
              have hS0 := Lib.hid hS; clear hS
              go_simp
              exact hK0.out _ _ (Reg.Known.mk_val rfl rfl) (fun _ _ h => h) hS0.out
            refine Reg.Steps.zip ?_ ?_
            · refine Reg.step_on rfl (fun u w h => h.plain rfl) ?_
              intro a wi ki hf hd hS hc K hK
              have e20 : a.tmps.getD 20 undef = .int .i32 arg := hd.1.plain rfl
              clear hf hd hc
              have cw := HW.out
              have hK0 := Lib.hid hK; clear hK
              have hS0 := Lib.hid hS; clear hS
              go_simp
              exact hK0.out _ _ (Reg.Known.mk_val rfl rfl) (fun _ _ h => h) hS0.out
            refine Reg.Steps.zip ?_ ?_
            · refine Reg.step_on rfl (fun u w h => h.plain rfl) ?_
              intro a wi ki hf hd hS hc K hK
              have f7 : a.tmps.getD 7 undef = .pointer (some ⟨b, 0, none⟩) := hf.same 7 rfl
              clear hf hd hc
              have hK0 := Lib.hid hK; clear hK
              have hS0 := Lib.hid hS; clear hS
              go_simp
              exact hK0.out _ _ (Reg.Known.mk_val rfl rfl) (fun _ _ h => h) hS0.out
            refine Reg.Steps.zip ?_ ?_
            · refine Reg.step_on rfl (fun u w h => h.plain rfl) ?_
              intro a wi ki hf hd hS hc K hK
              have e22 : a.tmps.getD 22 undef = .pointer (some ⟨b, 0, none⟩) := hd.1.plain rfl
              clear hf hd hc
              have cc0 := hS.i.c0
              have hK0 := Lib.hid hK; clear hK
              have hS0 := Lib.hid hS; clear hS
              go_simp
              exact hK0.out _ _ (Reg.Known.mk_val rfl rfl) (fun _ _ h => h) hS0.out
            refine Reg.Steps.zip ?_ ?_
            · refine Reg.step_on rfl (fun u w h => h.plain rfl) ?_
              intro a wi ki hf hd hS hc K hK
              have e23 : a.tmps.getD 23 undef = .int .i64 op := hd.1.plain rfl
              clear hf hd
              have HS := Lib.hid hS; clear hS
              have hK0 := Lib.hid hK; clear hK hc
              go_simp
              refine (HA.out wi).mono ?_
              rintro e wA ⟨rfl, hbA⟩
              exact hK0.out _ _ (Reg.Known.mk_val rfl rfl) (fun _ _ h => known_any' h) (HS.out.step hbA)
            refine Reg.Steps.zip ?_ ?_
            · refine Reg.step_on rfl (fun u w h => h.plain rfl) ?_
              intro a wi ki hf hd hS hc K hK
              have e24 : a.tmps.getD 24 undef = .int .i64 zi := hd.1.plain rfl
              have f3 : a.tmps.getD 3 undef = .pointer (some ⟨w.heap.size, 0, none⟩) := hf.same 3 rfl
              clear hf hd hc
              have cz : (zi : Int) < 7 := by have := HZ.out; omega
              have hK0 := Lib.hid hK; clear hK
              have hS0 := Lib.hid hS; clear hS
              go_simp
              exact hK0.out _ _ (Reg.Known.mk_val rfl rfl) (fun _ _ h => h) hS0.out
            refine Reg.Steps.zip ?_ ?_
            · refine Reg.step_on rfl (fun u w h => h.plain rfl) ?_
              intro a wi ki hf hd hS hc K hK
              have e25 : a.tmps.getD 25 undef = .pointer (some ⟨w.heap.size, zi, none⟩) := hd.1.plain rfl
              clear hf hd hc
              have cb := hS.g
              have hK0 := Lib.hid hK; clear hK
              have hS0 := Lib.hid hS; clear hS
              go_simp
              exact hK0.out _ _ (Reg.Known.mk_val rfl rfl) (fun _ _ h => h) hS0.out
            refine Reg.Steps.zip ?_ ?_
            · refine Reg.step_on rfl (fun u w h => h.plain rfl) ?_
              intro a wi ki hf hd hS hc K hK
              have e21 : a.tmps.getD 21 undef = .int .i64 arg := hd.1.plain rfl
              have e26 : a.tmps.getD 26 undef = .int .i64 bd := hd.2.1.plain rfl
              clear hf hd hc
              have cq := HQ.out
              have hK0 := Lib.hid hK; clear hK
              have hS0 := Lib.hid hS; clear hS
              go_simp
              exact hK0.out _ _ (Reg.Known.mk_val rfl rfl) (fun _ _ h => h) hS0.out
            refine Reg.Steps.zip ?_ ?_
            · refine Reg.step_go rfl ?_
              intro a wi ki hf hd hS hc K hK
              have e18 : a.tmps.getD 18 undef = .bool false := hd.1.plain rfl
              have e27 : a.tmps.getD 27 undef = .bool true := hd.2.1.plain rfl
              clear hf hd hc
              have hK0 := Lib.hid hK; clear hK
              have hS0 := Lib.hid hS; clear hS
              go_simp
              exact hK0.out _ _ (Reg.Known.mk_val rfl rfl) (fun _ _ h => h) hS0.out
            exact Reg.Steps.nil
          case finish =>
            intro a w8 hf hd hS
            have HS8 := Lib.hid hS; clear hS
            obtain ⟨u, hu⟩ : ∃ u : Nat → Value, u = fun s => a.tmps.getD s undef := ⟨_, rfl⟩
            have e28 : u 28 = .bool true := by rw [hu]; exact hd.1.plain rfl
            rw [hf.eq, ← hu]
            clear hf hu hd
            simp (config := { maxSteps := 10000000 }) [Reg.filled, e28]
            clear e28
            go_wp2_with fail
            go_ret2
            rw [HY.out]
            exact ⟨rfl, B1.out.trans ((B7.out.trans (HS8.out.b.mono B7.out.size)).mono B1.out.size)⟩
        | false =>
          have HY : Hid (firstO hz 0 n = firstO hz (k + 1) (n - (k + 1))) := Lib.hid (by rw [E3.out, if_neg (by rw [HBK.out]; decide)])
          go_upto_region 4 with (fail)
          refine Reg.wp_facts_sl [15, 16, 17, 18, 19, 20, 21, 22, 23, 24, 25, 26, 27, 28] rfl [] [[], [(0, 15)], [(1, 16)], [(2, 17)], [], [(4, 19)], [(5, 20)], [], [(7, 22)], [(8, 23)], [(9, 24)], [(10, 25)], [(6, 21), (11, 26)], [(3, 18), (12, 27)]] [(13, 28)] (Reg.Known (fi4cVal op arg bd b w.heap.size zi) (fun _ _ _ => True) []) (StF w7 w.heap.size b op arg zi bd) (by kernel_rfl) (by kernel_rfl) ?start ?steps ?finish
          case start => exact HST.out.step (Below.refl _ _).drew
          case steps =>
            refine Reg.Steps.zip ?_ ?_
            · refine Reg.step_go rfl ?_
              intro a wi ki hf hd hS hc K hK
              have f7 : a.tmps.getD 7 undef = .pointer (some ⟨b, 0, none⟩) := hf.same 7 rfl
              clear hf hd hc
              have cc0 := hS.i.c0
              have cc1 := hS.i.c1
              have hK0 := Lib.hid hK; clear hK
              have hS0 := Lib.hid hS; clear hS
              go_simp
              exact hK0.out _ _ (Reg.Known.mk_val rfl rfl) (fun _ _ h => h) hS0.out
            refine Reg.Steps.zip ?_ ?_
            · refine Reg.step_go rfl ?_
              intro a wi ki hf hd hS hc K hK
              have e15 : a.tmps.getD 15 undef = .agg #[.int .i64 op, .int .i32 arg] := hd.1.plain rfl
              clear hf hd
              have HS := Lib.hid hS; clear hS
              have hK0 := Lib.hid hK; clear hK hc
              go_simp
              refine (HR.out wi).mono ?_
              rintro e wA ⟨rfl, hbA⟩
              exact hK0.out _ _ (Reg.Known.mk_val rfl rfl) (fun _ _ h => known_any' h) (HS.out.step hbA)
            refine Reg.Steps.zip ?_ ?_
            · refine Reg.step_go rfl ?_
              intro a wi ki hf hd hS hc K hK
              have e16 : a.tmps.getD 16 undef = .bool true := hd.1.plain rfl
              clear hf hd hc
              have hK0 := Lib.hid hK; clear hK
              have hS0 := Lib.hid hS; clear hS
              go_simp
              exact hK0.out _ _ (Reg.Known.mk_val rfl rfl) (fun _ _ h => h) hS0.out
            refine Reg.Steps.zip ?_ ?_
            · refine Reg.step_go rfl ?_
              intro a wi ki hf hd hS hc K hK
              have e17 : a.tmps.getD 17 undef = .bool false := hd.1.plain rfl
              clear hf hd hc
              have hK0 := Lib.hid hK; clear hK
              have hS0 := Lib.hid hS; clear hS
              go_simp
              exact hK0.out _ _ (Reg.Known.mk_val rfl rfl) (fun _ _ h => h) hS0.out
            refine Reg.Steps.zip ?_ ?_
            · refine Reg.step_on rfl (fun u w h => h.plain rfl) ?_
              intro a wi ki hf hd hS hc K hK
              have f7 : a.tmps.getD 7 undef = .pointer (some ⟨b, 0, none⟩) := hf.same 7 rfl
              clear hf hd hc
              have hK0 := Lib.hid hK; clear hK
              have hS0 := Lib.hid hS; clear hS
              go_simp
              exact hK0.out _ _ (Reg.Known.mk_val rfl rfl) (fun _ _ h => h) hS0.out
            refine Reg.Steps.zip ?_ ?_
            · refine Reg.step_on rfl (fun u w h => h.plain rfl) ?_
              intro a wi ki hf hd hS hc K hK
              have e19 : a.tmps.getD 19 undef = .pointer (some ⟨b, 1, none⟩) := hd.1.plain rfl
              clear hf hd hc
              have cc1 := hS.i.c1
              have hK0 := Lib.hid hK; clear hK
              have hS0 := Lib.hid hS; clear hS
              go_simp
              exact hK0.out _ _ (Reg.Known.mk_val rfl rfl) (fun _ _ h => h) hS0.out
            refine Reg.Steps.zip ?_ ?_
            · refine Reg.step_on rfl (fun u w h => h.plain rfl) ?_
              intro a wi ki hf hd hS hc K hK
              have e20 : a.tmps.getD 20 undef = .int .i32 arg := hd.1.plain rfl
              clear hf hd hc
              have cw := HW.out
              have hK0 := Lib.hid hK; clear hK
              have hS0 := Lib.hid hS; clear hS
              go_simp
              exact hK0.out _ _ (Reg.Known.mk_val rfl rfl) (fun _ _ h => h) hS0.out
            refine Reg.Steps.zip ?_ ?_
            · refine Reg.step_on rfl (fun u w h => h.plain rfl) ?_
              intro a wi ki hf hd hS hc K hK
              have f7 : a.tmps.getD 7 undef = .pointer (some ⟨b, 0, none⟩) := hf.same 7 rfl
              clear hf hd hc
              have hK0 := Lib.hid hK; clear hK
              have hS0 := Lib.hid hS; clear hS
              go_simp
              exact hK0.out _ _ (Reg.Known.mk_val rfl rfl) (fun _ _ h => h) hS0.out
            refine Reg.Steps.zip ?_ ?_
            · refine Reg.step_on rfl (fun u w h => h.plain rfl) ?_
              intro a wi ki hf hd hS hc K hK
              have e22 : a.tmps.getD 22 undef = .pointer (some ⟨b, 0, none⟩) := hd.1.plain rfl
              clear hf hd hc
              have cc0 := hS.i.c0
              have hK0 := Lib.hid hK; clear hK
              have hS0 := Lib.hid hS; clear hS
              go_simp
              exact hK0.out _ _ (Reg.Known.mk_val rfl rfl) (fun _ _ h => h) hS0.out
            refine Reg.Steps.zip ?_ ?_
            · refine Reg.step_on rfl (fun u w h => h.plain rfl) ?_
              intro a wi ki hf hd hS hc K hK
              have e23 : a.tmps.getD 23 undef = .int .i64 op := hd.1.plain rfl
              clear hf hd
              have HS := Lib.hid hS; clear hS
              have hK0 := Lib.hid hK; clear hK hc
              go_simp
              refine (HA.out wi).mono ?_
              rintro e wA ⟨rfl, hbA⟩
              exact hK0.out _ _ (Reg.Known.mk_val rfl rfl) (fun _ _ h => known_any' h) (HS.out.step hbA)
            refine Reg.Steps.zip ?_ ?_
            · refine Reg.step_on rfl (fun u w h => h.plain rfl) ?_
              intro a wi ki hf hd hS hc K hK
              have e24 : a.tmps.getD 24 undef = .int .i64 zi := hd.1.plain rfl
              have f3 : a.tmps.getD 3 undef = .pointer (some ⟨w.heap.size, 0, none⟩) := hf.same 3 rfl
              clear hf hd hc
              have cz : (zi : Int) < 7 := by have := HZ.out; omega
              have hK0 := Lib.hid hK; clear hK
              have hS0 := Lib.hid hS; clear hS
              go_simp
              exact hK0.out _ _ (Reg.Known.mk_val rfl rfl) (fun _ _ h => h) hS0.out
            refine Reg.Steps.zip ?_ ?_
            · refine Reg.step_on rfl (fun u w h => h.plain rfl) ?_
              intro a wi ki hf hd hS hc K hK
              have e25 : a.tmps.getD 25 undef = .pointer (some ⟨w.heap.size, zi, none⟩) := hd.1.plain rfl
              clear hf hd hc
              have cb := hS.g
              have hK0 := Lib.hid hK; clear hK
              have hS0 := Lib.hid hS; clear hS
              go_simp
              exact hK0.out _ _ (Reg.Known.mk_val rfl rfl) (fun _ _ h => h) hS0.out
            refine Reg.Steps.zip ?_ ?_
            · refine Reg.step_on rfl (fun u w h => h.plain rfl) ?_
              intro a wi ki hf hd hS hc K hK
              have e21 : a.tmps.getD 21 undef = .int .i64 arg := hd.1.plain rfl
              have e26 : a.tmps.getD 26 undef = .int .i64 bd := hd.2.1.plain rfl
              clear hf hd hc
              have cq := HQ.out
              have hK0 := Lib.hid hK; clear hK
              have hS0 := Lib.hid hS; clear hS
              go_simp
              exact hK0.out _ _ (Reg.Known.mk_val rfl rfl) (fun _ _ h => h) hS0.out
            refine Reg.Steps.zip ?_ ?_
            · refine Reg.step_go rfl ?_
              intro a wi ki hf hd hS hc K hK
              have e18 : a.tmps.getD 18 undef = .bool false := hd.1.plain rfl
              have e27 : a.tmps.getD 27 undef = .bool false := hd.2.1.plain rfl
              clear hf hd hc
              have hK0 := Lib.hid hK; clear hK
              have hS0 := Lib.hid hS; clear hS
              go_simp
              exact hK0.out _ _ (Reg.Known.mk_val rfl rfl) (fun _ _ h => h) hS0.out
            exact Reg.Steps.nil
          case finish =>
            intro a w8 hf hd hS
            have HS8 := Lib.hid hS; clear hS
            obtain ⟨u, hu⟩ : ∃ u : Nat → Value, u = fun s => a.tmps.getD s undef := ⟨_, rfl⟩
            have e28 : u 28 = .bool false := by rw [hu]; exact hd.1.plain rfl
            rw [hf.eq, ← hu]
            clear hf hu hd
            simp (config := { maxSteps := 10000000 }) [Reg.filled, e28]
            clear e28
            go_wp2_with fail
            go_roundw
            case rel => exact ⟨k + 1, by omega, by go_num, HY.out, B7.out.trans (HS8.out.b.mono B7.out.size)⟩
            case measure => simp [intOf]; omega
    · have e1 : n - k = 0 := by omega
      have HE2 := HE.out
      rw [e1] at HE2
      have HE3 := Lib.hid (HO.out.symm.trans (HE2.trans (by rfl : firstO hz k 0 = none))); clear HE2 e1
      go_wp2_with fail
      go_ret2
      rw [HE3.out]
      exact ⟨rfl, B1.out.trans (HB.out.mono B1.out.size)⟩

end Go.Proofs.Ytjnlgmjcabbaaaa
