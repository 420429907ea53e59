/- The walk of verify.Image; code that a call has just made; law 8's few known answers. -/
import Derived.Test.YtjnlgmjcabbaaaaFunc8
namespace Go.Proofs.Ytjnlgmjcabbaaaa
set_option maxRecDepth 100000
open Go.RowKit

theorem RowI.fresh (w : World) (f : CodeL) (hI : ∀ p ∈ f, I32 p.2) : RowI (w.alloc (.cells (flat f).toArray 32)) (w.alloc (.cells (flat f).toArray 32)).heap.size (.slice (some ⟨w.heap.size, 0, none⟩) f.length f.length) f :=
  ⟨_, f.length, rfl, (lies_new w (flat f) 32).more (by simp), hI⟩
theorem RowI.of_own {w : World} {base : Nat} {v : Value} {f : CodeL} (h : w.ownsRow base 32 2 v f.length (flat f)) (hI : ∀ p ∈ f, I32 p.2) : RowI w w.heap.size v f := by
  rcases h.2 with ⟨rfl, h0⟩ | ⟨g, cap, cur, e, hb, hg, hn, hm, _, _⟩
  · have : f = [] := List.eq_nil_of_length_eq_zero h0
    subst this
    exact ⟨none, 0, rfl, Lies.nil, hI⟩
  · subst e
    have hlt := (Array.getElem?_eq_some_iff.1 hg).1
    refine ⟨_, cap, rfl, fun _ => ⟨g, 0, rfl, hlt, fun j u hu => ?_⟩, hI⟩
    have := h.cells (g := g) rfl j u hu
    have e : (⟨g, 0, none⟩ : Addr).add j = ⟨g, 0 + j, none⟩ := by unfold Addr.add; split <;> simp_all
    rw [e] at this; exact this

/-- An image in memory. -/
def ImgV (w : World) (B : Nat) (v : Value) (I : List CodeL) : Prop :=
  ∃ (A : Option Addr) (c : Nat) (vs : List Value), v = .slice A I.length c ∧ vs.length = I.length ∧ Lies w B A vs ∧ ∀ (k : Nat) (x : Value) (f : CodeL), vs[k]? = some x → I[k]? = some f → RowI w B x f ∧ f.length ≤ 100000
theorem ImgV.below {w w' : World} {B : Nat} {v : Value} {I : List CodeL} (h : ImgV w B v I) (hb : Below B w w') : ImgV w' B v I := by
  obtain ⟨A, c, vs, h1, h2, h3, h4⟩ := h
  exact ⟨A, c, vs, h1, h2, h3.below hb, fun k x f hx hf => ⟨(h4 k x f hx hf).1.below hb, (h4 k x f hx hf).2⟩⟩
theorem ImgV.more {w : World} {B B' : Nat} {v : Value} {I : List CodeL} (h : ImgV w B v I) (hB : B ≤ B') : ImgV w B' v I := by
  obtain ⟨A, c, vs, h1, h2, h3, h4⟩ := h
  exact ⟨A, c, vs, h1, h2, h3.more hB, fun k x f hx hf => ⟨(h4 k x f hx hf).1.more hB, (h4 k x f hx hf).2⟩⟩
theorem ImgV.later {w w' : World} {v : Value} {I : List CodeL} (h : ImgV w w.heap.size v I) (hb : Below w.heap.size w w') : ImgV w' w'.heap.size v I := (h.below hb).more hb.size
theorem ImgV.row {w : World} {B : Nat} {v : Value} {I : List CodeL} (h : ImgV w B v I) {k : Nat} (hk : k < I.length) :
    ∃ b off c x, v = .slice (some ⟨b, off, none⟩) I.length c ∧ b < B ∧ w.cell? ⟨b, off + k, none⟩ = some x ∧ RowI w B x (I.getD k []) ∧ (I.getD k []).length ≤ 100000 := by
  obtain ⟨A, c, vs, rfl, h2, h3, h4⟩ := h
  obtain ⟨b, off, rfl, hb, hc⟩ := h3.cell (k := k) (by omega)
  refine ⟨b, off, c, _, rfl, hb, hc, ?_⟩
  have := h4 k _ (I.getD k []) (List.getElem?_eq_getElem (by omega)) (by rw [List.getD_eq_getElem?_getD, List.getElem?_eq_getElem hk]; rfl)
  exact this

def badFn (I : List CodeL) (ls gs : Int) (k : Nat) : Bool := (funcZ (I.getD k []) I.length ls gs).2 != 0
def imageZ (I : List CodeL) (ls gs : Int) : Int × Int × Int :=
  if 64 < I.length then (0, 0, 22) else if I.length = 0 then (0, 0, 24) else
  match firstO (badFn I ls gs) 0 I.length with
  | some k => ((k : Int), funcZ (I.getD k []) I.length ls gs)
  | none => (0, 0, 0)

set_option maxRecDepth 100000 in
set_option maxHeartbeats 8000000 in
theorem image_any (I : List CodeL) (v : Value) (ls gs : Int) (w : World) (hv : ImgV w w.heap.size v I) (hlen : I.length ≤ 100000) :
    Calls Try.prog 24 #[v, .int .i64 ls, .int .i64 gs] w fun e w' => e = .returned (.tuple #[.int .i64 (imageZ I ls gs).1, .int .i64 (imageZ I ls gs).2.1, .int .i64 (imageZ I ls gs).2.2]) ∧ Below w.heap.size w w' := by
  have HV := Lib.hid hv
  obtain ⟨A, c, vs, rfl, _⟩ := hv
  obtain ⟨n, hn⟩ : ∃ n, I.length = n := ⟨_, rfl⟩
  have HN := Lib.hid hn
  obtain ⟨rz, hrz⟩ : ∃ rz, imageZ I ls gs = rz := ⟨_, rfl⟩
  rw [hrz]
  rw [hn] at hlen HV ⊢
  by_cases h1 : 64 < n
  · have HX : Hid (rz = (0, 0, 22)) := Lib.hid (by rw [← hrz]; unfold imageZ; rw [if_pos (by rw [hn]; exact h1)])
    clear hrz hn
    go_enter Try.func24, Try.ntmps24
    go_wp2_with fail
    go_ret3
    rw [HX.out]
    exact ⟨rfl, Below.refl _ _⟩
  · by_cases h2 : n = 0
    · have HX : Hid (rz = (0, 0, 24)) := Lib.hid (by rw [← hrz]; unfold imageZ; rw [if_neg (by rw [hn]; exact h1), if_pos (by rw [hn]; exact h2)])
      have e2 : ((n : Int) == 0) = true := by simp; omega
      clear hrz hn h2
      go_enter Try.func24, Try.ntmps24
      go_wp2_with fail
      go_ret3
      rw [HX.out]
      exact ⟨rfl, Below.refl _ _⟩
    · have e2 : ((n : Int) == 0) = false := by simp; omega
      obtain ⟨hz, hhz⟩ : ∃ hz, badFn I ls gs = hz := ⟨_, rfl⟩
      have HX : Hid (imageZ I ls gs = match firstO hz 0 n with | some k => ((k : Int), funcZ (I.getD k []) I.length ls gs) | none => (0, 0, 0)) := Lib.hid (by
        unfold imageZ; rw [if_neg (by rw [hn]; exact h1), if_neg (by rw [hn]; exact h2), hhz, hn])
      have HRZ := Lib.hid hrz; have HHZ := Lib.hid hhz
      clear hrz hn h2 hhz
      go_enter Try.func24, Try.ntmps24
      go_wp2_with fail
      go_loopw [23] (fun i wr => ∃ k : Nat, k ≤ n ∧ i = .int .i64 k ∧ firstO hz 0 n = firstO hz k (n - k) ∧ Below w.heap.size w wr) (fun i _ => n - (intOf i).toNat)
      case atStart => exact ⟨0, Nat.zero_le _, rfl, rfl, Below.refl _ _⟩
      case round =>
        obtain ⟨k, hk, rfl, he, hb⟩ := hrel
        have HE := Lib.hid he; have HB := Lib.hid hb; clear he hb
        by_cases hkn : k < n
        · have e1 : n - k = (n - (k + 1)) + 1 := by omega
          have e3 : firstO hz 0 n = if hz k = true then some k else firstO hz (k + 1) (n - (k + 1)) := by rw [HE.out, e1]; rfl
          have E3 := Lib.hid e3; clear e3 e1
          have HV2 := Lib.hid ((HV.out.below HB.out).more HB.out.size)
          obtain ⟨b, off, c', x, hvv, hbb, hcell, hrow, hrl⟩ := HV2.out.row (k := k) (by rw [HN.out]; exact hkn)
          rw [HN.out] at hvv
          obtain rfl : A = some ⟨b, off, none⟩ := by injection hvv
          obtain ⟨r1, r2, hr⟩ : ∃ r1 r2, funcZ (I.getD k []) n ls gs = (r1, r2) := ⟨_, _, rfl⟩
          have HF : Hid (Calls Try.prog 19 #[x, .int .i64 n, .int .i64 ls, .int .i64 gs] wr fun e w' => e = .returned (.tuple #[.int .i64 r1, .int .i64 r2]) ∧ Below wr.heap.size wr w') := Lib.hid (by
            have := func_any (I.getD k []) x n ls gs wr hrow hrl; rwa [hr] at this)
          have hzk : hz k = (r2 != 0) := by rw [← HHZ.out]; unfold badFn; rw [HN.out, hr]
          have HZK := Lib.hid hzk; have HRR := Lib.hid hr
          clear hrow hrl hvv hr hzk HV2
          go_wp2_with fail
          refine HF.out.mono ?_
          rintro e w1 ⟨rfl, hb1⟩
          have HB1 := Lib.hid (HB.out.trans (hb1.mono HB.out.size))
          clear hb1 hcell HF
          cases hq : (r2 != 0) with
          | true =>
            have HY : Hid (rz = ((k : Int), r1, r2)) := Lib.hid (by rw [← HRZ.out, HX.out, E3.out, if_pos (by rw [HZK.out, hq]), HN.out]; simp only [HRR.out])
            go_wp2_with fail
            go_ret3
            rw [HY.out]
            exact ⟨rfl, HB1.out⟩
          | false =>
            have HY : Hid (firstO hz 0 n = firstO hz (k + 1) (n - (k + 1))) := Lib.hid (by rw [E3.out, if_neg (by rw [HZK.out, hq]; decide)])
            go_wp2_with fail
            go_roundw
            case rel => exact ⟨k + 1, by omega, by go_num, HY.out, HB1.out⟩
            case measure => simp [intOf]; omega
        · have e1 : n - k = 0 := by omega
          have HE2 := HE.out
          rw [e1] at HE2
          have HY : Hid (rz = (0, 0, 0)) := Lib.hid (by rw [← HRZ.out, HX.out, HE2]; rfl)
          clear HE2 e1
          go_wp2_with fail
          go_ret3
          rw [HY.out]
          exact ⟨rfl, HB.out⟩

end Go.Proofs.Ytjnlgmjcabbaaaa
