/- Package input but New, and the reference's Input, for any lists. -/
import Derived.Test.YtnelaeafjejjgaaCat10
import Derived.Test.YtnelaeafjejjgaaFrm
namespace Go.Proofs.Ytnelaeafjejjgaa
set_option maxRecDepth 100000
open Go.RowKit

/-- A row of 32 bits' numbers as it stands in a list of such. -/
structure Rw32 where
  A : Option Addr
  c : Nat
  l : List Int
def Rw32.hdr (r : Rw32) : Value := .slice r.A r.l.length r.c
def hdrs32 (rs : List Rw32) : List Value := rs.map Rw32.hdr
theorem hdrs32_length (rs : List Rw32) : (hdrs32 rs).length = rs.length := by simp [hdrs32]
/-- The slice v holds the rows rs, all in blocks below B. -/
def Tab32 (w : World) (B : Nat) (v : Value) (rs : List Rw32) : Prop :=
  ∃ A c, v = .slice A rs.length c ∧ Lies w B A (hdrs32 rs) ∧ ∀ r ∈ rs, r.l.length ≤ r.c ∧ Lies w B r.A (i32s r.l)
section
variable {w w' : World} {B B' : Nat} {v : Value} {rs : List Rw32}
theorem Tab32.below (h : Tab32 w B v rs) (hb : Below B w w') : Tab32 w' B v rs := by
  obtain ⟨A, c, e, hl, hr⟩ := h
  exact ⟨A, c, e, hl.below hb, fun r hm => ⟨(hr r hm).1, (hr r hm).2.below hb⟩⟩
theorem Tab32.more (h : Tab32 w B v rs) (hB : B ≤ B') : Tab32 w B' v rs := by
  obtain ⟨A, c, e, hl, hr⟩ := h
  exact ⟨A, c, e, hl.more hB, fun r hm => ⟨(hr r hm).1, (hr r hm).2.more hB⟩⟩
end
/-- Row k of it: its header's cell. -/
theorem tab_row {w : World} {B : Nat} {A : Option Addr} {rs : List Rw32} (h : Lies w B A (hdrs32 rs)) {k : Nat} (hk : k < rs.length) :
    ∃ b off, A = some ⟨b, off, none⟩ ∧ b < B ∧ w.cell? ⟨b, off + k, none⟩ = some (.slice rs[k].A rs[k].l.length rs[k].c) := by
  obtain ⟨b, off, e, hb, hc⟩ := h.cell (k := k) (by rw [hdrs32_length]; exact hk)
  exact ⟨b, off, e, hb, by rw [hc]; simp [hdrs32, Rw32.hdr]⟩

def listsOf (rs : List Rw32) : List (List Int) := rs.map (·.l)
def lenZ (Ls : List (List Int)) (p : Int) : Nat := if 0 ≤ p ∧ p < Ls.length then (Ls.getD p.toNat []).length else 0
def isZ (Ls : List (List Int)) (p q : Int) : Bool := decide (0 ≤ q ∧ q < lenZ Ls p)
def valZ (Ls : List (List Int)) (p q : Int) : Int := if isZ Ls p q then (Ls.getD p.toNat []).getD q.toNat 0 else 0
theorem lenZ_in {rs : List Rw32} {k : Nat} (h : k < rs.length) : lenZ (listsOf rs) (k : Int) = rs[k].l.length := by
  unfold lenZ
  rw [if_pos (by simp [listsOf]; exact h)]
  simp [listsOf, List.getD, h]
theorem lenZ_lo {Ls : List (List Int)} {p : Int} (h : p < 0) : lenZ Ls p = 0 := if_neg (by omega)
theorem lenZ_hi {rs : List Rw32} {p : Int} (h : (rs.length : Int) ≤ p) : lenZ (listsOf rs) p = 0 := if_neg (by simp [listsOf]; omega)
theorem isZ_no {Ls : List (List Int)} {p q : Int} (h : q < 0 ∨ (lenZ Ls p : Int) ≤ q) : isZ Ls p q = false ∧ valZ Ls p q = 0 := by
  have h1 : isZ Ls p q = false := by simp [isZ]; omega
  exact ⟨h1, by unfold valZ; rw [h1]; rfl⟩
theorem isZ_yes {rs : List Rw32} {k j : Nat} (hk : k < rs.length) (hj : j < rs[k].l.length) : isZ (listsOf rs) (k : Int) (j : Int) = true ∧ valZ (listsOf rs) (k : Int) (j : Int) = rs[k].l[j] := by
  have h1 : isZ (listsOf rs) (k : Int) (j : Int) = true := by unfold isZ; rw [lenZ_in hk]; simp; exact hj
  refine ⟨h1, ?_⟩
  unfold valZ
  rw [h1]
  simp [listsOf, List.getD, hk, hj]

/-- The inputs in memory: block g. -/
def InpV (w : World) (B g : Nat) (rs : List Rw32) : Prop := ∃ v, w.cell? ⟨g, 0, none⟩ = some v ∧ Tab32 w B v rs

set_option maxHeartbeats 1000000 in
theorem inLen_any (B g : Nat) (rs : List Rw32) (p : Int) (w : World) (h : InpV w B g rs) (hp : -9223372036854775808 ≤ p ∧ p ≤ 9223372036854775807) (hn : rs.length ≤ 100000) :
    Calls Try.prog 19 #[.pointer (some ⟨g, 0, none⟩), .int .i64 p] w fun e w' => e = .returned (.int .i64 (lenZ (listsOf rs) p : Nat)) ∧ w = w' := by
  obtain ⟨v, c0, A, c, rfl, hl, hr⟩ := h
  have HL := Lib.hid hl; clear hl hr
  by_cases h0 : p < 0
  · rw [lenZ_lo h0]
    generalize rs.length = n at *
    go_enter Try.func19, Try.ntmps19
    go_wp2_with fail
    go_ret
    exact ⟨rfl, rfl⟩
  by_cases h1 : (rs.length : Int) ≤ p
  · rw [lenZ_hi h1]
    generalize rs.length = n at *
    go_enter Try.func19, Try.ntmps19
    go_wp2_with fail
    go_ret
    exact ⟨rfl, rfl⟩
  · obtain ⟨k, rfl⟩ : ∃ k : Nat, p = k := ⟨p.toNat, by omega⟩
    have hk : k < rs.length := by omega
    rw [lenZ_in hk]
    obtain ⟨b, off, rfl, _, c1⟩ := tab_row HL.out hk
    obtain ⟨r, hrk⟩ : ∃ r, rs[k] = r := ⟨_, rfl⟩
    rw [hrk] at c1 ⊢
    obtain ⟨m, hm⟩ : ∃ m, r.l.length = m := ⟨_, rfl⟩
    rw [hm] at c1 ⊢
    clear hrk hm HL
    generalize rs.length = n at *
    have z1 : decide (n ≤ k) = false := by simp; omega
    go_enter Try.func19, Try.ntmps19
    go_wp2_with fail
    go_ret
    exact ⟨rfl, rfl⟩

def GotZ (w : World) (Ls : List (List Int)) (p q : Int) (e : Ending) (w' : World) : Prop := e = .returned (.tuple #[.int .i32 (valZ Ls p q), .bool (isZ Ls p q)]) ∧ w = w'

set_option maxHeartbeats 2000000 in
theorem inGet_any (B g : Nat) (rs : List Rw32) (p q : Int) (w : World) (h : InpV w B g rs) (hp : -9223372036854775808 ≤ p ∧ p ≤ 9223372036854775807) (hq : -2147483648 ≤ q ∧ q ≤ 2147483647) (hn : rs.length ≤ 100000) :
    Calls Try.prog 17 #[.pointer (some ⟨g, 0, none⟩), .int .i64 p, .int .i32 q] w (GotZ w (listsOf rs) p q) := by
  have HLN := Lib.hid (inLen_any B g rs p w h hp hn)
  obtain ⟨v, c0, A, c, rfl, hl, hr⟩ := h
  have HL := Lib.hid hl; have HR := Lib.hid hr; clear hl hr
  unfold GotZ
  by_cases h0 : q < 0
  · rw [(isZ_no (.inl h0)).1, (isZ_no (.inl h0)).2]
    clear HLN
    generalize rs.length = n at *
    go_enter Try.func17, Try.ntmps17
    go_wp2_with fail
    go_ret2
    exact ⟨rfl, rfl⟩
  by_cases h1 : (lenZ (listsOf rs) p : Int) ≤ q
  · rw [(isZ_no (.inr h1)).1, (isZ_no (.inr h1)).2]
    obtain ⟨m, hm⟩ : ∃ m, lenZ (listsOf rs) p = m := ⟨_, rfl⟩
    rw [hm] at HLN h1
    clear hm
    generalize rs.length = n at *
    go_enter Try.func17, Try.ntmps17
    go_wp2_with fail
    refine HLN.out.mono ?_
    rintro e w' ⟨rfl, rfl⟩
    go_wp2_with fail
    go_ret2
    exact ⟨rfl, rfl⟩
  · have hp0 : 0 ≤ p ∧ p < rs.length := by
      by_cases h2 : p < 0
      · rw [lenZ_lo h2] at h1; omega
      by_cases h3 : (rs.length : Int) ≤ p
      · rw [lenZ_hi h3] at h1; omega
      omega
    obtain ⟨k, rfl⟩ : ∃ k : Nat, p = k := ⟨p.toNat, by omega⟩
    obtain ⟨j, rfl⟩ : ∃ j : Nat, q = j := ⟨q.toNat, by omega⟩
    have hk : k < rs.length := by omega
    rw [lenZ_in hk] at h1 HLN
    have hj : j < rs[k].l.length := by omega
    rw [(isZ_yes hk hj).1, (isZ_yes hk hj).2]
    obtain ⟨b, off, rfl, _, c1⟩ := tab_row HL.out hk
    have hrow := (HR.out rs[k] (List.getElem_mem hk)).2
    generalize rs[k] = r at *
    obtain ⟨b2, o2, e2, _, c2⟩ := lie_i32 hrow hj
    rw [e2] at c1
    obtain ⟨x, hx⟩ : ∃ x, r.l[j] = x := ⟨_, rfl⟩
    rw [hx] at c2 ⊢
    obtain ⟨m, hm⟩ : ∃ m, r.l.length = m := ⟨_, rfl⟩
    rw [hm] at c1 HLN h1
    have hjm : j < m := by omega
    clear hx hrow e2 HL HR hj hm
    generalize rs.length = n at *
    have z1 : decide (m ≤ j) = false := by simp; omega
    have i1 : (0 : Int) ≤ (k : Int) ∧ (k : Int) < n := by omega
    have i2 : (0 : Int) ≤ (j : Int) ∧ (j : Int) < m := by omega
    go_enter Try.func17, Try.ntmps17
    go_wp2_with fail
    refine HLN.out.mono ?_
    rintro e w' ⟨rfl, rfl⟩
    go_wp2_with fail
    go_ret2
    exact ⟨rfl, rfl⟩

set_option maxHeartbeats 2000000 in
theorem refInput_any (B : Nat) (v : Value) (rs : List Rw32) (p q : Int) (w : World) (h : Tab32 w B v rs) (hp : -9223372036854775808 ≤ p ∧ p ≤ 9223372036854775807) (hq : -2147483648 ≤ q ∧ q ≤ 2147483647) (hn : rs.length ≤ 100000) :
    Calls Try.prog 18 #[v, .int .i64 p, .int .i32 q] w (GotZ w (listsOf rs) p q) := by
  obtain ⟨A, c, rfl, hl, hr⟩ := h
  have HL := Lib.hid hl; have HR := Lib.hid hr; clear hl hr
  unfold GotZ
  by_cases h0 : p < 0
  · have hz := isZ_no (Ls := listsOf rs) (p := p) (q := q) (by rw [lenZ_lo h0]; omega)
    rw [hz.1, hz.2]
    clear hz
    generalize rs.length = n at *
    go_enter Try.func18, Try.ntmps18
    go_wp2_with fail
    go_ret2
    exact ⟨rfl, rfl⟩
  by_cases h2 : (rs.length : Int) ≤ p
  · have hz := isZ_no (Ls := listsOf rs) (p := p) (q := q) (by rw [lenZ_hi h2]; omega)
    rw [hz.1, hz.2]
    clear hz
    generalize rs.length = n at *
    go_enter Try.func18, Try.ntmps18
    go_wp2_with fail
    go_ret2
    exact ⟨rfl, rfl⟩
  obtain ⟨k, rfl⟩ : ∃ k : Nat, p = k := ⟨p.toNat, by omega⟩
  have hk : k < rs.length := by omega
  by_cases h3 : q < 0
  · rw [(isZ_no (.inl h3)).1, (isZ_no (.inl h3)).2]
    generalize rs.length = n at *
    have z1 : decide (n ≤ k) = false := by simp; omega
    go_enter Try.func18, Try.ntmps18
    go_wp2_with fail
    go_ret2
    exact ⟨rfl, rfl⟩
  obtain ⟨j, rfl⟩ : ∃ j : Nat, q = j := ⟨q.toNat, by omega⟩
  obtain ⟨b, off, rfl, _, c1⟩ := tab_row HL.out hk
  have hrow := (HR.out rs[k] (List.getElem_mem hk)).2
  have hno := fun h => isZ_no (Ls := listsOf rs) (p := (k : Int)) (q := (j : Int)) h
  have hys := fun hj => isZ_yes (rs := rs) hk (j := j) hj
  rw [lenZ_in hk] at hno
  obtain ⟨r, hrk⟩ : ∃ r, rs[k] = r := ⟨_, rfl⟩
  simp only [hrk] at c1 hrow hno hys
  have i1 : (0 : Int) ≤ (k : Int) ∧ (k : Int) < rs.length := by omega
  by_cases h1 : (r.l.length : Int) ≤ (j : Int)
  · rw [(hno (.inr h1)).1, (hno (.inr h1)).2]
    obtain ⟨m, hm⟩ : ∃ m, r.l.length = m := ⟨_, rfl⟩
    rw [hm] at c1 h1
    clear hrow hno hys hrk hm HL HR
    generalize rs.length = n at *
    have z1 : decide (n ≤ k) = false := by simp; omega
    have z2 : decide (m ≤ j) = true := by simp; omega
    go_enter Try.func18, Try.ntmps18
    go_wp2_with fail
    go_ret2
    exact ⟨rfl, rfl⟩
  · have hj : j < r.l.length := by omega
    rw [(hys hj).1, (hys hj).2]
    obtain ⟨b2, o2, e2, _, c2⟩ := lie_i32 hrow hj
    rw [e2] at c1
    obtain ⟨x, hx⟩ : ∃ x, r.l[j] = x := ⟨_, rfl⟩
    rw [hx] at c2 ⊢
    obtain ⟨m, hm⟩ : ∃ m, r.l.length = m := ⟨_, rfl⟩
    rw [hm] at c1 h1
    have hjm : j < m := by omega
    clear hx hrow e2 hno hys hrk HL HR hj hm
    generalize rs.length = n at *
    have z1 : decide (n ≤ k) = false := by simp; omega
    have z2 : decide (m ≤ j) = false := by simp; omega
    have i2 : (0 : Int) ≤ (j : Int) ∧ (j : Int) < m := by omega
    go_enter Try.func18, Try.ntmps18
    go_wp2_with fail
    go_ret2
    exact ⟨rfl, rfl⟩

end Go.Proofs.Ytnelaeafjejjgaa
