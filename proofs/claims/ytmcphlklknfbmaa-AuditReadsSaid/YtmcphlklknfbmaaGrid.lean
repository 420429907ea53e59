/- Tables of bools and lists of numbers in memory; what the functions on them answer, as plain functions. -/
import Derived.Test.YtmcphlklknfbmaaRows
import Derived.WalkKit
import Derived.WalkLawsBesides
import Derived.Lib.Hide
import Derived.Outline
import Derived.Deep.DeepMust
import Derived.Maps.AppendAt
import Derived.OwnWalk
namespace Go.Proofs.Ytmcphlklknfbmaa
set_option maxRecDepth 100000
open Go.RowKit

/-- From the place A on, in blocks below B, the cells hold xs. -/
def Lies (w : World) (B : Nat) (A : Option Addr) (xs : List Value) : Prop :=
  0 < xs.length → ∃ b off, A = some ⟨b, off, none⟩ ∧ b < B ∧ ∀ j u, xs[j]? = some u → w.cell? ⟨b, off + j, none⟩ = some u

section
variable {w w' : World} {B : Nat} {A : Option Addr} {xs : List Value}

theorem Lies.nil : Lies w B A [] := fun h => absurd h (by simp)
theorem Lies.keep (h : Lies w B A xs) (hk : ∀ b o, b < B → w'.cell? ⟨b, o, none⟩ = w.cell? ⟨b, o, none⟩) : Lies w' B A xs := fun hn => by
  obtain ⟨b, off, e, hb, hc⟩ := h hn
  exact ⟨b, off, e, hb, fun j u hu => (hk b _ hb).trans (hc j u hu)⟩
theorem Lies.below (h : Lies w B A xs) (hb : Below B w w') : Lies w' B A xs := h.keep fun b o hlt => hb.cell (p := ⟨b, o, none⟩) hlt
theorem Lies.more {B' : Nat} (h : Lies w B A xs) (hB : B ≤ B') : Lies w B' A xs := fun hn => by
  obtain ⟨b, off, e, hb, hc⟩ := h hn
  exact ⟨b, off, e, by omega, hc⟩
theorem Lies.cell (h : Lies w B A xs) {k : Nat} (hk : k < xs.length) : ∃ b off, A = some ⟨b, off, none⟩ ∧ b < B ∧ w.cell? ⟨b, off + k, none⟩ = some xs[k] := by
  obtain ⟨b, off, e, hb, hc⟩ := h (by omega)
  exact ⟨b, off, e, hb, hc k _ (List.getElem?_eq_getElem hk)⟩
end

/-- A slice that the call owns lies in memory. -/
theorem Lies.of_own {w : World} {base e : Nat} {v : Value} {n : Nat} {xs : List Value} (h : w.ownsRow base e 1 v n xs) :
    ∃ A c, v = .slice A n c ∧ n ≤ c ∧ c ≤ maxLen ∧ xs.length = n ∧ Lies w w.heap.size A xs ∧ (∀ b off, A = some ⟨b, off, none⟩ → base ≤ b ∧ b < w.heap.size) := by
  rcases h.2 with ⟨rfl, rfl⟩ | ⟨g, cap, cur, rfl, hb, hg, hn, hm, _, _⟩
  · refine ⟨none, 0, rfl, Nat.le_refl _, Nat.zero_le _, by simpa using h.1, ?_, fun b off e => by cases e⟩
    have : xs = [] := List.eq_nil_of_length_eq_zero (by simpa using h.1)
    subst this; exact Lies.nil
  · have hlt := (Array.getElem?_eq_some_iff.1 hg).1
    refine ⟨_, cap, rfl, hn, hm, by simpa using h.1, fun hn' => ⟨g, 0, rfl, hlt, fun j u hu => ?_⟩, fun b off e => ?_⟩
    · have := h.cells (g := g) rfl j u hu
      have e : (⟨g, 0, none⟩ : Addr).add j = ⟨g, 0 + j, none⟩ := by unfold Addr.add; split <;> simp_all
      rw [e] at this; exact this
    · injection e with e; injection e with e1 _; subst e1; exact ⟨hb, hlt⟩

theorem own_below {w w' : World} {base e : Nat} {v : Value} {n : Nat} {xs : List Value} (h : w.ownsRow base e 1 v n xs) (hb : Below w.heap.size w w') : w'.ownsRow base e 1 v n xs :=
  h.kept (row := none) ⟨hb.os, hb.tape, hb.output, hb.size, fun k hk _ => hb.block k hk⟩ (by cases hv : v.ownBlock <;> simp)
theorem cell_blk {w : World} {g t : Nat} {cs : Array Value} (h : w.heap[g]? = some (.cells cs t (0, 0))) (i : Nat) : w.cell? ⟨g, i, none⟩ = cs[i]? := cell_of_row w g i cs t (0, 0) h
theorem frozen_blk {w : World} {g t : Nat} {cs : Array Value} (h : w.heap[g]? = some (.cells cs t (0, 0))) (i : Nat) : w.frozen? ⟨g, i, none⟩ = false := by
  simp [World.frozen?, h]
theorem set_blk {w : World} {g t : Nat} {cs : Array Value} (h : w.heap[g]? = some (.cells cs t (0, 0))) (i : Nat) (u : Value) : (w.setCell ⟨g, i, none⟩ u).heap[g]? = some (.cells (cs.setIfInBounds i u) t (0, 0)) := by
  simp [World.setCell, Array.getElem?_modify, h]
theorem below_alloc (w : World) (o : Obj) : Below w.heap.size w (w.alloc o) := (Below.refl _ _).alloc (Nat.le_refl _) o
theorem lies_new (w : World) (cs : List Value) (t : Nat) : Lies (w.alloc (.cells cs.toArray t)) (w.heap.size + 1) (some ⟨w.heap.size, 0, none⟩) cs := fun _ =>
  ⟨w.heap.size, 0, rfl, Nat.lt_succ_self _, fun j u hu => by
    have h : (w.alloc (.cells cs.toArray t)).heap[w.heap.size]? = some (.cells cs.toArray t (0, 0)) := heap_alloc_new w _
    rw [cell_blk h]; simpa using hu⟩

def i64s (l : List Int) : List Value := l.map (Value.int .i64)
def bls (l : List Bool) : List Value := l.map Value.bool
theorem i64s_length (l : List Int) : (i64s l).length = l.length := by simp [i64s]
theorem bls_length (l : List Bool) : (bls l).length = l.length := by simp [bls]

/-- The value v is a slice that holds the numbers l. -/
def IntsV (w : World) (B : Nat) (v : Value) (l : List Int) : Prop := ∃ A c, v = .slice A l.length c ∧ Lies w B A (i64s l)
theorem IntsV.below {w w' : World} {B : Nat} {v : Value} {l : List Int} (h : IntsV w B v l) (hb : Below B w w') : IntsV w' B v l := by
  obtain ⟨A, c, e, h⟩ := h; exact ⟨A, c, e, h.below hb⟩
theorem IntsV.more {w : World} {B B' : Nat} {v : Value} {l : List Int} (h : IntsV w B v l) (hb : B ≤ B') : IntsV w B' v l := by
  obtain ⟨A, c, e, h⟩ := h; exact ⟨A, c, e, h.more hb⟩

/-- A row of a table. -/
structure Rw where
  A : Option Addr
  c : Nat
  l : List Bool
def Rw.hdr (r : Rw) : Value := .slice r.A r.l.length r.c
def rowsOf (rs : List Rw) : List (List Bool) := rs.map (·.l)

/-- The value v is a slice of slices that holds the table T, all of it in blocks below B. -/
def TabV (w : World) (B : Nat) (v : Value) (T : List (List Bool)) : Prop :=
  ∃ A c rs, v = .slice A rs.length c ∧ rowsOf rs = T ∧ Lies w B A (rs.map Rw.hdr) ∧ ∀ r ∈ rs, Lies w B r.A (bls r.l)
theorem TabV.below {w w' : World} {B : Nat} {v : Value} {T : List (List Bool)} (h : TabV w B v T) (hb : Below B w w') : TabV w' B v T := by
  obtain ⟨A, c, rs, e, eT, h, hr⟩ := h; exact ⟨A, c, rs, e, eT, h.below hb, fun r hm => (hr r hm).below hb⟩
theorem TabV.more {w : World} {B B' : Nat} {v : Value} {T : List (List Bool)} (h : TabV w B v T) (hb : B ≤ B') : TabV w B' v T := by
  obtain ⟨A, c, rs, e, eT, h, hr⟩ := h; exact ⟨A, c, rs, e, eT, h.more hb, fun r hm => (hr r hm).more hb⟩

/-- A square table: n rows of n. -/
structure Grid (w : World) (B b off n : Nat) (G O C : Nat → Nat) (Z : Nat → Nat → Bool) : Prop where
  lt : b < B
  glt : ∀ j, j < n → G j < B
  top : ∀ j, j < n → w.cell? ⟨b, off + j, none⟩ = some (.slice (some ⟨G j, O j, none⟩) n (C j))
  cel : ∀ j i, j < n → i < n → w.cell? ⟨G j, O j + i, none⟩ = some (.bool (Z j i))
theorem Grid.below {w w' : World} {B b off n : Nat} {G O C : Nat → Nat} {Z : Nat → Nat → Bool} (h : Grid w B b off n G O C Z) (hb : Below B w w') : Grid w' B b off n G O C Z :=
  ⟨h.lt, h.glt, fun j hj => (hb.cell (p := ⟨b, off + j, none⟩) h.lt).trans (h.top j hj), fun j i hj hi => (hb.cell (p := ⟨G j, O j + i, none⟩) (h.glt j hj)).trans (h.cel j i hj hi)⟩
theorem Grid.more {w : World} {B B' b off n : Nat} {G O C : Nat → Nat} {Z : Nat → Nat → Bool} (h : Grid w B b off n G O C Z) (hb : B ≤ B') : Grid w B' b off n G O C Z :=
  ⟨Nat.lt_of_lt_of_le h.lt hb, fun j hj => Nat.lt_of_lt_of_le (h.glt j hj) hb, h.top, h.cel⟩

def atT (T : List (List Bool)) (a b : Nat) : Bool := (T.getD a []).getD b false
def sqB (T : List (List Bool)) : Bool := decide (1 ≤ T.length) && decide (T.length ≤ 16) && T.all fun r => decide (r.length = T.length)
theorem sqB_iff {T : List (List Bool)} : sqB T = true ↔ 1 ≤ T.length ∧ T.length ≤ 16 ∧ ∀ r ∈ T, r.length = T.length := by
  simp [sqB, and_assoc]
theorem sqB_no {T : List (List Bool)} (h : ¬ (1 ≤ T.length ∧ T.length ≤ 16 ∧ ∀ r ∈ T, r.length = T.length)) : sqB T = false := by
  rw [← sqB_iff] at h; simpa using h

theorem grid_of {w : World} {B : Nat} {v : Value} {T : List (List Bool)} (h : TabV w B v T) (hs : sqB T = true) :
    1 ≤ T.length ∧ T.length ≤ 16 ∧ ∃ b off c G O C, v = .slice (some ⟨b, off, none⟩) T.length c ∧ Grid w B b off T.length G O C (atT T) := by
  obtain ⟨h1, h2, h3⟩ := sqB_iff.1 hs
  refine ⟨h1, h2, ?_⟩
  obtain ⟨A, c, rs, rfl, rfl, hL, hr⟩ := h
  have hn : (rowsOf rs).length = rs.length := by simp [rowsOf]
  rw [hn] at h1 h2 h3 ⊢
  obtain ⟨b, off, rfl, hb, hc⟩ := hL (by simp; omega)
  have hrow : ∀ j, ∃ p : Nat × Nat × Nat, j < rs.length → p.1 < B ∧ w.cell? ⟨b, off + j, none⟩ = some (.slice (some ⟨p.1, p.2.1, none⟩) rs.length p.2.2) ∧ ∀ i, i < rs.length → w.cell? ⟨p.1, p.2.1 + i, none⟩ = some (.bool (atT (rowsOf rs) j i)) := by
    intro j
    by_cases hj : j < rs.length
    · have hl : rs[j].l.length = rs.length := h3 _ (List.mem_map.2 ⟨rs[j], List.getElem_mem hj, rfl⟩)
      obtain ⟨g, o, e, hg, hcc⟩ := hr rs[j] (List.getElem_mem hj) (by rw [bls_length, hl]; omega)
      refine ⟨(g, o, rs[j].c), fun _ => ⟨hg, ?_, fun i hi => hcc i _ ?_⟩⟩
      · rw [hc j (Rw.hdr rs[j]) (by simp [hj])]
        simp [Rw.hdr, e, hl]
      · have hi' : i < rs[j].l.length := by omega
        simp [bls, atT, rowsOf, List.getD, hj, hi']
    · exact ⟨(0, 0, 0), fun h => absurd h hj⟩
  obtain ⟨F, hF⟩ := Classical.axiomOfChoice hrow
  exact ⟨b, off, c, fun j => (F j).1, fun j => (F j).2.1, fun j => (F j).2.2, rfl, hb, fun j hj => (hF j hj).1, fun j hj => (hF j hj).2.1, fun j i hj hi => (hF j hj).2.2 i hi⟩

end Go.Proofs.Ytmcphlklknfbmaa
