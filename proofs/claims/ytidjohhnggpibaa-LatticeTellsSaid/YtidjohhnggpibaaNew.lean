/- New: the lattice of a table, or the error. -/
import Derived.Test.YtidjohhnggpibaaAll
namespace Go.Proofs.Ytidjohhnggpibaa
open Go.RowKit

/-- A square table of bools, all of it in blocks from lo on and below B. -/
structure GridB (w : World) (lo B b n : Nat) (G C : Nat → Nat) (Z : Nat → Nat → Bool) : Prop where
  lt : lo ≤ b ∧ b < B
  glt : ∀ j, j < n → lo ≤ G j ∧ G j < B
  top : ∀ j, j < n → w.cell? ⟨b, j, none⟩ = some (.slice (some ⟨G j, 0, none⟩) n (C j))
  cel : ∀ j i, j < n → i < n → w.cell? ⟨G j, i, none⟩ = some (.bool (Z j i))
theorem GridB.keep {w w' : World} {lo B b n : Nat} {G C : Nat → Nat} {Z : Nat → Nat → Bool} (h : GridB w lo B b n G C Z) (hk : ∀ b o, lo ≤ b → b < B → w'.cell? ⟨b, o, none⟩ = w.cell? ⟨b, o, none⟩) : GridB w' lo B b n G C Z :=
  ⟨h.lt, h.glt, fun j hj => (hk b j h.lt.1 h.lt.2).trans (h.top j hj), fun j i hj hi => (hk (G j) i (h.glt j hj).1 (h.glt j hj).2).trans (h.cel j i hj hi)⟩
theorem GridB.below {w w' : World} {lo B b n : Nat} {G C : Nat → Nat} {Z : Nat → Nat → Bool} (h : GridB w lo B b n G C Z) (hb : Below B w w') : GridB w' lo B b n G C Z := h.keep fun b o _ hlt => hb.cell (p := ⟨b, o, none⟩) hlt
theorem GridB.more {w : World} {lo B B' b n : Nat} {G C : Nat → Nat} {Z : Nat → Nat → Bool} (h : GridB w lo B b n G C Z) (hb : B ≤ B') : GridB w lo B' b n G C Z :=
  ⟨⟨h.lt.1, Nat.lt_of_lt_of_le h.lt.2 hb⟩, fun j hj => ⟨(h.glt j hj).1, Nat.lt_of_lt_of_le (h.glt j hj).2 hb⟩, h.top, h.cel⟩
theorem GridB.less {w : World} {lo lo' B b n : Nat} {G C : Nat → Nat} {Z : Nat → Nat → Bool} (h : GridB w lo B b n G C Z) (hb : lo' ≤ lo) : GridB w lo' B b n G C Z :=
  ⟨⟨Nat.le_trans hb h.lt.1, h.lt.2⟩, fun j hj => ⟨Nat.le_trans hb (h.glt j hj).1, (h.glt j hj).2⟩, h.top, h.cel⟩
theorem FG.gridB {w : World} {base n : Nat} {v : Value} {G C : Nat → Nat} {Z : Nat → Nat → Bool} (h : FG w base v n n G C Z) (hn : 0 < n) : ∃ g c, v = .slice (some ⟨g, 0, none⟩) n c ∧ GridB w base w.heap.size g n G C Z := by
  obtain ⟨g, c, e, h1, h2, h3, _⟩ := h.grid hn
  exact ⟨g, c, e, ⟨h1, h2⟩, fun j hj => ⟨h.rows.lo j hj, h.rows.lt hj⟩, h3, fun j i hj hi => h.rows.cell hj hi⟩
theorem sq_row {T : List (List Bool)} (hs : sqB T = true) {j : Nat} (hj : j < T.length) : T[j].length = T.length := (sqB_iff.1 hs).2.2 _ (List.getElem_mem hj)
theorem atT_get {T : List (List Bool)} (hs : sqB T = true) {j i : Nat} (hj : j < T.length) (hi : i < T.length) : atT T j i = T[j][i]'(by rw [sq_row hs hj]; exact hi) := by
  have h2 : i < T[j].length := by rw [sq_row hs hj]; exact hi
  simp [atT, List.getD, hj, h2]
/-- The table that a grid holds. -/
theorem GridB.tab {w : World} {lo B b n c : Nat} {G C : Nat → Nat} {T : List (List Bool)} (h : GridB w lo B b n G C (atT T)) (hs : sqB T = true) (hn : T.length = n) : TabV w B (.slice (some ⟨b, 0, none⟩) n c) T := by
  have hT : rowsOf (rowsL n G C (atT T)) = T := by
    rw [rowsL_tab]
    refine List.ext_getElem (by rw [tabOf_length, hn]) fun j h1 h2 => ?_
    refine List.ext_getElem (by simp [tabOf, rowOf, sq_row hs h2, hn]) fun i h3 h4 => ?_
    have hi : i < T.length := by rw [← sq_row hs h2]; exact h4
    rw [← atT_get hs h2 hi]
    simp [tabOf, rowOf]
  refine ⟨some ⟨b, 0, none⟩, c, rowsL n G C (atT T), by simp [rowsL], hT, fun _ => ⟨b, 0, rfl, h.lt.2, fun j u hu => ?_⟩, fun r hr => ?_⟩
  · rw [rowsL_hdr] at hu
    have hj : j < n := by
      have := (List.getElem?_eq_some_iff.1 hu).1; simpa [hdrs] using this
    rw [Nat.zero_add, h.top j hj, ← hu, hdrs_get hj]
  · obtain ⟨j, hj, rfl⟩ := List.mem_map.1 hr
    have hj' : j < n := by simpa using hj
    intro _
    refine ⟨G j, 0, rfl, (h.glt j hj').2, fun i u hu => ?_⟩
    have hi : i < n := by
      have := (List.getElem?_eq_some_iff.1 hu).1; simpa [bls, rowOf] using this
    rw [Nat.zero_add, h.cel j i hj' hi, ← hu]
    simp [bls, rowOf, hi]

/-- A lattice in memory: its three tables. -/
structure LatG (w : World) (lo B g n bq cq bj cj bm cm : Nat) (Gq Cq Gj Cj Gm Cm : Nat → Nat) (T : List (List Bool)) : Prop where
  lat : latB T = true
  len : T.length = n
  lt : lo ≤ g ∧ g < B
  c0 : w.cell? ⟨g, 0, none⟩ = some (.slice (some ⟨bq, 0, none⟩) n cq)
  c1 : w.cell? ⟨g, 1, none⟩ = some (.slice (some ⟨bj, 0, none⟩) n cj)
  c2 : w.cell? ⟨g, 2, none⟩ = some (.slice (some ⟨bm, 0, none⟩) n cm)
  leq : GridB w lo B bq n Gq Cq (atT T)
  jn : GridI w lo B bj n Gj Cj (jnN n (atT T))
  mt : GridI w lo B bm n Gm Cm (jnN n (flipZ (atT T)))
def LatV (w : World) (lo B g : Nat) (T : List (List Bool)) : Prop := ∃ n bq cq bj cj bm cm Gq Cq Gj Cj Gm Cm, LatG w lo B g n bq cq bj cj bm cm Gq Cq Gj Cj Gm Cm T
theorem LatV.keep {w w' : World} {lo B g : Nat} {T : List (List Bool)} (h : LatV w lo B g T) (hk : ∀ b o, lo ≤ b → b < B → w'.cell? ⟨b, o, none⟩ = w.cell? ⟨b, o, none⟩) : LatV w' lo B g T := by
  obtain ⟨n, bq, cq, bj, cj, bm, cm, Gq, Cq, Gj, Cj, Gm, Cm, h⟩ := h
  exact ⟨n, bq, cq, bj, cj, bm, cm, Gq, Cq, Gj, Cj, Gm, Cm, h.lat, h.len, h.lt, (hk _ _ h.lt.1 h.lt.2).trans h.c0, (hk _ _ h.lt.1 h.lt.2).trans h.c1, (hk _ _ h.lt.1 h.lt.2).trans h.c2, h.leq.keep hk, h.jn.keep hk, h.mt.keep hk⟩
theorem LatV.below {w w' : World} {lo B g : Nat} {T : List (List Bool)} (h : LatV w lo B g T) (hb : Below B w w') : LatV w' lo B g T := h.keep fun b o _ hlt => hb.cell (p := ⟨b, o, none⟩) hlt
theorem LatV.more {w : World} {lo B B' g : Nat} {T : List (List Bool)} (h : LatV w lo B g T) (hb : B ≤ B') : LatV w lo B' g T := by
  obtain ⟨n, bq, cq, bj, cj, bm, cm, Gq, Cq, Gj, Cj, Gm, Cm, h⟩ := h
  exact ⟨n, bq, cq, bj, cj, bm, cm, Gq, Cq, Gj, Cj, Gm, Cm, h.lat, h.len, ⟨h.lt.1, Nat.lt_of_lt_of_le h.lt.2 hb⟩, h.c0, h.c1, h.c2, h.leq.more hb, h.jn.more hb, h.mt.more hb⟩
theorem LatV.later {w w' : World} {lo g : Nat} {T : List (List Bool)} (h : LatV w lo w.heap.size g T) (hb : Below w.heap.size w w') : LatV w' lo w'.heap.size g T := (h.below hb).more hb.size
theorem LatV.lat {w : World} {lo B g : Nat} {T : List (List Bool)} (h : LatV w lo B g T) : latB T = true := by
  obtain ⟨n, bq, cq, bj, cj, bm, cm, Gq, Cq, Gj, Cj, Gm, Cm, h⟩ := h; exact h.lat
/-- A store into a block that is older than the lattice. -/
theorem LatV.set {w : World} {lo B g : Nat} {T : List (List Bool)} (h : LatV w lo B g T) {p : Addr} (hp : p.block < lo) (u : Value) : LatV (w.setCell p u) lo B g T :=
  h.keep fun b o hlo _ => World.cell?_setCell_other w p ⟨b, o, none⟩ u (by rintro rfl; simp at hp; omega)

/-- What New leaves. -/
def NewMade (w : World) (T : List (List Bool)) (e : Ending) (w' : World) : Prop := Below w.heap.size w w' ∧
  ((latB T = true ∧ ∃ g, e = .returned (.tuple #[.pointer (some ⟨g, 0, none⟩), .int .i64 0]) ∧ LatV w' w.heap.size w'.heap.size g T) ∨ (latB T = false ∧ e = .returned (.tuple #[.pointer none, .int .i64 23])))

theorem clo_new {B pb b off n c x y : Nat} {G O C : Nat → Nat} {Z : Nat → Nat → Bool} (w : World) (hp : w.cell? ⟨pb, 0, none⟩ = some (.slice (some ⟨b, off, none⟩) n c)) (hg : Grid w B b off n G O C Z) (hx : x < n) (hy : y < n) :
    Calls Try.prog 37 #[.int .i64 x, .int .i64 y, .pointer (some ⟨pb, 0, none⟩)] w fun e w' => e = .returned (.bool (Z x y)) ∧ w' = w := by
  have t1 := hg.top x hx
  have t2 := hg.cel x y hx hy
  clear hg
  generalize Z x y = z at *
  generalize G x = gx at *
  generalize O x = ox at *
  generalize C x = cx at *
  go_enter Try.func37, Try.ntmps37
  go_wp2_with fail
  go_ret
  exact ⟨rfl, rfl⟩

/-- The lattice's block. -/
def LObj (w : World) (g : Nat) (x0 x1 x2 : Value) : Prop := w.heap[g]? = some (.cells #[x0, x1, x2] 54 (0, 0))
section
variable {w w' : World} {g : Nat} {x0 x1 x2 : Value}
theorem LObj.lt (h : LObj w g x0 x1 x2) : g < w.heap.size := (Array.getElem?_eq_some_iff.1 h).1
theorem LObj.below (h : LObj w g x0 x1 x2) {B : Nat} (hg : g < B) (hb : Below B w w') : LObj w' g x0 x1 x2 := (hb.block g hg).trans h
theorem LObj.c0 (h : LObj w g x0 x1 x2) : w.cell? ⟨g, 0, none⟩ = some x0 := by rw [cell_blk h]; rfl
theorem LObj.c1 (h : LObj w g x0 x1 x2) : w.cell? ⟨g, 1, none⟩ = some x1 := by rw [cell_blk h]; rfl
theorem LObj.c2 (h : LObj w g x0 x1 x2) : w.cell? ⟨g, 2, none⟩ = some x2 := by rw [cell_blk h]; rfl
theorem LObj.free (h : LObj w g x0 x1 x2) (i : Nat) : w.frozen? ⟨g, i, none⟩ = false := frozen_blk h i
theorem LObj.set1 (h : LObj w g x0 x1 x2) (u : Value) : LObj (w.setCell ⟨g, 1, none⟩ u) g x0 u x2 := (set_blk h 1 u).trans (by simp)
theorem LObj.set2 (h : LObj w g x0 x1 x2) (u : Value) : LObj (w.setCell ⟨g, 2, none⟩ u) g x0 x1 u := (set_blk h 2 u).trans (by simp)
theorem LObj.new (w : World) (x0 x1 x2 : Value) : LObj (w.alloc (.cells #[x0, x1, x2] 54)) w.heap.size x0 x1 x2 := heap_alloc_new w _
end

theorem AllMade.open {w w' : World} {n : Nat} {Z : Nat → Nat → Bool} {e : Ending} (h : AllMade w n Z e w') :
    ∃ A m c s, e = .returned (.tuple #[.slice A m c, .bool s]) ∧ jOkB n Z = s ∧ Below w.heap.size w w' ∧ (s = true → ∃ G C, FI w' w.heap.size (.slice A m c) n n G C (jnN n Z)) := by
  obtain ⟨hb, ⟨h1, v, G, C, rfl, hf⟩ | ⟨h1, rfl⟩⟩ := h
  · obtain ⟨A, c, rfl, _⟩ := Lies.of_own hf.own
    exact ⟨A, n, c, true, rfl, h1, hb, fun _ => ⟨G, C, hf⟩⟩
  · exact ⟨none, 0, 0, false, rfl, h1, hb, fun h => by cases h⟩
theorem lat_parts {T : List (List Bool)} {n : Nat} (hn : T.length = n) (h2 : reflB T = true) (h3 : antiB T = true) (h4 : transB T = true) : latB T = (jOkB n (atT T) && jOkB n (flipZ (atT T))) := by
  unfold latB
  rw [h2, h3, h4, hn, pairsB_two]; rfl

set_option maxHeartbeats 4000000 in
theorem new_any {v : Value} {T : List (List Bool)} (w : World) (h : TabV w w.heap.size v T) :
    Calls Try.prog 11 #[v] w (NewMade w T) := by
  obtain ⟨A0, n0, c0, rfl⟩ : ∃ A n c, v = .slice A n c := by
    obtain ⟨A, c, rs, e, _⟩ := h
    exact ⟨A, _, c, e⟩
  obtain ⟨wb, hwb⟩ : ∃ wb : World, wb = w.alloc (.cells #[.slice A0 n0 c0] 22) := ⟨_, rfl⟩
  have hb0 : Below w.heap.size w wb := by rw [hwb]; exact below_alloc _ _
  have HT := Lib.hid (h.later hb0); clear h
  have hcell : wb.cell? ⟨w.heap.size, 0, none⟩ = some (.slice A0 n0 c0) := by rw [hwb, cell_blk (heap_alloc_new w _)]; rfl
  have hsb : wb.heap.size = w.heap.size + 1 := by rw [hwb, World.size_alloc]
  have HB0 := Lib.hid hb0; clear hb0
  have q1 := sq_any wb HT.out
  have q2 := refl_any wb HT.out
  have q3 := anti_any wb HT.out
  have q4 := trans_any wb HT.out
  obtain ⟨s1, hs1⟩ : ∃ s, sqB T = s := ⟨_, rfl⟩
  obtain ⟨s2, hs2⟩ : ∃ s, reflB T = s := ⟨_, rfl⟩
  obtain ⟨s3, hs3⟩ : ∃ s, antiB T = s := ⟨_, rfl⟩
  obtain ⟨s4, hs4⟩ : ∃ s, transB T = s := ⟨_, rfl⟩
  rw [hs1] at q1
  rw [hs2] at q2
  rw [hs3] at q3
  rw [hs4] at q4
  have Q1 := Lib.hid q1; clear q1
  have Q2 := Lib.hid q2; clear q2
  have Q3 := Lib.hid q3; clear q3
  have Q4 := Lib.hid q4; clear q4
  have HNO := Lib.hid (show (s1 && s2 && s3 && s4) = false → latB T = false by
    intro hno
    cases hl : latB T with
    | false => rfl
    | true =>
      have k1 := lat_sq hl
      obtain ⟨k2, k3, k4, _⟩ := latB_iff.1 hl
      rw [← hs1, ← hs2, ← hs3, ← hs4, k1, k2, k3, k4] at hno; cases hno)
  have HS1 := Lib.hid hs1; clear hs1
  have HS2 := Lib.hid hs2; clear hs2
  have HS3 := Lib.hid hs3; clear hs3
  have HS4 := Lib.hid hs4; clear hs4
  go_enter Try.func11, Try.ntmps11
  have HWB := Lib.hid hwb; clear hwb
  go_wp2_with fail
  rw [← HWB.out]
  refine Q1.out.mono ?_
  rintro e w' ⟨rfl, rfl⟩
  cases s1 with
  | false =>
    go_wp2_with fail
    go_ret2
    exact ⟨HB0.out, .inr ⟨HNO.out rfl, rfl⟩⟩
  | true =>
  go_wp2_with fail
  refine Q2.out.mono ?_
  rintro e w' ⟨rfl, rfl⟩
  cases s2 with
  | false =>
    go_wp2_with fail
    go_ret2
    exact ⟨HB0.out, .inr ⟨HNO.out rfl, rfl⟩⟩
  | true =>
  go_wp2_with fail
  refine Q3.out.mono ?_
  rintro e w' ⟨rfl, rfl⟩
  cases s3 with
  | false =>
    go_wp2_with fail
    go_ret2
    exact ⟨HB0.out, .inr ⟨HNO.out rfl, rfl⟩⟩
  | true =>
  go_wp2_with fail
  refine Q4.out.mono ?_
  rintro e w' ⟨rfl, rfl⟩
  cases s4 with
  | false =>
    go_wp2_with fail
    go_ret2
    exact ⟨HB0.out, .inr ⟨HNO.out rfl, rfl⟩⟩
  | true =>
  clear HNO Q1 Q2 Q3 Q4 HWB
  obtain ⟨h1, h2, b, off, c, G, O, C, hv, hgr⟩ := grid_of HT.out HS1.out
  obtain ⟨n, hn⟩ : ∃ n, T.length = n := ⟨_, rfl⟩
  rw [hn] at h1 h2 hv hgr
  injection hv with e1 e2 e3
  subst e1 e2 e3
  have HN := Lib.hid hn; clear hn
  have HGR := Lib.hid hgr; clear hgr
  go_wp2_with fail
  have HC := Lib.hid hcell; clear hcell
  refine (tabOf_new n0 h1 h2 (atT T) wb w.heap.size (fun w' x y hx hy hbw => clo_new w' ((hbw.cell (p := ⟨w.heap.size, 0, none⟩) (by simp; omega)).trans HC.out) (HGR.out.below hbw) hx hy)).mono ?_
  rintro e w2 ⟨v, Gq, Cq, rfl, hfg, hb2⟩
  obtain ⟨bq, cq, rfl, hgq⟩ := hfg.gridB (by omega)
  have HGQ := Lib.hid hgq; clear hgq hfg
  have HB2 := Lib.hid (nextB HB0.out hb2); clear hb2
  have hsz2 := HB2.out.size
  obtain ⟨g, hg⟩ : ∃ g, w2.heap.size = g := ⟨_, rfl⟩
  obtain ⟨w3, hw3⟩ : ∃ w3 : World, w3 = w2.alloc (.cells #[.slice (some ⟨bq, 0, none⟩) n0 cq, .slice none 0 0, .slice none 0 0] 54) := ⟨_, rfl⟩
  have HO3 := Lib.hid (show LObj w3 g (.slice (some ⟨bq, 0, none⟩) n0 cq) (.slice none 0 0) (.slice none 0 0) by rw [hw3, ← hg]; exact LObj.new w2 _ _ _)
  have HB3 := Lib.hid (show Below g w2 w3 by rw [hw3, ← hg]; exact below_alloc _ _)
  have hs3 : w3.heap.size = g + 1 := by rw [hw3, World.size_alloc, hg]
  have HGQ3 := Lib.hid (show GridB w3 wb.heap.size g bq n0 Gq Cq (atT T) by have := HGQ.out; rw [hg] at this; exact this.below HB3.out)
  have HW3 := Lib.hid hw3; clear hw3
  clear HGQ HGR HC HT
  go_wp2_with fail
  rw [← HW3.out]
  refine (pairs_join w3 (((HGQ3.out).tab HS1.out HN.out).more (by omega)) HS1.out HN.out HO3.out.c0 (by omega)).mono ?_
  rintro e w4 hm
  obtain ⟨A1, m1, c1, s1, rfl, hj1, hb4, hf1⟩ := hm.open
  clear hm
  have HF1 := Lib.hid hf1; clear hf1
  have HJ1 := Lib.hid hj1; clear hj1
  have HB4 := Lib.hid hb4; clear hb4
  have HO4 := Lib.hid (HO3.out.below (by omega) HB4.out)
  have hs4 := HB4.out.size
  have hcell := HO4.out.c1
  have hfrz := HO4.out.free 1
  obtain ⟨w5, hw5⟩ : ∃ w5 : World, w5 = w4.setCell ⟨g, 1, none⟩ (.slice A1 m1 c1) := ⟨_, rfl⟩
  have HO5 := Lib.hid (show LObj w5 g (.slice (some ⟨bq, 0, none⟩) n0 cq) (.slice A1 m1 c1) (.slice none 0 0) by rw [hw5]; exact HO4.out.set1 _)
  have HB5 := Lib.hid (show Below g w3 w5 by rw [hw5]; exact (show Below g w3 w4 from HB4.out.mono (by omega)).setCell (p := ⟨g, 1, none⟩) (Nat.le_refl _) _)
  have hs5 : w5.heap.size = w4.heap.size := by rw [hw5]; simp [World.setCell]
  have HGQ5 := Lib.hid (HGQ3.out.below HB5.out)
  have HF5 := Lib.hid (show s1 = true → ∃ b c G C, Value.slice A1 m1 c1 = .slice (some ⟨b, 0, none⟩) n0 c ∧ GridI w5 w3.heap.size w4.heap.size b n0 G C (jnN n0 (atT T)) by
    intro hs
    obtain ⟨G, C, hf⟩ := HF1.out hs
    obtain ⟨b, c, e, hgi⟩ := hf.grid (by omega)
    refine ⟨b, c, G, C, e, hgi.keep fun b o hlo _ => ?_⟩
    rw [hw5]
    exact World.cell?_setCell_other w4 ⟨g, 1, none⟩ ⟨b, o, none⟩ _ (by intro e; injection e with e _ _; omega))
  have HW5 := Lib.hid hw5; clear hw5
  clear HF1 HW3
  go_wp2_with fail
  rw [← HW5.out]
  refine (pairs_meet w5 (((HGQ5.out).tab HS1.out HN.out).more (by omega)) HS1.out HN.out HO5.out.c0 (by omega)).mono ?_
  rintro e w6 hm
  obtain ⟨A2, m2, c2, s2, rfl, hj2, hb6, hf2⟩ := hm.open
  clear hm hcell hfrz
  have HF2 := Lib.hid hf2; clear hf2
  have HJ2 := Lib.hid hj2; clear hj2
  have HB6 := Lib.hid hb6; clear hb6
  have HO6 := Lib.hid (HO5.out.below (by omega) HB6.out)
  have hs6 := HB6.out.size
  have hcell := HO6.out.c2
  have hfrz := HO6.out.free 2
  obtain ⟨w7, hw7⟩ : ∃ w7 : World, w7 = w6.setCell ⟨g, 2, none⟩ (.slice A2 m2 c2) := ⟨_, rfl⟩
  have HO7 := Lib.hid (show LObj w7 g (.slice (some ⟨bq, 0, none⟩) n0 cq) (.slice A1 m1 c1) (.slice A2 m2 c2) by rw [hw7]; exact HO6.out.set2 _)
  have HB7 := Lib.hid (show Below g w5 w7 by rw [hw7]; exact (show Below g w5 w6 from HB6.out.mono (by omega)).setCell (p := ⟨g, 2, none⟩) (Nat.le_refl _) _)
  have hs7 : w7.heap.size = w6.heap.size := by rw [hw7]; simp [World.setCell]
  have hk57 : ∀ b o, b < w5.heap.size → b ≠ g → w7.cell? ⟨b, o, none⟩ = w5.cell? ⟨b, o, none⟩ := fun b o hb hne => by
    rw [hw7, World.cell?_setCell_other w6 ⟨g, 2, none⟩ ⟨b, o, none⟩ _ (by intro e; injection e with e _ _; omega)]
    exact HB6.out.cell (p := ⟨b, o, none⟩) hb
  have HF7 := Lib.hid (show s1 = true → ∃ b c G C, Value.slice A1 m1 c1 = .slice (some ⟨b, 0, none⟩) n0 c ∧ GridI w7 w.heap.size w7.heap.size b n0 G C (jnN n0 (atT T)) by
    intro hs
    obtain ⟨b, c, G, C, e, hgi⟩ := HF5.out hs
    exact ⟨b, c, G, C, e, ((hgi.keep fun b o hlo hlt => hk57 b o (by omega) (by omega)).more (by omega)).less (by omega)⟩)
  have HM7 := Lib.hid (show s2 = true → ∃ b c G C, Value.slice A2 m2 c2 = .slice (some ⟨b, 0, none⟩) n0 c ∧ GridI w7 w.heap.size w7.heap.size b n0 G C (jnN n0 (flipZ (atT T))) by
    intro hs
    obtain ⟨G, C, hf⟩ := HF2.out hs
    obtain ⟨b, c, e, hgi⟩ := hf.grid (by omega)
    refine ⟨b, c, G, C, e, ((hgi.keep fun b o hlo _ => ?_).more (by omega)).less (by omega)⟩
    rw [hw7]
    exact World.cell?_setCell_other w6 ⟨g, 2, none⟩ ⟨b, o, none⟩ _ (by intro e; injection e with e _ _; omega))
  have HGQ7 := Lib.hid (((HGQ5.out.below HB7.out).more (B' := w7.heap.size) (by omega)).less (lo' := w.heap.size) (by omega))
  have HBE := Lib.hid (show Below w.heap.size w w7 from HB2.out.trans (((HB3.out.trans HB5.out).trans HB7.out).mono (by omega)))
  have HLT := Lib.hid (show w.heap.size ≤ g ∧ g < w7.heap.size by omega)
  have HLP := Lib.hid (show latB T = (s1 && s2) by rw [lat_parts HN.out HS2.out HS3.out HS4.out, HJ1.out, HJ2.out])
  have HW7 := Lib.hid hw7; clear hw7
  clear HF2 HF5 HB7 HB6 HB5 HB4 HGQ5 HGQ3 hk57 HW5
  cases s1 with
  | false =>
    have HNO := Lib.hid (show latB T = false from HLP.out.trans rfl)
    clear HF7 HM7 HLP
    go_wp2_with fail
    rw [← HW7.out]
    go_ret2
    exact ⟨HBE.out, .inr ⟨HNO.out, rfl⟩⟩
  | true =>
  cases s2 with
  | false =>
    have HNO := Lib.hid (show latB T = false from HLP.out.trans rfl)
    clear HF7 HM7 HLP
    go_wp2_with fail
    rw [← HW7.out]
    go_ret2
    exact ⟨HBE.out, .inr ⟨HNO.out, rfl⟩⟩
  | true =>
    have HYES := Lib.hid (show latB T = true from HLP.out.trans rfl)
    obtain ⟨bj, cj, Gj, Cj, e1, hj⟩ := HF7.out rfl
    obtain ⟨bm, cm, Gm, Cm, e2, hm⟩ := HM7.out rfl
    injection e1 with e1 e3 e4
    injection e2 with e2 e5 e6
    subst e1 e2 e3 e4 e5 e6
    have HLV := Lib.hid (show LatV w7 w.heap.size w7.heap.size g T from ⟨_, bq, cq, bj, _, bm, _, Gq, Cq, Gj, Cj, Gm, Cm, HYES.out, HN.out, HLT.out, HO7.out.c0, HO7.out.c1, HO7.out.c2, HGQ7.out, hj, hm⟩)
    clear hj hm HF7 HM7 HLP
    go_wp2_with fail
    rw [← HW7.out]
    go_ret2
    exact ⟨HBE.out, .inl ⟨HYES.out, g, rfl, HLV.out⟩⟩

end Go.Proofs.Ytidjohhnggpibaa
