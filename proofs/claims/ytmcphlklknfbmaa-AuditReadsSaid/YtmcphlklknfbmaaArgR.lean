/- What an argument that is a list of rows of numbers holds: structs or arrays of integers, whatever their kinds. -/
import Derived.Test.YtmcphlklknfbmaaGrid
import Derived.Test.YtmcphlklknfbmaaLaw
import Derived.Deep.Slices
import Derived.Deep.Fields
import Derived.ChangeSame
namespace Go.Proofs.Ytmcphlklknfbmaa
set_option maxRecDepth 100000
open Go.RowKit Go.WideShapes Go.ChangeShapes Go.Deep

/-- A row of numbers of these kinds. -/
def KRow (ks : List IntKind) (r : List Int) : Prop := r.length = ks.length ∧ ∀ (j : Nat) (k : IntKind) (z : Int), ks[j]? = some k → r[j]? = some z → k.min ≤ z ∧ z ≤ k.max
def encK (ks : List IntKind) (r : List Int) : List Value := List.zipWith Value.int ks r
/-- The slice v holds the rows L, in blocks below B. -/
def RowsV (ks : List IntKind) (w : World) (B : Nat) (v : Value) (L : List (List Int)) : Prop :=
  ∃ A c, v = .slice A L.length c ∧ L.length ≤ c ∧ Lies w B A (L.flatMap (encK ks)) ∧ ∀ r ∈ L, KRow ks r
theorem flat_length {X Y : Type} {f : X → List Y} {sz : Nat} : ∀ {L : List X} (_ : ∀ r ∈ L, (f r).length = sz), (L.flatMap f).length = L.length * sz
  | [], _ => by simp
  | x :: L, h => by
    rw [List.flatMap_cons, List.length_append, h x (by simp), flat_length (fun r hr => h r (List.mem_cons_of_mem _ hr)), List.length_cons, Nat.add_mul, Nat.one_mul, Nat.add_comm]
theorem flat_get {X Y : Type} {f : X → List Y} {sz : Nat} : ∀ {L : List X} {k j : Nat} {x : X} {u : Y} (_ : ∀ r ∈ L, (f r).length = sz) (_ : L[k]? = some x) (_ : (f x)[j]? = some u), (L.flatMap f)[k * sz + j]? = some u
  | [], k, j, x, u, _, hk, _ => by simp at hk
  | y :: L, 0, j, x, u, h, hk, hj => by
    obtain rfl : y = x := by simpa using hk
    have hjs := (List.getElem?_eq_some_iff.1 hj).1
    rw [List.flatMap_cons, Nat.zero_mul, Nat.zero_add, List.getElem?_append_left hjs]
    exact hj
  | y :: L, k + 1, j, x, u, h, hk, hj => by
    have hy := h y (by simp)
    rw [List.flatMap_cons, List.getElem?_append_right (by rw [hy, Nat.add_mul]; omega), hy, show (k + 1) * sz + j - sz = k * sz + j from by rw [Nat.add_mul]; omega]
    exact flat_get (fun r hr => h r (List.mem_cons_of_mem _ hr)) (by simpa using hk) hj
theorem encK_length {ks : List IntKind} {r : List Int} (h : r.length = ks.length) : (encK ks r).length = ks.length := by unfold encK; simp [h]
theorem encK_get {ks : List IntKind} {r : List Int} {j : Nat} {k : IntKind} {z : Int} (hk : ks[j]? = some k) (hz : r[j]? = some z) : (encK ks r)[j]? = some (.int k z) := by
  unfold encK; rw [List.getElem?_zipWith, hk, hz]
section
variable {ks : List IntKind} {w w' : World} {B B' : Nat} {v : Value} {L : List (List Int)}
theorem RowsV.below (h : RowsV ks w B v L) (hb : Below B w w') : RowsV ks w' B v L := by
  obtain ⟨A, c, e, hn, hl, hr⟩ := h; exact ⟨A, c, e, hn, hl.below hb, hr⟩
theorem RowsV.more (h : RowsV ks w B v L) (hB : B ≤ B') : RowsV ks w B' v L := by
  obtain ⟨A, c, e, hn, hl, hr⟩ := h; exact ⟨A, c, e, hn, hl.more hB, hr⟩
theorem RowsV.row (h : RowsV ks w B v L) {k : Nat} (hk : k < L.length) : KRow ks L[k] := by
  obtain ⟨_, _, _, _, _, hr⟩ := h; exact hr _ (List.getElem_mem hk)
theorem RowsV.cells (h : RowsV ks w B v L) (hks : 0 < ks.length) {k : Nat} (hk : k < L.length) :
    ∃ b off c, v = .slice (some ⟨b, off, none⟩) L.length c ∧ b < B ∧ KRow ks L[k] ∧ ∀ (j : Nat) (kd : IntKind) (z : Int), ks[j]? = some kd → L[k][j]? = some z → w.cell? ⟨b, off + k * ks.length + j, none⟩ = some (.int kd z) := by
  obtain ⟨A, c, rfl, hn, hl, hr⟩ := h
  have hf : ∀ r ∈ L, (encK ks r).length = ks.length := fun r hr' => encK_length (hr r hr').1
  obtain ⟨b, off, rfl, hb, hc⟩ := hl (by rw [flat_length hf]; exact Nat.mul_pos (by omega) hks)
  refine ⟨b, off, c, rfl, hb, hr _ (List.getElem_mem hk), fun j kd z h1 h2 => ?_⟩
  have h3 := hc _ _ (flat_get hf (List.getElem?_eq_getElem hk) (encK_get h1 h2))
  rwa [← Nat.add_assoc] at h3
end

theorem wf_bound {k : IntKind} {z : Int} (h : (Lit.int k z).wf = true) : k.min ≤ z ∧ z ≤ k.max := by
  simpa [Lit.wf] using h
theorem cells_none {w : World} {a : Addr} {v : Value} (h : w.cell? a = some v) : a.spot = none := by
  obtain ⟨b, off, spot⟩ := a
  exact World.cell?_spot h
/-- Out of each element's cells. -/
theorem rows_of_cells {W : World} {ks : List IntKind} (hks : 0 < ks.length) {a : Addr} {len cap : Nat} (hl : len ≤ cap)
    (hx : ∀ i, i < len → ∃ r : List Int, KRow ks r ∧ ∀ (j : Nat) (k : IntKind) (z : Int), ks[j]? = some k → r[j]? = some z → W.cell? (a.add (i * ks.length + j)) = some (.int k z)) :
    ∃ L, RowsV ks W W.heap.size (.slice (some a) len cap) L ∧ L.length = len := by
  obtain ⟨q, hq⟩ := choose_lt hx
  have hlen : ((List.range len).map q).length = len := by simp
  refine ⟨(List.range len).map q, ⟨some a, cap, by rw [hlen], by rw [hlen]; exact hl, ?_, ?_⟩, hlen⟩
  · intro hp
    have hf : ∀ r ∈ (List.range len).map q, (encK ks r).length = ks.length := by
      intro r hr
      obtain ⟨i, hi, rfl⟩ := List.mem_map.1 hr
      exact encK_length (hq i (List.mem_range.1 hi)).1.1
    rw [flat_length hf, hlen] at hp
    have hl0 : 0 < len := Nat.pos_of_mul_pos_right hp
    have hr0 := hq 0 hl0
    have hk0 : ks[0]? = some ks[0] := List.getElem?_eq_getElem hks
    have hz0 : (q 0)[0]? = some ((q 0)[0]'(by rw [hr0.1.1]; exact hks)) := List.getElem?_eq_getElem _
    have h0 := hr0.2 0 _ _ hk0 hz0
    obtain ⟨b, off, spot⟩ := a
    have hspot : spot = none := by simpa [Addr.add] using World.cell?_spot h0
    subst hspot
    refine ⟨b, off, rfl, ?_, fun n u hu => ?_⟩
    · rw [Go.WideShapes.add_plain] at h0
      exact World.block_lt_of_cell? W _ h0
    · have hn : n < len * ks.length := by
        have := (List.getElem?_eq_some_iff.1 hu).1
        rwa [flat_length hf, hlen] at this
      have hi : n / ks.length < len := Nat.div_lt_of_lt_mul (by rw [Nat.mul_comm]; exact hn)
      have hj : n % ks.length < ks.length := Nat.mod_lt _ hks
      have hr := hq _ hi
      have e1 : ks[n % ks.length]? = some ks[n % ks.length] := List.getElem?_eq_getElem hj
      have e2 : (q (n / ks.length))[n % ks.length]? = some ((q (n / ks.length))[n % ks.length]'(by rw [hr.1.1]; exact hj)) := List.getElem?_eq_getElem _
      have e3 : ((List.range len).map q)[n / ks.length]? = some (q (n / ks.length)) := by simp [hi]
      have h1 := flat_get hf e3 (encK_get e1 e2)
      rw [Nat.div_add_mod'] at h1
      rw [hu] at h1
      injection h1 with h1
      have h2 := hr.2 _ _ _ e1 e2
      rw [Nat.div_add_mod', Go.WideShapes.add_plain] at h2
      rw [h2, h1]
  · intro r hr
    obtain ⟨i, hi, rfl⟩ := List.mem_map.1 hr
    exact (hq i (List.mem_range.1 hi)).1
section
variable {H : Type} {enc : TypeId × Value → H} {W : World}
/-- A slice of structs of integers. -/
theorem open_rowsS {base : Nat} {v : Value} {d : DataW H} {ps : List MemPlace} {t e : TypeId} {fs : Array Field} (ks : List IntKind) (ht : Try.prog.underlying t = some (.slice e)) (he : Try.prog.underlying e = some (.struct fs)) (hone : oneCellFields Try.prog fs = true)
    (hC : Try.prog.cellsOf e = ks.length) (hk : fs.toList.map (fun f => Try.prog.underlying f.type) = ks.map fun k => some (.int k)) (hks : 0 < ks.length)
    (hv : Value.okWide Try.prog W .any base t v) (h : DataW.Trod enc Try.prog W 0 (fun _ => true) true t v d ps) :
    ∃ L, RowsV ks W W.heap.size v L ∧ L.length ≤ maxLen := by
  obtain ⟨a0, len, cap, rfl⟩ := okWide_slice ht hv
  obtain ⟨fuel, hf⟩ := h
  have hsz : fs.size = ks.length := by have := congrArg List.length hk; simpa using this
  rcases open_slice ht hf with ⟨hcs, _⟩ | ⟨a, len', cap', m, n, D, Pl, hcs, _, hl, hm, hmm, _, hx⟩
  · simp [Value.cells] at hcs
    obtain ⟨rfl, rfl, rfl⟩ := hcs
    exact ⟨[], ⟨none, 0, rfl, Nat.le_refl _, Lies.nil, fun p hp => by cases hp⟩, Nat.zero_le _⟩
  · simp [Value.cells] at hcs
    obtain ⟨rfl, rfl, rfl⟩ := hcs
    have hlm : len ≤ m := by rw [hmm]; simp; exact hl
    have each : ∀ i, i < len → ∃ r : List Int, KRow ks r ∧ ∀ (j : Nat) (k : IntKind) (z : Int), ks[j]? = some k → r[j]? = some z → W.cell? (a.add (i * ks.length + j)) = some (.int k z) := by
      intro i hi
      obtain ⟨cs', h1, h2⟩ := hx i (by omega)
      rw [hC] at h1
      obtain ⟨_, hlen, hcell⟩ := World.cells?_some h1
      obtain ⟨xs, m', _, _, _, hxl, hfi⟩ := DataW.trod_struct he h2
      have hz : ∀ j, j < ks.length → ∃ z : Int, ∃ k, ks[j]? = some k ∧ cs'[j]? = some (.int k z) ∧ k.min ≤ z ∧ z ≤ k.max := by
        intro j hj
        have hjf : j < fs.size := by omega
        have hfj : fs[j]? = some fs[j] := Array.getElem?_eq_getElem hjf
        obtain ⟨ho, hc1⟩ := hone_of hone j _ hfj
        have hkj : ks[j]? = some ks[j] := List.getElem?_eq_getElem hj
        have hu : Try.prog.underlying fs[j].type = some (.int ks[j]) := by
          have := congrArg (fun l => l[j]?) hk
          simp only [List.getElem?_map, Array.getElem?_toList, hfj, hkj, Option.map_some] at this
          exact Option.some.inj this
        have h3 := hfi j _ hfj
        rw [ho, hc1] at h3
        have hone' : (cs'.drop j).take 1 = [cs'[j]'(by omega)] := by
          rw [List.drop_eq_getElem_cons (by omega)]
          rfl
        rw [hone'] at h3
        have hxj : xs[j]? = some (xs[j]'(by omega)) := List.getElem?_eq_getElem _
        rw [hxj] at h3
        obtain ⟨z, e1, _, hw⟩ := DataW.trod_int hu h3
        injection e1 with e1 _
        exact ⟨z, ks[j], hkj, by rw [← e1]; exact List.getElem?_eq_getElem _, wf_bound hw⟩
      obtain ⟨q, hq⟩ := choose_lt hz
      refine ⟨(List.range ks.length).map q, ⟨by simp, fun j k z hk' hz' => ?_⟩, fun j k z hk' hz' => ?_⟩
      · have hj := (List.getElem?_eq_some_iff.1 hk').1
        obtain ⟨k2, e1, _, e3⟩ := hq j hj
        rw [hk'] at e1
        injection e1 with e1
        subst e1
        have : z = q j := by simpa [hj] using hz'.symm
        subst this
        exact e3
      · have hj := (List.getElem?_eq_some_iff.1 hk').1
        obtain ⟨k2, e1, e2, _⟩ := hq j hj
        rw [hk'] at e1
        injection e1 with e1
        subst e1
        have : z = q j := by simpa [hj] using hz'.symm
        subst this
        have hjl : j < cs'.length := by omega
        have h4 := hcell j (by omega)
        rw [add_add] at h4
        have h5 : cs'[j]? = some (cs'[j]'hjl) := List.getElem?_eq_getElem hjl
        rw [h4, ← e2, h5]
    obtain ⟨L, h1, h2⟩ := rows_of_cells hks hl each
    exact ⟨L, h1, by omega⟩
end

end Go.Proofs.Ytmcphlklknfbmaa
