/- What a list of looks (a bool and a number each) holds, as an argument. -/
import Derived.Test.YtcmjmbemlfcdjaaOpen
import Derived.ChangeSame
import Derived.ChangeArms
namespace Go.Proofs.Ytcmjmbemlfcdjaa
open Go.RowKit Go.WideShapes Go.ChangeShapes Go.Deep

def IsLooks (l : List (Bool × Nat)) : Prop := ∀ p ∈ l, p.2 ≤ 18446744073709551615
/-- From A on lie the looks, two cells each, below block B. -/
def LooksLie (w : World) (B : Nat) (A : Option Addr) (l : List (Bool × Nat)) : Prop :=
  ∀ i (h : i < l.length), ∃ b off, A = some ⟨b, off, none⟩ ∧ b < B ∧ w.cell? ⟨b, off + i * 2, none⟩ = some (.bool l[i].1) ∧ w.cell? ⟨b, off + i * 2 + 1, none⟩ = some (.int .u64 l[i].2)

theorem cells_bool : Try.prog.cellsOf 4 = 1 := by kernel_rfl
theorem cells_u64 : Try.prog.cellsOf 29 = 1 := by kernel_rfl
theorem cells_act : Try.prog.cellsOf 37 = 2 := by kernel_rfl

section
variable {H : Type} {enc : TypeId × Value → H} {W : World}

theorem open_bytes_cap {base : Nat} {v : Value} {d : DataW H} {ps : List MemPlace} (hv : Value.okWide Try.prog W .any base 22 v) (h : DataW.Trod enc Try.prog W 0 (fun _ => true) true 22 v d ps) :
    ∃ A l c, v = .slice A l.length c ∧ l.length ≤ c ∧ c ≤ maxLen ∧ IsBytes l ∧ Lies W W.heap.size A (u8s l) := by
  obtain ⟨a0, len, cap, rfl⟩ := okWide_slice Try.underlying22 hv
  obtain ⟨A, l, c, hv2, _, hb, hl⟩ := open_bytes hv h
  injection hv2 with h1 h2 h3
  subst h1 h2 h3
  obtain ⟨fuel, hf⟩ := h
  rcases open_ints Try.underlying22 Try.underlying5 (by kernel_rfl) hf with ⟨hcs, _⟩ | ⟨a, len', cap', zs, hcs, _, hle, hm, _⟩
  · simp [Value.cells] at hcs
    obtain ⟨rfl, e2, rfl⟩ := hcs
    exact ⟨none, l, 0, rfl, by (first | omega | (rw [e2]; exact Nat.le_refl 0)), Nat.zero_le _, hb, hl⟩
  · simp [Value.cells] at hcs
    obtain ⟨rfl, e2, rfl⟩ := hcs
    exact ⟨_, l, _, rfl, by omega, hm, hb, hl⟩

theorem open_looks {base : Nat} {v : Value} {d : DataW H} {ps : List MemPlace} (hv : Value.okWide Try.prog W .any base 25 v) (h : DataW.Trod enc Try.prog W 0 (fun _ => true) true 25 v d ps) :
    ∃ (A : Option Addr) (l : List (Bool × Nat)) (c : Nat), v = .slice A l.length c ∧ l.length ≤ maxLen ∧ IsLooks l ∧ LooksLie W W.heap.size A l := by
  obtain ⟨a0, len, cap, rfl⟩ := okWide_slice Try.underlying25 hv
  obtain ⟨fuel, hf⟩ := h
  rcases open_slice Try.underlying25 hf with ⟨hcs, _⟩ | ⟨a, len', cap', m, n, D, Pl, hcs, _, hl, hm, hmm, _, hi⟩
  · simp [Value.cells] at hcs
    obtain ⟨rfl, rfl, rfl⟩ := hcs
    exact ⟨none, [], 0, rfl, Nat.zero_le _, (fun u hu => by cases hu), fun i h => by simp at h⟩
  · simp [Value.cells] at hcs
    obtain ⟨rfl, rfl, rfl⟩ := hcs
    simp only [if_true] at hmm
    have each : ∀ i, i < len → ∃ p : Bool × Nat, p.2 ≤ 18446744073709551615 ∧ W.cell? (a.add (i * 2)) = some (.bool p.1) ∧ W.cell? (a.add (i * 2 + 1)) = some (.int .u64 p.2) := by
      intro i hil
      obtain ⟨cs', hc, ht⟩ := hi i (by omega)
      rw [cells_act] at hc
      obtain ⟨y0, y1, n', _, hlen, h0, h1⟩ := trod_struct2 Try.underlying37 ht
      rw [cells_act] at hlen
      obtain ⟨_, hcl, hat⟩ := World.cells?_some hc
      match cs', hlen with
      | [c0, c1], _ =>
        have hb : Try.prog.cellsOf 4 = 1 := cells_bool
        have hu : Try.prog.cellsOf 29 = 1 := cells_u64
        simp only [hb, hu, List.drop_zero, List.drop_succ_cons, List.take_succ_cons, List.take_zero] at h0 h1
        obtain ⟨bv, e0, _⟩ := DataW.trod_bool Try.underlying4 h0
        obtain ⟨z, e1, _, wz⟩ := DataW.trod_int Try.underlying29 h1
        have hz : 0 ≤ z ∧ z ≤ 18446744073709551615 := by simpa [Lit.wf, IntKind.min, IntKind.max, IntKind.signed, IntKind.bits] using wz
        injection e0 with e0; injection e1 with e1; subst e0 e1
        have g0 := hat 0 (by omega)
        have g1 := hat 1 (by omega)
        rw [Go.Deep.add_add] at g0 g1
        refine ⟨(bv, z.toNat), by show z.toNat ≤ _; omega, by simpa using g0, ?_⟩
        have ez : ((z.toNat : Nat) : Int) = z := by omega
        show W.cell? (a.add (i * 2 + 1)) = some (.int .u64 ((z.toNat : Nat) : Int))
        rw [ez]; simpa using g1
    obtain ⟨f, hfn⟩ : ∃ f : Nat → Bool × Nat, ∀ i, i < len → (f i).2 ≤ 18446744073709551615 ∧ W.cell? (a.add (i * 2)) = some (.bool (f i).1) ∧ W.cell? (a.add (i * 2 + 1)) = some (.int .u64 (f i).2) :=
      ⟨fun i => if h : i < len then (each i h).choose else (false, 0), fun i h => by simp only [h, dif_pos]; exact (each i h).choose_spec⟩
    have hlen : ((List.range len).map f).length = len := by simp
    refine ⟨some a, (List.range len).map f, cap, by rw [hlen], by omega, fun p hp => ?_, fun i h => ?_⟩
    · obtain ⟨i, hi', rfl⟩ := List.mem_map.1 hp
      exact (hfn i (by simpa using hi')).1
    · have hil : i < len := by simpa using h
      obtain ⟨_, g0, g1⟩ := hfn i hil
      obtain ⟨b, off, spot⟩ := a
      have hspot : spot = none := by
        have := (hfn 0 (by omega)).2.1
        simpa [Addr.add] using World.cell?_spot this
      subst hspot
      rw [Go.WideShapes.add_plain] at g0 g1
      refine ⟨b, off, rfl, World.block_lt_of_cell? W _ g0, ?_, ?_⟩
      · rw [g0]; simp
      · rw [Nat.add_assoc, g1]; simp
end

end Go.Proofs.Ytcmjmbemlfcdjaa
