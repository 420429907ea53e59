/- References and futures as values. -/
import Derived.Test.YtboelofkbhgmfaaSto12
import Derived.Test.YtboelofkbhgmfaaMod12
import Derived.Test.YtboelofkbhgmfaaNumV
namespace Go.Proofs.Ytboelofkbhgmfaa
set_option maxRecDepth 100000

/-- A reference. -/
structure RefX where
  lb : Int
  v : Int
/-- A future. -/
structure FutX where
  lb : Int
  st : Int
  v : Int
  code : Int
def refA (x : RefX) : Array Value := #[.int .i64 x.lb, .int .i32 x.v]
def futA (x : FutX) : Array Value := #[.int .i64 x.lb, .int .i64 x.st, .int .i32 x.v, .int .i64 x.code]
theorem refA_size (x : RefX) : (refA x).size = 2 := rfl
theorem futA_size (x : FutX) : (futA x).size = 4 := rfl
theorem refA_one (x : RefX) : ∀ u ∈ (refA x).toList, u.oneCell' = true := by intro u hu; simp [refA] at hu; rcases hu with rfl | rfl <;> rfl
theorem futA_one (x : FutX) : ∀ u ∈ (futA x).toList, u.oneCell' = true := by intro u hu; simp [futA] at hu; rcases hu with rfl | rfl | rfl | rfl <;> rfl
def zR : RefX := ⟨0, 0⟩
def zF : FutX := ⟨0, 0, 0, 0⟩
/-- The values of a new store. -/
theorem sto_new {X : Type} {enc : X → Array Value} {w0 wr : World} {t e er sz : Nat} {n c : Nat} {A : Option Addr} {l : List Int} (hs : ∀ x, (enc x).size = sz) (hn : n = min l.length 16)
    (blk : wr.heap[w0.heap.size + 1]? = some (.cells #[.slice A n c, .slice (some ⟨w0.heap.size, 0, none⟩) n n] t (0, 0)))
    (tbl : wr.heap[w0.heap.size]? = some (.cells (nilR n).toArray er (0, 0))) (own : OwnI64 wr (w0.heap.size + 2) (.slice A n c) (quotasZ l)) :
    StoK enc wr (fun b => w0.heap.size ≤ b ∧ b < wr.heap.size) t e er sz (w0.heap.size + 1) A c w0.heap.size (nilR n) (quotasZ l) (List.replicate n []) := by
  have hlt := (Array.getElem?_eq_some_iff.1 blk).1
  have hql : (quotasZ l).length = n := by simp [quotasZ]; omega
  obtain ⟨A', c', e1, h1, h2, h3, h4, h5⟩ := Lies.of_own own
  injection e1 with e1 e2 e3
  subst e1 e3
  refine ⟨hs, by simpa [hql] using blk, tbl, by simp [nilR], by simp [hql], ?_, h4, ⟨⟨by omega, hlt⟩, by omega, by omega⟩, fun b off e => ?_, ?_, ?_, by omega, fun b hb => hb.2⟩
  · intro k v x hv hx
    have hv' := (List.mem_replicate.1 (List.mem_of_getElem? hv)).2
    have hx' := (List.mem_replicate.1 (List.mem_of_getElem? hx)).2
    subst hv' hx'
    exact World.ownsRow_nil wr 0 e sz
  · have := h5 b off e
    exact ⟨⟨by omega, this.2⟩, by omega, by omega⟩
  · intro v hv b hb
    obtain rfl := (List.mem_replicate.1 hv).2
    cases hb
  · intro j k u v b _ hu _ hb
    obtain rfl := (List.mem_replicate.1 (List.mem_of_getElem? hu)).2
    cases hb
end Go.Proofs.Ytboelofkbhgmfaa
