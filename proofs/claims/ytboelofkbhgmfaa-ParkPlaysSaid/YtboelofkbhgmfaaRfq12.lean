/- The reference's quotas; a new store, whatever made its parts. -/
import Derived.Test.YtboelofkbhgmfaaTyp12
import Derived.Test.YtboelofkbhgmfaaApn8
import Derived.IntWalk
namespace Go.Proofs.Ytboelofkbhgmfaa
set_option maxRecDepth 100000
open Go.RowKit

/-- A list of numbers that the call makes. -/
def OwnQ (w : World) (l : List Int) (e : Ending) (w' : World) : Prop := (∃ v, e = .returned v ∧ OwnI64 w' w.heap.size v l) ∧ Below w.heap.size w w'
theorem OwnI64.shapeN {w : World} {base : Nat} {v : Value} {l : List Int} (h : OwnI64 w base v l) : ∃ A c, v = .slice A l.length c := by
  rcases h.2 with ⟨e1, e2⟩ | ⟨g, cap, cur, e1, _⟩
  · exact ⟨none, 0, by rw [e1, e2]⟩
  · exact ⟨_, cap, e1⟩
set_option maxRecDepth 100000 in
set_option maxHeartbeats 8000000 in
theorem refQuotas_any (v : Value) (l : List Int) (w : World) (h : NumV w w.heap.size v l) (hn : l.length ≤ 1000) : Calls Try.prog 52 #[v] w (OwnQ w (quotasZ l)) := by
  obtain ⟨A, c, rfl, hc, hl⟩ := h
  have HL := Lib.hid hl; clear hl
  obtain ⟨n, hnn⟩ : ∃ n, min l.length 16 = n := ⟨_, rfl⟩
  obtain ⟨N, hN⟩ : ∃ N, l.length = N := ⟨_, rfl⟩
  have HN := Lib.hid hN
  rw [hN] at hc hn hnn ⊢
  have HNN := Lib.hid hnn
  have hnl : n ≤ N := by omega
  have hn16 : n ≤ 16 := by omega
  have hnb : N ≤ n ∨ 16 ≤ n := by omega
  clear hN hnn
  go_enter Try.func52, Try.ntmps52
  go_wp2_with fail
  go_loopw [3, 4] (fun v i wr => ∃ k : Nat, k ≤ n ∧ i = .int .i64 k ∧ OwnI64 wr w.heap.size v ((l.take k).map clampZ) ∧ Below w.heap.size w wr) (fun _ i _ => n - (intOf i).toNat)
  case atStart => exact ⟨0, Nat.zero_le _, rfl, OwnI64.nil _ _, Below.refl _ _⟩
  case round =>
    obtain ⟨k, hk, rfl, ho, hb⟩ := hrel
    have HO := Lib.hid ho; have HB := Lib.hid hb
    have hlen : ((l.take k).map clampZ).length = k := by rw [List.length_map, List.length_take, HN.out]; omega
    obtain ⟨Av, cv, hv⟩ := ho.shapeN
    rw [hlen] at hv
    subst hv
    have HLEN := Lib.hid hlen
    unfold OwnI64 at ho
    rw [hlen] at ho
    have HO2 := Lib.hid ho
    have hsz := hb.size
    clear ho hb hlen
    by_cases hkn : k < n
    · have hkl : k < l.length := by rw [HN.out]; omega
      obtain ⟨b, off, rfl, hb, d0⟩ := lie_int HL.out hkl
      have d1 : wr.cell? ⟨b, off + k, none⟩ = some (.int .i64 l[k]) := by rw [HB.out.cell (p := ⟨b, off + k, none⟩) hb, d0]
      have HTK := Lib.hid (List.take_succ_eq_append_getElem hkl)
      clear d0
      generalize l[k] = q at *
      obtain ⟨m1, h1⟩ : ∃ m1, (if q < 0 then (0 : Int) else q) = m1 := ⟨_, rfl⟩
      obtain ⟨m2, h2⟩ : ∃ m2, (if 4096 < m1 then (4096 : Int) else m1) = m2 := ⟨_, rfl⟩
      have HC : Hid (clampZ q = m2) := Lib.hid (by unfold clampZ; rw [← h2, ← h1]; split <;> split <;> omega)
      have i1 : (0 : Int) ≤ (k : Int) ∧ (k : Int) < N := by omega
      have i2 : (k : Int) < 16 := by omega
      have z1 : decide ((k : Int) < 16) = true := by simp; omega
      go_wp2_with (at_builtin; go_must (refine wpList_append_new 22 3 (.int .i64 0) 1 8 Try.underlying22 inf_int rfl (by decide) (by decide) rfl (.tmp 15) (.tmp 22) rfl w.heap.size _ _ _ _ [.int .i64 m2] rfl rfl HO2.out rfl rfl ?c1 ?c2 ?c3 ?_))
      case c1 => intro u hu; obtain rfl : u = .int .i64 m2 := by simpa using hu
                 rfl
      case c2 => omega
      case c3 => exact hsz
      intro v3 w3 ho3 hg3 _
      rw [← List.map_take] at ho3
      have O3 : Hid (OwnI64 w3 w.heap.size v3 ((l.take (k + 1)).map clampZ)) := Lib.hid (OwnI64.snoc (x := m2) (l := (l.take k).map clampZ) (by rw [HLEN.out]) ho3 (by rw [HTK.out, List.map_append, List.map_cons, List.map_nil, HC.out]))
      have B3 : Hid (Below w.heap.size w w3) := Lib.hid (HB.out.grown hg3 HB.out.size (fun j hj => (HO2.out.lt _ hj).1))
      clear ho3 hg3
      go_wp2_with fail
      go_roundw
      case rel => exact ⟨k + 1, by omega, by go_num, O3.out, B3.out⟩
      case measure => simp [intOf]; omega
    · obtain rfl : k = n := by omega
      have HQ : Hid ((l.take k).map clampZ = quotasZ l) := Lib.hid (by
        unfold quotasZ
        have e := HNN.out
        have e2 := HN.out
        congr 1
        rcases (by omega : k = 16 ∨ k = N) with e3 | e3
        · rw [e3]
        · rw [List.take_of_length_le (by omega), List.take_of_length_le (by omega)])
      have HF : Hid (OwnQ w (quotasZ l) (.returned (.slice Av k cv)) wr) := Lib.hid ⟨⟨_, rfl, by rw [← HQ.out]; exact HO.out⟩, HB.out⟩
      by_cases hkN : k < N
      · have z1 : decide ((k : Int) < 16) = false := by simp; omega
        clear hkn
        go_wp2_with fail
        go_ret
        exact HF.out
      · go_wp2_with fail
        go_ret
        exact HF.out

/-- A new store: its quotas first, then its table, then its struct. -/
theorem sto_new2 {X : Type} {enc : X → Array Value} {w0 w1 w3 : World} {t e er sz : Nat} {n c : Nat} {A : Option Addr} {l : List Int} (hs : ∀ x, (enc x).size = sz) (hn : n = min l.length 16)
    (own : OwnI64 w1 w0.heap.size (.slice A n c) (quotasZ l)) (h0 : w0.heap.size ≤ w1.heap.size)
    (hw : w3 = (w1.alloc (.cells (nilR n).toArray er)).alloc (.cells #[.slice A n c, .slice (some ⟨w1.heap.size, 0, none⟩) n n] t)) :
    StoK enc w3 (fun b => w0.heap.size ≤ b ∧ b < w3.heap.size) t e er sz (w1.heap.size + 1) A c w1.heap.size (nilR n) (quotasZ l) (List.replicate n []) := by
  have hb : Below w1.heap.size w1 w3 := by rw [hw]; exact (below_alloc w1 _).alloc (by simp) _
  have blk : w3.heap[w1.heap.size + 1]? = some (.cells #[.slice A n c, .slice (some ⟨w1.heap.size, 0, none⟩) n n] t (0, 0)) := by rw [hw]; exact heapNewS (by simp)
  have tbl : w3.heap[w1.heap.size]? = some (.cells (nilR n).toArray er (0, 0)) := by rw [hw]; exact heapOldS (heap_alloc_new _ _)
  have hlt := (Array.getElem?_eq_some_iff.1 blk).1
  have hql : (quotasZ l).length = n := by simp [quotasZ]; omega
  obtain ⟨A', c', e1, h1, h2, h3, h4, h5⟩ := Lies.of_own own
  injection e1 with e1 e2 e3
  subst e1 e3
  have hl3 : Lies w3 w3.heap.size A (i64s (quotasZ l)) := (h4.below hb).more hb.size
  refine ⟨hs, by simpa [hql] using blk, tbl, by simp [nilR], by simp [hql], ?_, hl3, ⟨⟨by omega, hlt⟩, by omega, by omega⟩, fun b off e => ?_, ?_, ?_, by omega, fun b hb => hb.2⟩
  · intro k v x hv hx
    have hv' := (List.mem_replicate.1 (List.mem_of_getElem? hv)).2
    have hx' := (List.mem_replicate.1 (List.mem_of_getElem? hx)).2
    subst hv' hx'
    exact World.ownsRow_nil w3 0 e sz
  · have := h5 b off e
    have hsz := hb.size
    exact ⟨⟨by omega, by omega⟩, by omega, by omega⟩
  · intro v hv b hb
    obtain rfl := (List.mem_replicate.1 hv).2
    cases hb
  · intro j k u v b _ hu _ hb
    obtain rfl := (List.mem_replicate.1 (List.mem_of_getElem? hu)).2
    cases hb

end Go.Proofs.Ytboelofkbhgmfaa
