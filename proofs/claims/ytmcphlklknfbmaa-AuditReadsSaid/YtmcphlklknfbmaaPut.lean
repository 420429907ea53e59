/- The walks of pack.Put and pack.Lump. -/
import Derived.Test.YtmcphlklknfbmaaTop
import Derived.Test.YtmcphlklknfbmaaRead
import Derived.Test.YtmcphlklknfbmaaApp
namespace Go.Proofs.Ytmcphlklknfbmaa
set_option maxRecDepth 100000
open Go.RowKit

def u64s (l : List Nat) : List Value := l.map fun n : Nat => Value.int .u64 (n : Int)
theorem u64s_length (l : List Nat) : (u64s l).length = l.length := by simp [u64s]

def IsNums (l : List Nat) : Prop := ∀ x ∈ l, x ≤ 18446744073709551615

/-- The encodings of numbers, one after another. -/
def encs (l : List Nat) : List Int := l.flatMap enc

theorem encs_take {l : List Nat} {k : Nat} (h : k < l.length) : encs (l.take (k + 1)) = encs (l.take k) ++ enc l[k] := by
  rw [List.take_succ_eq_append_getElem h]; simp only [encs, List.flatMap_append, List.flatMap_cons, List.flatMap_nil, List.append_nil]

theorem encs_length {l : List Nat} (h : IsNums l) : (encs l).length ≤ 10 * l.length := by
  induction l with
  | nil => simp [encs]
  | cons x r ih =>
    have h1 := (enc_length_le x (by have := h x (by simp); omega)).2
    have h2 := ih (fun y hy => h y (by simp [hy]))
    simp only [encs, List.flatMap_cons, List.length_append, List.length_cons] at *
    omega

theorem encs_take_length {l : List Nat} (h : IsNums l) (k : Nat) : (encs (l.take k)).length ≤ 10 * l.length := by
  have h1 := encs_length (l := l.take k) (fun y hy => h y (List.mem_of_mem_take hy))
  have h2 := List.length_take_le k l
  have h3 := List.length_take_le' k l
  omega

set_option maxRecDepth 100000 in
set_option maxHeartbeats 1000000 in
theorem put_any (B : Nat) (A : Option Addr) (c n : Nat) (ns : List Nat) (w : World) (hn : ns.length = n) (hm : n ≤ 1099511627776) (hns : IsNums ns) (hB : B ≤ w.heap.size) (hl : Lies w B A (u64s ns)) :
    Calls Try.prog 90 #[.slice A n c] w fun e w' =>
      ∃ v, e = .returned v ∧ w'.ownsRow w.heap.size 5 1 v (encs ns).length (u8s (encs ns)) ∧ Below w.heap.size w w' := by
  subst hn
  have HN := Lib.hid hns; clear hns
  have HL := Lib.hid hl; clear hl
  go_enter Try.func90, Try.ntmps90
  go_wp2
  go_loopw [3, 8] (fun o i wr => ∃ k : Nat, k ≤ ns.length ∧ i = .int .i64 k ∧ wr.ownsRow w.heap.size 5 1 o (encs (ns.take k)).length (u8s (encs (ns.take k))) ∧ Below w.heap.size w wr) (fun _ i _ => ns.length - (intOf i).toNat)
  case atStart => exact ⟨0, by omega, rfl, World.ownsRow_nil _ _ _ _, Below.refl _ _⟩
  case round =>
    obtain ⟨k, hk, rfl, ho, hb⟩ := hrel
    have hsz := hb.size
    by_cases hlt : k < ns.length
    · obtain ⟨b, off, rfl, hbB, hc⟩ := HL.out.cell (k := k) (by simpa [u64s] using hlt)
      have hx := HN.out ns[k] (List.getElem_mem hlt)
      have hlen := encs_take_length HN.out k
      have HT := Lib.hid (encs_take hlt)
      have hc' : wr.cell? ⟨b, off + k, none⟩ = some (.int .u64 (ns[k] : Nat)) := by
        rw [hb.cell (p := ⟨b, off + k, none⟩) (by show b < w.heap.size; omega), hc]; simp [u64s]
      clear hc
      generalize ns[k] = x at *
      have HO := Lib.hid ho; clear ho
      go_wp2_with (go_at_call 101; go_must (refine (appendNum_any w.heap.size _ _ _ x wr hx (by omega) hsz HO.out).mono ?_); rintro e w' ⟨v', rfl, ho', hb'⟩)
      go_roundw
      case rel =>
        refine ⟨k + 1, by omega, by go_num, ?_, hb.trans hb'⟩
        rw [HT.out, List.length_append]
        exact ho'
      case measure => simp [intOf]; omega
    · obtain rfl : k = ns.length := by omega
      rw [List.take_length] at ho
      have HO := Lib.hid ho; clear ho
      have HBB := Lib.hid hb; clear hb
      go_wp2
      go_ret
      exact ⟨_, rfl, HO.out, HBB.out⟩


end Go.Proofs.Ytmcphlklknfbmaa
