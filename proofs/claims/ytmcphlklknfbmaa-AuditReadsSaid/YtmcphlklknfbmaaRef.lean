/- The walks of the reference's Put and Lump. -/
import Derived.Test.YtmcphlklknfbmaaPut
import Derived.Test.YtmcphlklknfbmaaBack
namespace Go.Proofs.Ytmcphlklknfbmaa
set_option maxRecDepth 100000
open Go.RowKit

theorem own_lit (w : World) (base : Nat) (v : Value) (hb : base ≤ w.heap.size) :
    (w.alloc (.cells #[v] 5)).ownsRow base 5 1 (.slice (some ⟨w.heap.size, 0, none⟩) 1 1) 1 [v] :=
  ⟨by simp, .inr ⟨w.heap.size, 1, #[v], rfl, hb, heap_alloc_new w _, Nat.le_refl _, by decide, rfl, rfl⟩⟩

theorem low7_val (x : Nat) (hx : x ≤ 18446744073709551615) : bits .and .u64 (x : Int) 127 % 256 = ((x % 128 : Nat) : Int) := by
  have h := u64_and_nat x 127 (by omega) (by omega)
  rw [nat_mask7] at h
  rw [show bits .and .u64 (x : Int) 127 = ((x % 128 : Nat) : Int) from h]
  omega

theorem or128_val (x : Nat) (hx : x ≤ 18446744073709551615) : bits .or .u8 (bits .and .u64 (x : Int) 127 % 256) 128 = ((128 + x % 128 : Nat) : Int) := by
  rw [low7_val x hx]
  have h := u8_or_nat (x % 128) 128 (by omega) (by omega)
  have e : x % 128 ||| 128 = 128 + x % 128 := by
    rw [Nat.or_comm]; exact nat_join 7 128 (x % 128) (by omega) (by omega)
  rw [e] at h; exact h

theorem shift_step {x j Y : Nat} (h : Y = x / 2 ^ (7 * (j + 1))) : Y / 128 = x / 2 ^ (7 * (j + 1 + 1)) := by
  rw [h, Nat.div_div_eq_div_mul, show 7 * (j + 1 + 1) = 7 * (j + 1) + 7 from by omega, Nat.pow_add]

theorem shift_bound {x j : Nat} (hx : x ≤ 18446744073709551615) (h : 0 < x / 2 ^ (7 * (j + 1))) : j ≤ 9 := by
  rcases Nat.lt_or_ge 9 j with hj | hj
  · have h3 : 2 ^ 64 ≤ 2 ^ (7 * (j + 1)) := Nat.pow_le_pow_right (by omega) (by omega)
    have := Nat.div_eq_of_lt (show x < 2 ^ (7 * (j + 1)) by omega)
    omega
  · exact hj

set_option maxRecDepth 100000 in
set_option maxHeartbeats 2000000 in
theorem refPut_any (B : Nat) (A : Option Addr) (c n : Nat) (ns : List Nat) (w : World) (hn : ns.length = n) (hm : n ≤ 1099511627776) (hns : IsNums ns) (hB : B ≤ w.heap.size) (hl : Lies w B A (u64s ns)) :
    Calls Try.prog 71 #[.slice A n c] w fun e w' =>
      ∃ v, e = .returned v ∧ w'.ownsRow w.heap.size 5 1 v (encs ns).length (u8s (encs ns)) ∧ Below w.heap.size w w' := by
  subst hn
  have HN := Lib.hid hns; clear hns
  have HL := Lib.hid hl; clear hl
  go_enter Try.func71, Try.ntmps71
  go_wp2
  go_loopw [3, 4] (fun o i wr => ∃ k : Nat, k ≤ ns.length ∧ i = .int .i64 k ∧ wr.ownsRow w.heap.size 5 1 o (encs (ns.take k)).length (u8s (encs (ns.take k))) ∧ Below w.heap.size w wr) (fun _ i _ => ns.length - (intOf i).toNat)
  case atStart => exact ⟨0, by omega, rfl, World.ownsRow_nil _ _ _ _, Below.refl _ _⟩
  case round =>
    obtain ⟨k, hk, rfl, ho, hb⟩ := hrel
    have hsz := hb.size
    by_cases hlt : k < ns.length
    · obtain ⟨b, off, rfl, hbB, hc⟩ := HL.out.cell (k := k) (by simpa [u64s] using hlt)
      have hx := HN.out ns[k] (List.getElem_mem hlt)
      have hlen := encs_take_length HN.out k
      have HT := Lib.hid (encs_take hlt)
      have hc' : wr.cell? ⟨b, off + k, none⟩ = some (.int .u64 (ns[k] : Nat)) := by
        rw [hb.cell (p := ⟨b, off + k, none⟩) (by show b < w.heap.size; omega), hc]; simp [u64s]
      have hbw : b < wr.heap.size := by omega
      clear hc
      generalize ns[k] = x at *
      have HO := Lib.hid ho; clear ho
      have HX := Lib.hid hx
      have HBE := Lib.hid hb; clear hb
      go_wp2_with fail
      obtain ⟨wo, hwo⟩ : ∃ wo : World, wo = wr.alloc (.cells #[Value.int IntKind.u8 (bits BinOp.and IntKind.u64 (↑x) 127 % 256)] 5) := ⟨_, rfl⟩
      have hbo : wo.ownsRow w.heap.size 5 1 (.slice (some ⟨wr.heap.size, 0, none⟩) 1 1) 1 (u8s (encAt x 0)) := by
        rw [hwo, low7_val x HX.out]; exact own_lit wr w.heap.size _ hsz
      have hoo : wo.ownsRow w.heap.size 5 1 u3 (encs (ns.take k)).length (u8s (encs (ns.take k))) := by
        rw [hwo]; exact HO.out.alloc _
      have hbe : Below w.heap.size w wo := by rw [hwo]; exact HBE.out.alloc hsz _
      have hcw : wo.cell? ⟨b, off + k, none⟩ = some (.int .u64 x) := by rw [hwo, World.cell?_alloc_past _ _ _ hbw]; exact hc'
      rw [← hwo]
      have h1 := Lib.hid hbo; clear hbo
      have h2 := Lib.hid hoo; clear hoo
      have h3 := Lib.hid hbe; clear hbe
      clear hwo hc' hcw
      go_loopw [5, 6] (fun bv y wi => ∃ j Y : Nat, y = .int .u64 Y ∧ Y = x / 2 ^ (7 * (j + 1)) ∧ (j = 0 ∨ x / 2 ^ (7 * j) ≠ 0) ∧ j ≤ 10 ∧ wi.ownsRow w.heap.size 5 1 bv (j + 1) (u8s (encAt x j)) ∧
        wi.ownsRow w.heap.size 5 1 u3 (encs (ns.take k)).length (u8s (encs (ns.take k))) ∧ Below w.heap.size w wi) (fun _ y _ => (intOf y).toNat)
      case atStart => exact ⟨0, x / 128, rfl, rfl, .inl rfl, by omega, h1.out, h2.out, h3.out⟩
      case round =>
        obtain ⟨j, Y, rfl, hY, hj, hj9, hob, hoo, hbi⟩ := hrel
        have hszi := hbi.size
        have HY := Lib.hid hY; clear hY
        have HJ := Lib.hid hj; clear hj
        have HOO := Lib.hid hoo; clear hoo
        have HBI := Lib.hid hbi; clear hbi
        obtain ⟨A5, c5, rfl, hc51, hc52, _, hl5, _⟩ := Lies.of_own hob
        by_cases hpos : 0 < Y
        · have hb9 := shift_bound (x := x) (j := j) HX.out (by rw [← HY.out]; exact hpos)
          have hYl : Y ≤ 18446744073709551615 := by have := HX.out; have := HY.out; have h7 := div_small x j HX.out; omega
          have HOB := Lib.hid hob; clear hob
          have HL5 := Lib.hid hl5; clear hl5
          go_wp2_with (at_builtin; go_must (refine wpList_append_lies rfl _ _ rfl wr.heap.size _ _ _ rfl (own_lit wr wr.heap.size (Value.int IntKind.u8 (bits BinOp.or IntKind.u8 (bits BinOp.and IntKind.u64 (↑Y) 127 % 256) 128)) (Nat.le_refl _)) wr.heap.size A5 (j + 1) c5 (encAt x j) rfl (encAt_length x j) (HL5.out.below (below_alloc wr _)) ?c1 ?c2 ?_))
          case c1 => omega
          case c2 => simp
          intro v' w1 hown1 hb1
          rw [or128_val Y hYl] at hown1
          have hb2 : Below wr.heap.size wr w1 := (below_alloc wr _).trans hb1
          have hov : w1.ownsRow w.heap.size 5 1 v' (j + 1 + 1) (u8s (encAt x (j + 1))) := by
            have h := own_base (base' := w.heap.size) hown1 hszi
            rw [HY.out] at h
            simpa [encAt, u8s, Nat.add_comm] using h
          have HOV := Lib.hid hov; clear hov hown1
          have HO2 := Lib.hid (own_below HOO.out hb2)
          have HB2 := Lib.hid (HBI.out.trans (hb2.mono hszi))
          clear hb1 hb2
          go_wp2_with fail
          go_roundw
          case rel => exact ⟨j + 1, Y / 128, by go_num, shift_step HY.out, .inr (by rw [← HY.out]; omega), by omega, HOV.out, HO2.out, HB2.out⟩
          case measure => simp [intOf]; omega
        · obtain rfl : Y = 0 := by omega
          have ht := topk_of x j HX.out HY.out.symm HJ.out
          have HE := Lib.hid (show enc x = encAt x j from by rw [enc, ht]); clear ht
          have HL5 := Lib.hid hl5; clear hl5 hob
          go_wp2_with (at_builtin; go_must (refine wpList_append_lies rfl _ _ rfl w.heap.size _ _ _ rfl HOO.out wr.heap.size A5 (j + 1) c5 (encAt x j) rfl (encAt_length x j) HL5.out ?c1 ?c2 ?_))
          case c1 => omega
          case c2 => omega
          intro v' w1 hown1 hb1
          have hov : w1.ownsRow w.heap.size 5 1 v' (encs (ns.take (k + 1))).length (u8s (encs (ns.take (k + 1)))) := by
            rw [HT.out, HE.out, List.length_append, encAt_length]
            simpa [u8s] using hown1
          have HOV := Lib.hid hov; clear hov hown1
          have HB2 := Lib.hid (HBI.out.trans hb1); clear hb1
          go_wp2_with fail
          go_roundw
          case rel => exact ⟨k + 1, by omega, by go_num, HOV.out, HB2.out⟩
          case measure => simp [intOf]; omega
    · obtain rfl : k = ns.length := by omega
      rw [List.take_length] at ho
      have HO := Lib.hid ho; clear ho
      have HBB := Lib.hid hb; clear hb
      go_wp2
      go_ret
      exact ⟨_, rfl, HO.out, HBB.out⟩


end Go.Proofs.Ytmcphlklknfbmaa
