/- InstrReads returns true for every bytes, text and numbers, and changes nothing: which instruction any bytes begin with, and which one any text is, is the reference's answer. No condition but what the packages' own texts lay. -/
import Derived.Test.YtmcniddpjpbghaaDoorLaw6
import Derived.Test.YtmcniddpjpbghaaDoorLaid6
import Derived.Test.YtmcniddpjpbghaaDoorArg6
import Derived.Test.YtmcniddpjpbghaaDoorRefParse
import Derived.Test.YtmcniddpjpbghaaDoorByt
import Derived.Test.YtmcniddpjpbghaaDoorTie
import Derived.Test.YtmcniddpjpbghaaDoorCards
import Derived.SevenTiedAt
import Derived.Deep.CutRange
import Derived.Deep.DeepCutAuto
import Derived.BigQuiet
namespace Go.Proofs.YtmcniddpjpbghaaDoor.instrReads
set_option maxRecDepth 100000
open Go.RowKit Go.ChangeShapes Go.WideShapes Go.ChangeAt

section
variable {H : Type} {enc : TypeId × Value → H} {W : World}
theorem open_bytes_cap {base : Nat} {v : Value} {d : DataW H} {ps : List MemPlace} (hv : Value.okWide Tryd.prog W .any base 24 v) (h : DataW.Trod enc Tryd.prog W 0 (fun _ => true) true 24 v d ps) :
    ∃ A l c, v = .slice A l.length c ∧ l.length ≤ c ∧ c ≤ maxLen ∧ IsBytes l ∧ Lies W W.heap.size A (u8s l) := by
  obtain ⟨a0, len, cap, rfl⟩ := okWide_slice Tryd.underlying24 hv
  obtain ⟨A, l, c, hv2, _, hb, hl⟩ := open_bytes hv h
  injection hv2 with h1 h2 h3
  subst h1 h2 h3
  obtain ⟨fuel, hf⟩ := h
  rcases open_ints Tryd.underlying24 Tryd.underlying5 (by kernel_rfl) hf with ⟨hcs, _⟩ | ⟨a, len', cap', zs, hcs, _, hle, hm, _⟩
  · simp [Value.cells] at hcs
    obtain ⟨rfl, e2, rfl⟩ := hcs
    exact ⟨none, l, 0, rfl, by (first | omega | (rw [e2]; exact Nat.le_refl 0)), Nat.zero_le _, hb, hl⟩
  · simp [Value.cells] at hcs
    obtain ⟨rfl, e2, rfl⟩ := hcs
    exact ⟨_, l, _, rfl, by omega, hm, hb, hl⟩
end

theorem textL_pos {n : Nat} {arg : Int} (h : rightB n arg = true) : 0 < (textL n arg).length := by
  have hk := (knownB_iff n).1 (rightB_known h)
  obtain ⟨_, h2⟩ := nm_space n (by omega) (by omega)
  have h3 : 0 < (nm n).data.toList.length := List.length_pos_iff.2 h2
  by_cases hz : argZ n = 0
  · rw [textL_one h hz]; exact h3
  · rw [textL_two h hz, List.length_append]; omega

/-- What stays all the way. -/
structure KS (w0 : World) (Ar : Option Addr) (raw : List Int) (Ab : Option Addr) (L : List Int) (gd : Nat) (D : List Int) (w : World) : Prop where
  v : VarsIn w
  r : Lies w w.heap.size Ar (u8s raw)
  l : Lies w w.heap.size Ab (u8s L)
  d : Lies w w.heap.size (some ⟨gd, 0, none⟩) (u8s D)
  b : Below w0.heap.size w0 w
section
variable {w0 w w' : World} {Ar Ab : Option Addr} {raw L D : List Int} {gd : Nat}
theorem KS.step (h : KS w0 Ar raw Ab L gd D w) (hb : Below w.heap.size w w') : KS w0 Ar raw Ab L gd D w' :=
  ⟨h.v.below hb, (h.r.below hb).more hb.size, (h.l.below hb).more hb.size, (h.d.below hb).more hb.size, nextB h.b hb⟩
end

/-- Block b of w holds six texts. -/
def Strs (w : World) (b : Nat) (e : Nat → ByteArray) : Prop := b < w.heap.size ∧ ∀ j, j < 6 → w.cell? ⟨b, j, none⟩ = some (.string (e j))
theorem Strs.below {w w' : World} {b : Nat} {e : Nat → ByteArray} (h : Strs w b e) (hb : Below w.heap.size w w') : Strs w' b e :=
  ⟨Nat.lt_of_lt_of_le h.1 hb.size, fun j hj => (hb.cell (p := ⟨b, j, none⟩) h.1).trans (h.2 j hj)⟩
def StrsV (e : Nat → ByteArray) (v : Value) (w : World) : Prop := ∃ b, v = .slice (some ⟨b, 0, none⟩) 6 6 ∧ Strs w b e
theorem StrsV.below {w w' : World} {e : Nat → ByteArray} {v : Value} (h : StrsV e v w) (hb : Below w.heap.size w w') : StrsV e v w' := by
  obtain ⟨b, h1, h2⟩ := h; exact ⟨b, h1, h2.below hb⟩
theorem known_strs {val : Nat → Value} {e : Nat → ByteArray} {i : Nat} {sp : List Nat} {v : Value} {w w' : World} (h : Reg.Known val (fun _ => StrsV e) sp i v w) (hb : Below w.heap.size w w') : Reg.Known val (fun _ => StrsV e) sp i v w' :=
  ⟨h.plain, fun x => (h.other x).below hb⟩
/-- The six texts. -/
def el (s t u p q r : ByteArray) (j : Nat) : ByteArray := if j = 0 then s else if j = 1 then t else if j = 2 then u else if j = 3 then p else if j = 4 then q else r

/-- Four slices of bytes in a block. -/
structure BR where
  A : Option Addr
  l : List Int
  c : Nat
def BR.Ok (r : BR) (w : World) : Prop := r.l.length ≤ 60 ∧ r.l.length ≤ r.c ∧ r.c ≤ maxLen ∧ IsBytes r.l ∧ Lies w w.heap.size r.A (u8s r.l)
def Sls (w : World) (b : Nat) (e : Nat → BR) : Prop := b < w.heap.size ∧ ∀ j, j < 4 → w.cell? ⟨b, j, none⟩ = some (.slice (e j).A (e j).l.length (e j).c) ∧ (e j).Ok w
theorem BR.Ok.below {w w' : World} {r : BR} (h : r.Ok w) (hb : Below w.heap.size w w') : r.Ok w' := ⟨h.1, h.2.1, h.2.2.1, h.2.2.2.1, (h.2.2.2.2.below hb).more hb.size⟩
theorem Sls.below {w w' : World} {b : Nat} {e : Nat → BR} (h : Sls w b e) (hb : Below w.heap.size w w') : Sls w' b e :=
  ⟨Nat.lt_of_lt_of_le h.1 hb.size, fun j hj => ⟨(hb.cell (p := ⟨b, j, none⟩) h.1).trans (h.2 j hj).1, (h.2 j hj).2.below hb⟩⟩
def rows (p q r s : BR) (j : Nat) : BR := if j = 0 then p else if j = 1 then q else if j = 2 then r else s

/-- What stays while the texts are laid. -/
structure StS (w0 : World) (Ar : Option Addr) (raw : List Int) (Ab : Option Addr) (L : List Int) (gd : Nat) (D : List Int) (bi : Nat) (op arg : Int) (bt : Nat) (l : List UInt8) (_k : Nat) (w : World) : Prop where
  k : KS w0 Ar raw Ab L gd D w
  i : IB w bi op arg
  t : Bytes w bt l
theorem StS.step {w0 w w' : World} {Ar Ab : Option Addr} {raw L D : List Int} {gd bi bt k : Nat} {op arg : Int} {l : List UInt8} (h : StS w0 Ar raw Ab L gd D bi op arg bt l k w) (hb : Below w.heap.size w w') : StS w0 Ar raw Ab L gd D bi op arg bt l k w' :=
  ⟨h.k.step hb, h.i.below hb, h.t.below hb⟩

theorem LB8 (l : List Int) (m : Nat) (h : m < l.length) (hb : IsBytes l) : 0 ≤ l[m] ∧ l[m] ≤ 255 := hb _ (List.getElem_mem h)

def ir11Val (s : ByteArray) (bt n cap : Nat) (op arg : Int) (T T2 TE P1 P2 : ByteArray) : Nat → Value
  | 0 => .string s
  | 1 => .slice (some ⟨bt, 0, none⟩) n cap
  | 2 => .string T2
  | 3 => .agg #[.int .i64 op, .int .i32 arg]
  | 4 => .string T
  | 5 => .string TE
  | 6 => .string s
  | 7 => .string P1
  | 8 => .string s
  | 9 => .string P2
  | 11 => .int .i64 6
  | 12 => .int .i64 0
  | _ => undef


set_option maxRecDepth 100000 in
set_option maxHeartbeats 2000000 in
theorem walk (Ar : Option Addr) (raw : List Int) (cr : Nat) (s : ByteArray) (k a c at' : Nat) (w : World) (hrc : raw.length ≤ cr) (hrm : cr ≤ maxLen) (hrb : IsBytes raw) (hr : Lies w w.heap.size Ar (u8s raw))
    (hk : k ≤ 255) (ha : a ≤ 255) (hc : c ≤ 255) (hat : at' ≤ 255) (hV : VarsIn w) :
    Calls Tryd.prog 4 #[.slice Ar raw.length cr, .string s, .int .u8 k, .int .u8 a, .int .u8 c, .int .u8 at'] w fun e w' => e = .returned (.bool true) ∧ Below w.heap.size w w' := by
  have hsr := seat_range k a
  have hri := seat_right k a
  have HS := Lib.hid (seatInstr_any k a)
  obtain ⟨so, hso⟩ : ∃ n, seatOp k = n := ⟨_, rfl⟩
  obtain ⟨sa, hsa⟩ : ∃ n, seatArg k a = n := ⟨_, rfl⟩
  rw [hso, hsa] at HS hri
  rw [hsa] at hsr
  have hL0 := codeL_pos hri
  have hL20 := codeL_length so sa
  have hLb := codeL_bytes so sa
  have hTl := textL_length so sa hsr
  have hT0 := textL_pos hri
  have HR := Lib.hid (fun w => refText_any so sa w hsr)
  have HP := Lib.hid (fun w => refPutI_any so sa w hsr)
  obtain ⟨tl, htl⟩ : ∃ l, textL so sa = l := ⟨_, rfl⟩
  obtain ⟨L, hL⟩ : ∃ l, codeL so sa = l := ⟨_, rfl⟩
  rw [hL] at hL0 hL20 hLb HP
  rw [htl] at hTl hT0 HR
  obtain ⟨T, hT⟩ : ∃ T : ByteArray, ⟨tl.toArray⟩ = T := ⟨_, rfl⟩
  have hTs : T.size = tl.length := by rw [← hT]; exact bytes_size tl
  have hTd : T.data.toList = tl := by rw [← hT]
  rw [hT] at HR
  rw [← hTs] at hTl hT0
  have HTS := Lib.hid hTs
  have HRB := Lib.hid hrb; have HLB := Lib.hid hLb
  clear hso hsa hri hsr hL htl hT hrb hLb hTs
  unfold insV at HS HR HP
  go_enter Tryd.func4, Tryd.ntmps4
  go_wp2_with fail
  refine (known6_any w hV).mono ?_
  rintro e w2 ⟨rfl, hb⟩
  have V2 := Lib.hid (hV.below hb); have R2 := Lib.hid ((hr.below hb).more hb.size); have C2 := Lib.hid hb
  clear hb hr hV
  by_cases h40 : raw.length ≤ 40
  · by_cases s40 : s.size ≤ 40
    · go_wp2_with fail
      refine (HS.out w2 hk ha).mono ?_
      rintro e w3 ⟨rfl, hb⟩
      obtain ⟨w4, b4, hw4, hb4, I4, B4⟩ := new_ib w3 so sa
      have hb := nextB hb B4
      have J4 := Lib.hid I4; have V4 := Lib.hid (V2.out.below hb); have R4 := Lib.hid ((R2.out.below hb).more hb.size); have C4 := Lib.hid (nextB C2.out hb)
      have a0 := I4.c0; have a1 := I4.c1
      clear hb B4 I4 V2 R2 C2
      go_wp2_with fail
      refine (HR.out w4).mono ?_
      rintro e w5 ⟨rfl, hb⟩
      clear hw4 hb4 a0 a1
      have J5 := Lib.hid (J4.out.below hb); have V5 := Lib.hid (V4.out.below hb); have R5 := Lib.hid ((R4.out.below hb).more hb.size); have C5 := Lib.hid (nextB C4.out hb)
      clear hb J4 V4 R4 C4
      have cv := run_bytes_of_string (P := Tryd.prog) w5 9 24 5 T Tryd.underlying9 Tryd.underlying24 Tryd.underlying5
      obtain ⟨cap, hcap⟩ : ∃ cap, grownCap w5 T.size 0 5 = cap := ⟨_, rfl⟩
      obtain ⟨w6, hw6⟩ : ∃ w6, w5.drew.alloc (.cells (bytesRow T cap) 5 ((bytesRow T cap).size, (bytesRow T cap).size + 1)) = w6 := ⟨_, rfl⟩
      obtain ⟨m, hm⟩ : ∃ m, at' % T.size = m := ⟨_, rfl⟩
      have hm2 : m < T.size := by rw [← hm]; exact Nat.mod_lt _ (by omega)
      have hy6 : Bytes w6 w5.heap.size tl := by rw [← hw6, ← hTd]; exact bytes_new w5.drew T cap _ _
      obtain ⟨u, hcell⟩ : ∃ u, w6.cell? ⟨w5.heap.size, m, none⟩ = some u := ⟨_, hy6.2 m (by have := HTS.out; omega)⟩
      have hfr : w6.frozen? ⟨w5.heap.size, m, none⟩ = false := by
        rw [← hw6]
        refine (World.frozen?_alloc_mark w5.drew _ _ _ _ _).trans ?_
        have hbs : (bytesRow T cap).size = T.size + (cap - T.size) := by unfold bytesRow; rw [Array.size_append, Array.size_map, Array.size_replicate]; rfl
        have : ¬ (bytesRow T cap).size ≤ m := by omega
        simp [this]
      have hb6 : Below w5.heap.size w5 w6 := by rw [← hw6]; exact (Below.refl _ _).drew.alloc (Nat.le_refl _) _
      obtain ⟨w7, hw7⟩ : ∃ w7, w6.setCell ⟨w5.heap.size, m, none⟩ (.int .u8 c) = w7 := ⟨_, rfl⟩
      have hb7 : Below w5.heap.size w5 w7 := by rw [← hw7]; exact hb6.setCell (p := ⟨w5.heap.size, m, none⟩) (Nat.le_refl _) _
      have hy7 := hy6.set (m := m) (by have := HTS.out; omega) c hc
      obtain ⟨l, hl⟩ : ∃ l, tl.set m (UInt8.ofNat c) = l := ⟨_, rfl⟩
      have hll : l.length = T.size := by rw [← hl, List.length_set]; have := HTS.out; omega
      rw [hw7, hl] at hy7
      rw [hcap, hw6] at cv
      have l0 : ¬ ((T.size : Int) = 0) := by omega
      have d0 : ((T.size : Int) == 0) = false := by rw [beq_eq_false_iff_ne]; exact l0
      have hl1 : (0 : Int) < T.size := by omega
      have J7 := Lib.hid (J5.out.below hb7); have V7 := Lib.hid (V5.out.below hb7); have R7 := Lib.hid ((R5.out.below hb7).more hb7.size); have C7 := Lib.hid (nextB C5.out hb7); have Y7 := Lib.hid hy7
      obtain ⟨bt, hbt⟩ : ∃ b, w5.heap.size = b := ⟨_, rfl⟩
      rw [hbt] at cv hcell hfr hw7 Y7
      have a0 := J7.out.c0; have a1 := J7.out.c1
      clear hy6 hy7 hb6 hb7 hcap hw6 hl J5 V5 R5 C5 hTd
      go_wp2_with fail
      refine (HP.out w7).mono ?_
      rintro e w8 ⟨v8, rfl, ho8, hb⟩
      obtain ⟨gb, cb, rfl, _, _⟩ := own_block ho8 hL0
      obtain ⟨A', c', he, hcb, hcm, _, hl8, _⟩ := Lies.of_own ho8
      injection he with he1 he2 he3
      subst he1 he3
      clear he2
      clear cv hcell hfr hw7 hm hm2 hbt a0 a1 d0 hl1 l0 ho8
      have J8 := Lib.hid (J7.out.below hb); have V8 := Lib.hid (V7.out.below hb); have R8 := Lib.hid ((R7.out.below hb).more hb.size); have C8 := Lib.hid (nextB C7.out hb); have Y8 := Lib.hid (Y7.out.below hb); have L8 := Lib.hid hl8
      clear hb hl8 J7 V7 R7 C7 Y7
      go_wp2_with (at_builtin; go_must (refine wpList_append_lies rfl _ _ rfl w8.heap.size _ _ _ rfl (World.ownsRow_nil _ _ _ _) w8.heap.size (some ⟨gb, 0, none⟩) L.length cb L rfl rfl L8.out ?c1 ?c2 ?_))
      case c1 => omega
      case c2 => omega
      intro v9 w9 ho9 hb9
      have ho9' : w9.ownsRow w8.heap.size 5 1 v9 L.length (u8s L) := by simpa [u8s] using ho9
      obtain ⟨gd, cd, rfl, hg8, hg9⟩ := own_block ho9' hL0
      obtain ⟨m, hm⟩ : ∃ m, at' % L.length = m := ⟨_, rfl⟩
      have hm2 : m < L.length := by rw [← hm]; exact Nat.mod_lt _ hL0
      have hcell := own_byte ho9' hm2
      have hfr := ho9'.frozenAt m
      have hx := LB8 L m hm2 HLB.out
      obtain ⟨x, hxe⟩ : ∃ x, L[m] = x := ⟨_, rfl⟩
      rw [hxe] at hcell hx
      have hz := xor_byte hx hc
      obtain ⟨z, hze⟩ : ∃ z, bits .xor .u8 x c = z := ⟨_, rfl⟩
      rw [hze] at hz
      have ho10 := own_byte_set (m := m) (z := z) ho9'
      have hst := (ho9'.stored m (.int .u8 z)).2
      obtain ⟨w10, hw10⟩ : ∃ w10, w9.setCell ⟨gd, m, none⟩ (.int .u8 z) = w10 := ⟨_, rfl⟩
      obtain ⟨D, hD⟩ : ∃ D, L.set m z = D := ⟨_, rfl⟩
      have hDl : D.length = L.length := by rw [← hD, List.length_set]
      have HDB : Hid (IsBytes D) := Lib.hid (by rw [← hD]; exact HLB.out.set m hz)
      rw [hw10] at ho10 hst
      rw [hD] at ho10
      have hb10 : Below w8.heap.size w8 w10 := hb9.trans (below_of_grown hst hg8 hb9.size)
      obtain ⟨A', c', he, hcd, hcm2, _, hl10, _⟩ := Lies.of_own ho10
      injection he with he1 he2 he3
      subst he1 he3
      rw [hDl] at hcd
      have HDL := Lib.hid hDl
      clear he2 hDl
      have l0 : ¬ ((L.length : Int) = 0) := by omega
      have d0 : ((L.length : Int) == 0) = false := by rw [beq_eq_false_iff_ne]; exact l0
      have hl1 : (0 : Int) < L.length := by omega
      have I10 := J8.out.below hb10
      have HST : Hid (StS w Ar raw (some ⟨gb, 0, none⟩) L gd D b4 so sa bt l 0 w10) := Lib.hid ⟨⟨V8.out.below hb10, (R8.out.below hb10).more hb10.size, (L8.out.below hb10).more hb10.size, hl10, nextB C8.out hb10⟩, I10, Y8.out.below hb10⟩
      clear ho9 ho9' ho10 hst hb9 hb10 hl10 I10 hx hz hxe hg9 hD J8 V8 R8 C8 Y8 L8
      obtain ⟨T2, hT2⟩ : ∃ T2 : ByteArray, ⟨l.toArray⟩ = T2 := ⟨_, rfl⟩
      obtain ⟨TE, hTE⟩ : ∃ TE : ByteArray, T ++ ⟨#[32]⟩ = TE := ⟨_, rfl⟩
      obtain ⟨P1, hP1⟩ : ∃ P1 : ByteArray, (⟨#[112, 117, 115, 104, 32]⟩ : ByteArray) ++ s = P1 := ⟨_, rfl⟩
      obtain ⟨P2, hP2⟩ : ∃ P2 : ByteArray, (⟨#[112, 117, 115, 104, 32, 48]⟩ : ByteArray) ++ s = P2 := ⟨_, rfl⟩
      have z2 : T2.size = T.size := by rw [← hT2, bytes_size]; exact hll
      have zE : TE.size = T.size + 1 := by rw [← hTE, ByteArray.size_append]; rfl
      have z3 : P1.size = 5 + s.size := by rw [← hP1, ByteArray.size_append]; rfl
      have z4 : P2.size = 6 + s.size := by rw [← hP2, ByteArray.size_append]; rfl
      obtain ⟨e, he⟩ : ∃ e, el s T2 TE P1 P2 ⟨#[112, 117, 115, 104, 32, 45, 48]⟩ = e := ⟨_, rfl⟩
      have HES : Hid (∀ j, (e j).size ≤ 100) := Lib.hid fun j => by
        rw [← he]; unfold el
        repeat' split
        all_goals first | omega | (show 7 ≤ 100; omega)
      have HEL : Hid (∀ w1 b, w1.heap[b]? = some (.cells #[.string s, .string T2, .string TE, .string P1, .string P2, .string ⟨#[112, 117, 115, 104, 32, 45, 48]⟩] 9 (0, 0)) → Strs w1 b e) := Lib.hid fun w1 b h => by
        refine ⟨(Array.getElem?_eq_some_iff.1 h).1, fun j hj => ?_⟩
        rw [cell_blk h, ← he]
        match j, hj with
        | 0, _ => rfl
        | 1, _ => rfl
        | 2, _ => rfl
        | 3, _ => rfl
        | 4, _ => rfl
        | 5, _ => rfl
      have HCV : Hid (∀ wr, Bytes wr bt l → (convert 24 9 (.slice (some ⟨bt, 0, none⟩) T.size cap)).run Tryd.prog wr = .ok (.string T2) wr) := Lib.hid fun wr h => by
        rw [← hll, ← hT2]; exact h.conv cap
      have HTE := Lib.hid hTE; have HP1 := Lib.hid hP1; have HP2 := Lib.hid hP2
      clear hT2 hTE hP1 hP2 he z2 zE z3 z4 hll
      go_upto_region 11 with (fail)
      clear hm hcell hfr hze hw10 l0 d0 hl1 w9
      refine Reg.wp_facts_sl [70, 71, 72, 73, 74, 75, 76, 77, 78, 79, 80, 81, 82] rfl [] [[], [], [(1, 71)], [], [(3, 73)], [(4, 74)], [], [(6, 76)], [], [(8, 78)], [(0, 70), (2, 72), (5, 75), (7, 77), (9, 79)], [(10, 80)], []] [(10, 80), (11, 81), (12, 82)] (Reg.Known (ir11Val s bt T.size cap so sa T T2 TE P1 P2) (fun _ => StrsV e) [10]) (StS w Ar raw (some ⟨gb, 0, none⟩) L gd D b4 so sa bt l) (by kernel_rfl) (by kernel_rfl) ?start ?steps ?finish
      case start => exact HST.out.step (Below.refl _ _).drew
      case steps =>
        refine Reg.Steps.zip ?_ ?_
        · refine Reg.step_go rfl ?_
          intro a wi ki hf hd hS hc K hK
          have f1 : a.tmps.getD 1 undef = .string s := hf.same 1 rfl
          clear hf hd hc
          have hK0 := Lib.hid hK; clear hK
          have hS0 := Lib.hid hS; clear hS
          go_simp
          exact hK0.out _ _ (Reg.Known.mk_val rfl rfl) (fun _ _ h => h) hS0.out
        refine Reg.Steps.zip ?_ ?_
        · refine Reg.step_go rfl ?_
          intro a wi ki hf hd hS hc K hK
          have f14 : a.tmps.getD 14 undef = .slice (some ⟨bt, 0, none⟩) T.size cap := hf.same 14 rfl
          clear hf hd hc
          have hK0 := Lib.hid hK; clear hK
          have hS0 := Lib.hid hS; clear hS
          go_simp
          exact hK0.out _ _ (Reg.Known.mk_val rfl rfl) (fun _ _ h => h) hS0.out
        refine Reg.Steps.zip ?_ ?_
        · refine Reg.step_go rfl ?_
          intro a wi ki hf hd hS hc K hK
          have e71 : a.tmps.getD 71 undef = .slice (some ⟨bt, 0, none⟩) T.size cap := hd.1.plain rfl
          clear hf hd hc
          have cv := HCV.out wi hS.t
          have hK0 := Lib.hid hK; clear hK
          have hS0 := Lib.hid hS; clear hS
          go_simp
          exact hK0.out _ _ (Reg.Known.mk_val rfl rfl) (fun _ _ h => h) hS0.out
        refine Reg.Steps.zip ?_ ?_
        · refine Reg.step_go rfl ?_
          intro a wi ki hf hd hS hc K hK
          have f13 : a.tmps.getD 13 undef = .pointer (some ⟨b4, 0, none⟩) := hf.same 13 rfl
          clear hf hd hc
          have cc0 := hS.i.c0
          have cc1 := hS.i.c1
          have hK0 := Lib.hid hK; clear hK
          have hS0 := Lib.hid hS; clear hS
          go_simp
          exact hK0.out _ _ (Reg.Known.mk_val rfl rfl) (fun _ _ h => h) hS0.out
        refine Reg.Steps.zip ?_ ?_
        · refine Reg.step_go rfl ?_
          intro a wi ki hf hd hS hc K hK
          have e73 : a.tmps.getD 73 undef = .agg #[.int .i64 so, .int .i32 sa] := hd.1.plain rfl
          clear hf hd
          have HS := Lib.hid hS; clear hS
          have hK0 := Lib.hid hK; clear hK hc
          go_simp
          refine (HR.out wi).mono ?_
          rintro e' wA ⟨rfl, hbA⟩
          exact hK0.out _ _ (Reg.Known.mk_val rfl rfl) (fun _ _ h => known_strs h hbA) (HS.out.step hbA)
        refine Reg.Steps.zip ?_ ?_
        · refine Reg.step_go rfl ?_
          intro a wi ki hf hd hS hc K hK
          have e74 : a.tmps.getD 74 undef = .string T := hd.1.plain rfl
          clear hf hd hc
          have hE := HTE.out
          have hz : ¬ (9223372036854775807 < T.size + 1) := by omega
          have hK0 := Lib.hid hK; clear hK
          have hS0 := Lib.hid hS; clear hS
          go_simp
          exact hK0.out _ _ (Reg.Known.mk_val rfl rfl) (fun _ _ h => h) hS0.out
        refine Reg.Steps.zip ?_ ?_
        · refine Reg.step_go rfl ?_
          intro a wi ki hf hd hS hc K hK
          have f1 : a.tmps.getD 1 undef = .string s := hf.same 1 rfl
          clear hf hd hc
          have hK0 := Lib.hid hK; clear hK
          have hS0 := Lib.hid hS; clear hS
          go_simp
          exact hK0.out _ _ (Reg.Known.mk_val rfl rfl) (fun _ _ h => h) hS0.out
        refine Reg.Steps.zip ?_ ?_
        · refine Reg.step_go rfl ?_
          intro a wi ki hf hd hS hc K hK
          have e76 : a.tmps.getD 76 undef = .string s := hd.1.plain rfl
          clear hf hd hc
          have hE := HP1.out
          have hz : ¬ (9223372036854775807 < 5 + s.size) := by omega
          have hK0 := Lib.hid hK; clear hK
          have hS0 := Lib.hid hS; clear hS
          go_simp
          exact hK0.out _ _ (Reg.Known.mk_val rfl rfl) (fun _ _ h => h) hS0.out
        refine Reg.Steps.zip ?_ ?_
        · refine Reg.step_go rfl ?_
          intro a wi ki hf hd hS hc K hK
          have f1 : a.tmps.getD 1 undef = .string s := hf.same 1 rfl
          clear hf hd hc
          have hK0 := Lib.hid hK; clear hK
          have hS0 := Lib.hid hS; clear hS
          go_simp
          exact hK0.out _ _ (Reg.Known.mk_val rfl rfl) (fun _ _ h => h) hS0.out
        refine Reg.Steps.zip ?_ ?_
        · refine Reg.step_go rfl ?_
          intro a wi ki hf hd hS hc K hK
          have e78 : a.tmps.getD 78 undef = .string s := hd.1.plain rfl
          clear hf hd hc
          have hE := HP2.out
          have hz : ¬ (9223372036854775807 < 6 + s.size) := by omega
          have hK0 := Lib.hid hK; clear hK
          have hS0 := Lib.hid hS; clear hS
          go_simp
          exact hK0.out _ _ (Reg.Known.mk_val rfl rfl) (fun _ _ h => h) hS0.out
        refine Reg.Steps.zip ?_ ?_
        · refine Reg.step_go rfl ?_
          intro a wi ki hf hd hS hc K hK
          have e70 : a.tmps.getD 70 undef = .string s := hd.1.plain rfl
          have e72 : a.tmps.getD 72 undef = .string T2 := hd.2.1.plain rfl
          have e75 : a.tmps.getD 75 undef = .string TE := hd.2.2.1.plain rfl
          have e77 : a.tmps.getD 77 undef = .string P1 := hd.2.2.2.1.plain rfl
          have e79 : a.tmps.getD 79 undef = .string P2 := hd.2.2.2.2.1.plain rfl
          clear hf hd
          have k70 : a.tmps[70]?.getD undef = .string s := by rw [← e70]; simp
          have k72 : a.tmps[72]?.getD undef = .string T2 := by rw [← e72]; simp
          have k75 : a.tmps[75]?.getD undef = .string TE := by rw [← e75]; simp
          have k77 : a.tmps[77]?.getD undef = .string P1 := by rw [← e77]; simp
          have k79 : a.tmps[79]?.getD undef = .string P2 := by rw [← e79]; simp
          have hbA := below_alloc wi (.cells #[.string s, .string T2, .string TE, .string P1, .string P2, .string ⟨#[112, 117, 115, 104, 32, 45, 48]⟩] 9)
          have hX := HEL.out _ _ (heap_alloc_new wi (.cells #[.string s, .string T2, .string TE, .string P1, .string P2, .string ⟨#[112, 117, 115, 104, 32, 45, 48]⟩] 9))
          have HX := Lib.hid hX; have HBA := Lib.hid hbA; clear hX hbA
          have HS := Lib.hid hS; clear hS
          have hK0 := Lib.hid hK; clear hK hc
          go_simp
          exact hK0.out _ _ (Reg.Known.mk_other rfl ⟨_, rfl, HX.out⟩) (fun _ _ h => known_strs h HBA.out) (HS.out.step HBA.out)
        refine Reg.Steps.zip ?_ ?_
        · refine Reg.step_go rfl ?_
          intro a wi ki hf hd hS hc K hK
          have x80 := hd.1.other rfl
          clear hf hd hc
          obtain ⟨b80, e80, _⟩ := x80
          have hK0 := Lib.hid hK; clear hK
          have hS0 := Lib.hid hS; clear hS
          go_simp
          exact hK0.out _ _ (Reg.Known.mk_val rfl rfl) (fun _ _ h => h) hS0.out
        refine Reg.Steps.zip ?_ ?_
        · refine Reg.step_go rfl ?_
          intro a wi ki hf hd hS hc K hK
          clear hf hd hc
          have hK0 := Lib.hid hK; clear hK
          have hS0 := Lib.hid hS; clear hS
          go_simp
          exact hK0.out _ _ (Reg.Known.mk_val rfl rfl) (fun _ _ h => h) hS0.out
        exact Reg.Steps.nil
      case finish =>
        intro a11 w11 hf hd hS11
        obtain ⟨u, hu⟩ : ∃ u : Nat → Value, u = fun s => a11.tmps.getD s undef := ⟨_, rfl⟩
        have x80 := hd.1.other rfl
        have e81 : u 81 = .int .i64 6 := by rw [hu]; exact hd.2.1.plain rfl
        have e82 : u 82 = .int .i64 0 := by rw [hu]; exact hd.2.2.1.plain rfl
        obtain ⟨bs, e80, hs11⟩ := x80
        have e80 : u 80 = .slice (some ⟨bs, 0, none⟩) 6 6 := by rw [hu]; exact e80
        rw [hf.eq, ← hu]
        have K11 := Lib.hid hS11.k; have E11 := Lib.hid hs11
        clear hf hu hd hS11 HST hs11 HTE HP1 HP2 HCV HEL
        simp (config := { maxSteps := 10000000 }) [Reg.filled, e80, e81, e82]
        clear e80 e81 e82
        go_wp2_with fail
        go_loopw [82] (fun i wr => ∃ j : Nat, j ≤ 6 ∧ i = .int .i64 j ∧ Strs wr bs e ∧ KS w Ar raw (some ⟨gb, 0, none⟩) L gd D wr) (fun i _ => 6 - (intOf i).toNat)
        case atStart => exact ⟨0, by omega, rfl, E11.out, K11.out⟩
        case round =>
          clear E11 K11
          obtain ⟨j, hj, rfl, hE, hK⟩ := hrel
          have HE := Lib.hid hE; have HK := Lib.hid hK
          clear hE hK
          by_cases hj6 : j < 6
          · have c0 := HE.out.2 j hj6
            have hbl := HE.out.1
            have hxs := HES.out j
            obtain ⟨x, hx⟩ : ∃ x, e j = x := ⟨_, rfl⟩
            rw [hx] at c0 hxs
            have PA := fun w hV => parse_any x w (by omega) hV
            have PB := fun w => refParse_any x w (by omega)
            obtain ⟨po, hpo⟩ : ∃ z : Int, (if parseOk x.data.toList then (pOp x.data.toList : Nat) else 0 : Int) = z := ⟨_, rfl⟩
            obtain ⟨px, hpx⟩ : ∃ z : Int, (if parseOk x.data.toList then pArg x.data.toList else 0) = z := ⟨_, rfl⟩
            obtain ⟨ok, hok⟩ : ∃ z, parseOk x.data.toList = z := ⟨_, rfl⟩
            simp only [hpo, hpx] at PA PB
            simp only [hok] at PA PB
            have HA := Lib.hid PA; have HB := Lib.hid PB
            clear PA PB hpo hpx hok hx
            unfold insV at HA HB
            go_wp2_with fail
            refine (HA.out wr HK.out.v).mono ?_
            rintro e' w12 ⟨rfl, hb⟩
            have E12 := Lib.hid (HE.out.below hb); have K12 := Lib.hid (HK.out.step hb)
            clear hb HE HK c0 hbl
            obtain ⟨w13, b13, hw13, hb13, I13, B13⟩ := new_ib w12 po px
            have E13 := Lib.hid (E12.out.below B13); have K13 := Lib.hid (K12.out.step B13); have I13' := Lib.hid I13
            clear B13 I13 E12 K12
            go_wp2_with fail
            refine (HB.out w13).mono ?_
            rintro e' w14 ⟨rfl, hb⟩
            have E14 := Lib.hid (E13.out.below hb); have K14 := Lib.hid (K13.out.step hb); have I14 := Lib.hid (I13'.out.below hb)
            clear hb hw13 E13 K13 I13'
            obtain ⟨w15, b15, hw15, hb15, I15, B15⟩ := new_ib w14 po px
            have E15 := Lib.hid (E14.out.below B15); have K15 := Lib.hid (K14.out.step B15)
            have i14 := I14.out.below B15
            have d0 := i14.c0; have d1 := i14.c1; have y0 := I15.c0; have y1 := I15.c1
            clear B15 I15 i14 E14 K14 I14
            have e1 : (ok != ok) = false := bne_self_eq_false _
            go_wp2_with fail
            go_roundw
            case rel => exact ⟨j + 1, by omega, by go_num, E15.out, K15.out⟩
            case measure => simp [intOf]; omega
          · obtain rfl : j = 6 := by omega
            rw [show ((6 : Nat) : Int) = 6 from rfl]
            clear HES HE
            obtain ⟨m, hm⟩ : ∃ m, at' % L.length = m := ⟨_, rfl⟩
            have hm2 : m < L.length := by rw [← hm]; exact Nat.mod_lt _ hL0
            have em : (at' : Int) % (L.length : Int) = (m : Int) := by omega
            have em2 : (m : Int) ≤ cb := by omega
            have em3 : m ≤ cb := by omega
            have l0 : ¬ ((L.length : Int) = 0) := by omega
            have d0 : ((L.length : Int) == 0) = false := by rw [beq_eq_false_iff_ne]; exact l0
            have cb0 : ¬ (cb = 0) := by omega
            obtain ⟨w12, hw12⟩ : ∃ w12, wr.alloc (.cells #[.slice Ar raw.length cr, .slice (some ⟨gb, 0, none⟩) L.length cb, .slice (some ⟨gd, 0, none⟩) L.length cd, .slice (some ⟨gb, 0, none⟩) m cb] 24) = w12 := ⟨_, rfl⟩
            obtain ⟨b12, hb12⟩ : ∃ b12, wr.heap.size = b12 := ⟨_, rfl⟩
            clear hm
            obtain ⟨R, hR⟩ : ∃ R, rows ⟨Ar, raw, cr⟩ ⟨some ⟨gb, 0, none⟩, L, cb⟩ ⟨some ⟨gd, 0, none⟩, D, cd⟩ ⟨some ⟨gb, 0, none⟩, L.take m, cb⟩ = R := ⟨_, rfl⟩
            have hb12' : Below wr.heap.size wr w12 := by rw [← hw12]; exact below_alloc wr _
            have K12 := Lib.hid (HK.out.step hb12')
            have hlt12 : b12 < w12.heap.size := by rw [← hw12, ← hb12]; exact (Array.getElem?_eq_some_iff.1 (heap_alloc_new wr _)).1
            have hDL := HDL.out
            have S12 : Hid (Sls w12 b12 R) := Lib.hid (by
              have hn := heap_alloc_new wr (.cells #[.slice Ar raw.length cr, .slice (some ⟨gb, 0, none⟩) L.length cb, .slice (some ⟨gd, 0, none⟩) L.length cd, .slice (some ⟨gb, 0, none⟩) m cb] 24)
              rw [hw12, hb12] at hn
              refine ⟨hlt12, fun j hj => ?_⟩
              rw [cell_blk hn, ← hR]
              match j, hj with
              | 0, _ => exact ⟨rfl, by show raw.length ≤ 60; omega, hrc, hrm, HRB.out, K12.out.r⟩
              | 1, _ => exact ⟨rfl, by show L.length ≤ 60; omega, hcb, hcm, HLB.out, K12.out.l⟩
              | 2, _ => exact ⟨by show _ = some (Value.slice _ D.length cd); rw [hDL]; rfl, by show D.length ≤ 60; omega, by show D.length ≤ cd; omega, hcm2, HDB.out, K12.out.d⟩
              | 3, _ => 
                have e3 : (L.take m).length = m := by rw [List.length_take]; omega
                refine ⟨?_, ?_, ?_, hcm, ?_, ?_⟩
                · show some (Value.slice (some ⟨gb, 0, none⟩) m cb) = some (Value.slice (some ⟨gb, 0, none⟩) (L.take m).length cb)
                  rw [e3]
                · show (L.take m).length ≤ 60
                  omega
                · show (L.take m).length ≤ cb
                  omega
                · exact fun u hu => HLB.out u (List.mem_of_mem_take hu)
                · have := K12.out.l.take m
                  have e4 : (u8s L).take m = u8s (L.take m) := by unfold u8s; rw [List.map_take]
                  rw [e4] at this
                  exact this)
            have HRL : Hid (∀ j, (R j).l.length ≤ 60) := Lib.hid fun j => by
              rw [← hR]; unfold rows
              have e3 : (L.take m).length ≤ m := by rw [List.length_take]; omega
              split
              · show raw.length ≤ 60; omega
              · split
                · show L.length ≤ 60; omega
                · split
                  · show D.length ≤ 60; omega
                  · show (L.take m).length ≤ 60; omega
            clear hDL hR hlt12 hb12'
            go_wp2_with fail
            clear em em2 em3 l0 d0 cb0 hw12 hb12
            go_loopw [117] (fun i wr => ∃ j : Nat, j ≤ 4 ∧ i = .int .i64 j ∧ Sls wr b12 R ∧ KS w Ar raw (some ⟨gb, 0, none⟩) L gd D wr) (fun i _ => 4 - (intOf i).toNat)
            case atStart => exact ⟨0, by omega, rfl, S12.out, K12.out⟩
            case round =>
              clear S12 K12 HK
              obtain ⟨j, hj, rfl, hE, hK⟩ := hrel
              have HE := Lib.hid hE; have HK := Lib.hid hK
              clear hE hK
              by_cases hj4 : j < 4
              · have c0 := (HE.out.2 j hj4).1
                have hbl := HE.out.1
                have hok := (HE.out.2 j hj4).2
                obtain ⟨r, hr⟩ : ∃ x, R j = x := ⟨_, rfl⟩
                rw [hr] at c0 hok
                obtain ⟨A, l1, c1⟩ := r
                obtain ⟨h60, hlc, hcM, hbyt, hlie⟩ := hok
                dsimp only at h60 hlc hcM hbyt hlie c0
                have HLI := Lib.hid hlie; have HBY := Lib.hid hbyt
                clear hr hbyt hlie
                obtain ⟨B, hB⟩ : ∃ B, wr.heap.size = B := ⟨_, rfl⟩
                go_wp2_with fail
                refine (new_any B A c1 l1 wr (by omega) (by omega) (by rw [← hB]; exact HLI.out) HBY.out).mono ?_
                rintro e' w13 ⟨g, rfl, hg, R13, hb⟩
                clear c0 hbl
                obtain ⟨w14, hw14⟩ : ∃ w14, w13.alloc (.cells #[.slice A l1.length c1, .int .i64 0] 42) = w14 := ⟨_, rfl⟩
                obtain ⟨g2, hg2⟩ : ∃ g2, w13.heap.size = g2 := ⟨_, rfl⟩
                have hb13 : Below w13.heap.size w13 w14 := by rw [← hw14]; exact below_alloc w13 _
                have hgl := R13.lt
                have hgg : g < g2 := by omega
                have hBg : B ≤ g := by omega
                have hb14 := nextB hb hb13
                rw [hB] at hb14
                have Q14 : Rd w14 B g2 42 (l1, 0) := by
                  refine ⟨by omega, ⟨A, c1, ?_, hlc, hcM, ?_⟩, HBY.out⟩
                  · rw [← hw14, ← hg2]; exact heap_alloc_new w13 _
                  · have := HLI.out; rw [hB] at this
                    exact this.below hb14
                have R14 := R13.below hb13
                have BW14 := Lib.hid hb14; have Q14' := Lib.hid Q14; have R14' := Lib.hid R14
                clear hb hb13 hb14 R13 R14 Q14 HLI HBY
                go_wp2_with fail
                have T1 := take_any g g (l1, 0) w14 R14'.out
                have T2 := fun w2 h => refTake_any B g2 (l1, 0) w2 h
                unfold RefTook at T2
                obtain ⟨po, hpo⟩ : ∃ z, tOp (l1, 0) = z := ⟨_, rfl⟩
                obtain ⟨px, hpx⟩ : ∃ z, tArg (l1, 0) = z := ⟨_, rfl⟩
                obtain ⟨ok, hok⟩ : ∃ z, takeOk (l1, 0) = z := ⟨_, rfl⟩
                obtain ⟨sr, hsr⟩ : ∃ z, tRest (l1, 0) = z := ⟨_, rfl⟩
                rw [hpo, hpx, hok, hsr] at T1
                rw [hpo, hpx, hok, hsr] at T2
                unfold insV at T1 T2
                refine T1.mono ?_
                rintro e' w15 ⟨rfl, R15, g15⟩
                have HT2 := Lib.hid T2
                have hs14 := BW14.out.size; rw [hB] at hs14
                have b15 := BW14.out.trans (below_of_grown g15 hBg hs14)
                have Q15 := Q14'.out.keep g15 (by intro e; injection e; omega) (fun k hk => by injection hk; omega)
                obtain ⟨w16, b16, hw16, hb16, I16, B16⟩ := new_ib w15 po px
                have hs15 := b15.size; rw [hB] at hs15
                have BW16 := Lib.hid (b15.trans (B16.mono hs15)); have Q16 := Lib.hid (Q15.below B16); have R16 := Lib.hid (R15.below B16); have I16' := Lib.hid I16
                have hb16g : g2 < b16 := by have := Q15.lt; omega
                clear T1 T2 hpo hpx hok hsr g15 R15 Q15 B16 b15 I16 BW14 Q14' R14' hw14 hg2 hgl hg
                go_wp2_with fail
                refine (HT2.out w16 Q16.out).mono ?_
                rintro e' w17 ⟨rfl, ⟨s2, Q17, hs2⟩, g17⟩
                have hs16 := BW16.out.size; rw [hB] at hs16
                have b17 := BW16.out.trans (below_of_grown g17 (by omega) hs16)
                have R17 := R16.out.keep g17 (by intro e; injection e; omega) (fun k hk => by injection hk; omega)
                have I17 : IB w17 b16 po px := (g17.block b16 I16'.out.lt (by intro e; injection e; omega)).trans I16'.out
                obtain ⟨w18, b18, hw18, hb18, I18, B18⟩ := new_ib w17 po px
                have hs17 := b17.size; rw [hB] at hs17
                have BW18 := Lib.hid (b17.trans (B18.mono hs17)); have Q18 := Lib.hid (Q17.below B18); have R18 := Lib.hid (R17.below B18)
                have i16 := I17.below B18
                have d0 := i16.c0; have d1 := i16.c1; have y0 := I18.c0; have y1 := I18.c1
                have HS2 := Lib.hid hs2
                clear HT2 hw16 hb16 g17 Q17 hs2 b17 R17 I17 B18 I18 i16 BW16 Q16 R16 I16'
                have e1 : (ok != ok) = false := bne_self_eq_false _
                have e3 : (po == po) = true := beq_self_eq_true _
                have e4 : (px == px) = true := beq_self_eq_true _
                have e5 : (po != po) = false := bne_self_eq_false _
                have e6 : (px != px) = false := bne_self_eq_false _
                have hB2 := BW18.out
                have HKF : Hid (KS w Ar raw (some ⟨gb, 0, none⟩) L gd D w18) := Lib.hid (HK.out.step (by rw [hB]; exact BW18.out))
                have HEF : Hid (Sls w18 b12 R) := Lib.hid (HE.out.below (by rw [hB]; exact BW18.out))
                clear hB2 HK HE
                cases ok with
                | false =>
                  go_wp2_with fail
                  go_quiet (fail)
                  go_wp2_with fail
                  go_roundw
                  case rel => exact ⟨j + 1, by omega, by go_num, HEF.out.below (below_drewN (Below.refl _ _) _), HKF.out.step (below_drewN (Below.refl _ _) _)⟩
                  case measure => simp [intOf]; omega
                | true =>
                  obtain rfl := HS2.out rfl
                  obtain ⟨A2, c2, hcel, _, _, _⟩ := Q18.out.blk
                  have q0 : w18.cell? ⟨g2, 0, none⟩ = some (.slice A2 s2.1.length c2) := cell_blk hcel 0
                  have LF : Hid (∀ k, Calls Tryd.prog 18 #[.pointer (some ⟨g, 0, none⟩)] (w18.drewN k) fun e w' => e = .returned (.int .i64 s2.1.length) ∧ w' = w18.drewN k) := Lib.hid fun k =>
                    (left_any g g s2 (w18.drewN k) (R18.out.below (below_drewN (Below.refl _ _) k))).mono fun _ _ h => ⟨h.1, h.2.symm⟩
                  have e2 : ((s2.1.length : Int) != s2.1.length) = false := bne_self_eq_false _
                  clear hcel
                  go_wp2_with fail
                  go_quiet (first | (go_at_call 18; refine Calls.quiet_of_same (LF.out _)) | fail)
                  go_wp2_with fail
                  go_roundw
                  case rel => exact ⟨j + 1, by omega, by go_num, HEF.out.below (below_drewN (Below.refl _ _) _), HKF.out.step (below_drewN (Below.refl _ _) _)⟩
                  case measure => simp [intOf]; omega
              · obtain rfl : j = 4 := by omega
                go_wp2_with fail
                go_ret
                exact ⟨rfl, HK.out.b⟩
    · go_wp2_with fail
      go_ret
      exact ⟨rfl, C2.out⟩
  · go_wp2_with fail
    go_ret
    exact ⟨rfl, C2.out⟩

/- The claim. -/

set_option maxRecDepth 100000 in
theorem lifted (os : Os) (started : os.Started) (H : Type) (enc : TypeId × Value → H) :
    ReturnsInHanded {} Tryd.checked os 4 .any (fun w args => (Rows.instrReadsSpec.pre enc Tryd.prog Tryd.f4 [] false w args ∧ laidMetH Tryd.prog laidL w) ∧ sizedMet enc Tryd.prog Tryd.f4 (OpenSpec.ofChange Rows.instrReadsSpec) false w args) (Rows.instrReadsSpec.post enc Tryd.prog Tryd.f4 false true false false) := by
  refine returnsInHanded_of_change_and (C := Tryd.checked) (X := fun w _ => laidMetH Tryd.prog laidL w) (fun _ _ _ hh h => h.of_heap hh) ownKnobs started (by kernel_rfl) Tryd.func4
    (ChangeSpec.witness_shaped (enc := enc) (C := Tryd.checked) (os := os) (X := fun w _ => laidMetH Tryd.prog laidL w) false (World.doorLaid Tryd.prog 77 os) #[.slice none 0 0, .string ⟨#[]⟩, .int .u8 0, .int .u8 0, .int .u8 0, .int .u8 0] 8 rfl (World.shaped_of_RefB (by kernel_rfl) (by kernel_rfl)) (by kernel_rfl) (by kernel_rfl) (by kernel_rfl) (door_met os _)) ?_
  intro W base args ds gs before hval hW _ _ hL _
  have hN := vars_of_laid hL
  refine law_contract rfl rfl (fun ds h => by match ds, h with | [d1, d2, d3, d4, d5, d6], _ => rfl) (by decide +kernel) hW ?_
  obtain ⟨p, q, hA0, _⟩ := hW
  have hA : DataW.TrodAll enc Tryd.prog W 0 (fun _ => true) true Tryd.f4.params.toList args.toList ds p := hA0
  have hval' : ∀ (j : Nat) t v, Tryd.f4.params[j]? = some t → args[j]? = some v → Value.okWide Tryd.prog W .any base t v := hval
  rw [Tryd.params4] at hA hval'
  obtain ⟨v0, vs0, d0, ds0, p0, q0, hargs, rfl, rfl, h0, r0⟩ := trodAll_cons hA
  obtain ⟨v1, vs1, d1, ds1, p1, q1, rfl, rfl, rfl, h1, r1⟩ := trodAll_cons r0
  obtain ⟨v2, vs2, d2, ds2, p2, q2, rfl, rfl, rfl, h2, r2⟩ := trodAll_cons r1
  obtain ⟨v3, vs3, d3, ds3, p3, q3, rfl, rfl, rfl, h3, r3⟩ := trodAll_cons r2
  obtain ⟨v4, vs4, d4, ds4, p4, q4, rfl, rfl, rfl, h4, r4⟩ := trodAll_cons r3
  obtain ⟨v5, vs5, d5, ds5, p5, q5, rfl, rfl, rfl, h5, r5⟩ := trodAll_cons r4
  obtain ⟨rfl, rfl, rfl⟩ := trodAll_nil r5
  obtain rfl : args = #[v0, v1, v2, v3, v4, v5] := by cases args; simp_all
  obtain ⟨A0, l0, c0, rfl, m0, n0, y0, h0⟩ := open_bytes_cap (hval' 0 _ v0 rfl rfl) h0
  obtain ⟨a1, rfl, rfl, rfl, w1⟩ := Go.ChangeMaps.open_string Tryd.underlying9 (hval' 1 _ v1 rfl rfl) h1
  obtain ⟨z2, rfl, rfl, rfl, w2⟩ := open_int Tryd.underlying5 (hval' 2 _ v2 rfl rfl) h2
  have b2 : 0 ≤ z2 ∧ z2 ≤ 255 := by simpa [Lit.wf, IntKind.min, IntKind.max, IntKind.signed, IntKind.bits] using w2
  obtain ⟨a2, rfl⟩ : ∃ n : Nat, z2 = n := ⟨z2.toNat, by omega⟩
  obtain ⟨z3, rfl, rfl, rfl, w3⟩ := open_int Tryd.underlying5 (hval' 3 _ v3 rfl rfl) h3
  have b3 : 0 ≤ z3 ∧ z3 ≤ 255 := by simpa [Lit.wf, IntKind.min, IntKind.max, IntKind.signed, IntKind.bits] using w3
  obtain ⟨a3, rfl⟩ : ∃ n : Nat, z3 = n := ⟨z3.toNat, by omega⟩
  obtain ⟨z4, rfl, rfl, rfl, w4⟩ := open_int Tryd.underlying5 (hval' 4 _ v4 rfl rfl) h4
  have b4 : 0 ≤ z4 ∧ z4 ≤ 255 := by simpa [Lit.wf, IntKind.min, IntKind.max, IntKind.signed, IntKind.bits] using w4
  obtain ⟨a4, rfl⟩ : ∃ n : Nat, z4 = n := ⟨z4.toNat, by omega⟩
  obtain ⟨z5, rfl, rfl, rfl, w5⟩ := open_int Tryd.underlying5 (hval' 5 _ v5 rfl rfl) h5
  have b5 : 0 ≤ z5 ∧ z5 ≤ 255 := by simpa [Lit.wf, IntKind.min, IntKind.max, IntKind.signed, IntKind.bits] using w5
  obtain ⟨a5, rfl⟩ : ∃ n : Nat, z5 = n := ⟨z5.toNat, by omega⟩
  exact walk A0 l0 c0 a1 a2 a3 a4 a5 W m0 n0 y0 h0 (by omega) (by omega) (by omega) (by omega) hN

theorem proved : Rows.InstrReadsSaid :=
  OpenClaim.holds_of_wide 4 Tryd.f4 rfl rfl rfl rfl rfl rfl rfl ⟨rfl, rfl, rfl, rfl, rfl⟩ rfl rfl rfl rfl rfl (by kernel_rfl) Tryd.func4 (by kernel_rfl)
    (of_decide_eq_true (by kernel_rfl)) (by unfold Func.isWrapper; first | (rw [if_pos (by decide +kernel)]; kernel_rfl) | (rw [if_neg (by decide +kernel)]; exact ⟨rfl, rfl⟩))
    (fun os started H enc _ => lifted os started H enc)

theorem card : Rows.InstrReadsCardSaid :=
  Claim7.holds_tied_plain_at .later [] [.data, .data, .data, .data, .sentinel, .sentinel] true _ true
    proved (fun _ h => by cases h) (by kernel_rfl) (fun _ h => by cases h) instrReads_row_tie rfl ⟨rfl, rfl⟩ (by kernel_rfl) rfl
    (fun f fn hf hfn => by
      obtain rfl : f = 4 := Option.some.inj ((show Tryd.prog.funcNamed "confidant/confidantlaw6.InstrReads" = some 4 by kernel_rfl).symm.trans hf) |>.symm
      obtain rfl : fn = Tryd.f4 := (Option.some.inj (Tryd.func4.symm.trans hfn)).symm
      exact ⟨by kernel_rfl, fun j t ht => by
        rw [Tryd.params4] at ht
        have hm : t ∈ [24, 9, 5, 5, 5, 5] := by simpa using Array.mem_of_getElem? ht
        have hall : ([24, 9, 5, 5, 5, 5].all fun u => !Tryd.prog.wantsStandIn u) = true := by kernel_rfl
        exact (show Tryd.prog.wantsStandIn t = false by simpa using List.all_eq_true.1 hall t hm)⟩)
    (by kernel_rfl)

end Go.Proofs.YtmcniddpjpbghaaDoor.instrReads
