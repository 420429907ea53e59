/- InstrTells returns true for every instruction, numbers and bytes, and changes nothing: which instructions are right, their bytes and texts are the reference's, and they come back. No condition but what the packages' own texts lay. -/
import Derived.Test.YtmcniddpjpbghaaDoorLaw6
import Derived.Test.YtmcniddpjpbghaaDoorLaid6
import Derived.Test.YtmcniddpjpbghaaDoorArg6
import Derived.Test.YtmcniddpjpbghaaDoorTie
import Derived.Test.YtmcniddpjpbghaaDoorCards
import Derived.SevenTiedAt
import Derived.Deep.CutRange
import Derived.Deep.DeepCutAuto
import Derived.BigQuiet
namespace Go.Proofs.YtmcniddpjpbghaaDoor.instrTells
set_option maxRecDepth 100000
open Go.RowKit Go.ChangeShapes Go.WideShapes Go.ChangeAt

/-- A slice of bytes in memory. -/
def Piece (l : List Int) (v : Value) (w : World) : Prop := ∃ A n c, v = .slice A n c ∧ l.length = n ∧ Lies w w.heap.size A (u8s l)
theorem Piece.below {l : List Int} {v : Value} {w w' : World} (h : Piece l v w) (hb : Below w.heap.size w w') : Piece l v w' := by
  obtain ⟨A, n, c, e, hn, hl⟩ := h
  exact ⟨A, n, c, e, hn, (hl.below hb).more hb.size⟩
theorem Piece.of_own {w : World} {base : Nat} {v : Value} {l : List Int} (h : w.ownsRow base 5 1 v l.length (u8s l)) : Piece l v w := by
  obtain ⟨A, c, e, _, _, _, hl, _⟩ := Lies.of_own h
  exact ⟨A, _, c, e, rfl, hl⟩
theorem known_piece {val : Nat → Value} {L : List Int} {i : Nat} {sp : List Nat} {v : Value} {w w' : World} (h : Reg.Known val (fun _ => Piece L) sp i v w) (hb : Below w.heap.size w w') : Reg.Known val (fun _ => Piece L) sp i v w' :=
  ⟨h.plain, fun e => (h.other e).below hb⟩

/-- What stays while an instruction is looked at. -/
structure StR (w0 : World) (b : Nat) (op arg : Int) (A : Option Addr) (L : List Int) (k : Nat) (w : World) : Prop where
  i : IB w b op arg
  l : Lies w w.heap.size A (u8s L)
  v : VarsIn w
  b : Below w0.heap.size w0 w
theorem StR.step {w0 w w' : World} {b k : Nat} {op arg : Int} {A : Option Addr} {L : List Int} (h : StR w0 b op arg A L k w) (hb : Below w.heap.size w w') : StR w0 b op arg A L k w' :=
  ⟨h.i.below hb, (h.l.below hb).more hb.size, h.v.below hb, nextB h.b hb⟩

/-- The four instructions that are looked at. -/
def el (op0 x0 : Int) (k a : Nat) (arg : Int) (j : Nat) : Int × Int :=
  if j = 0 then (op0, x0) else if j = 1 then (seatOp k, seatArg k a) else if j = 2 then (seatOp k, arg) else (bits .and .i64 op0 31, arg)
/-- Block b of w holds them. -/
def Els (w : World) (b : Nat) (e : Nat → Int × Int) : Prop := b < w.heap.size ∧ ∀ j, j < 4 → w.cell? ⟨b, j * 2, none⟩ = some (.int .i64 (e j).1) ∧ w.cell? ⟨b, j * 2 + 1, none⟩ = some (.int .i32 (e j).2)
theorem Els.below {w w' : World} {b : Nat} {e : Nat → Int × Int} (h : Els w b e) (hb : Below w.heap.size w w') : Els w' b e :=
  ⟨Nat.lt_of_lt_of_le h.1 hb.size, fun j hj => ⟨(hb.cell (p := ⟨b, j * 2, none⟩) h.1).trans (h.2 j hj).1, (hb.cell (p := ⟨b, j * 2 + 1, none⟩) h.1).trans (h.2 j hj).2⟩⟩

def it10Val (op arg : Int) (n c _b : Nat) (A : Option Addr) (r : Bool) (S T : ByteArray) : Nat → Value
  | 0 => .agg #[.int .i64 op, .int .i32 arg]
  | 1 => .bool r
  | 2 => .agg #[.int .i64 op, .int .i32 arg]
  | 3 => .bool r
  | 4 => .bool false
  | 5 => .bool false
  | 6 => .agg #[.int .i64 op, .int .i32 arg]
  | 8 => .string S
  | 9 => .slice A n c
  | 10 => .string S
  | 11 => .bool false
  | 12 => .bool false
  | 13 => .bool false
  | 14 => .agg #[.int .i64 op, .int .i32 arg]
  | 15 => .string T
  | 16 => .agg #[.int .i64 op, .int .i32 arg]
  | 17 => .string T
  | 18 => .bool false
  | 19 => .bool false
  | _ => undef


set_option maxRecDepth 100000 in
set_option maxHeartbeats 1000000 in
theorem walk (op0 x0 : Int) (k a : Nat) (arg : Int) (Am : Option Addr) (more : List Int) (cm : Nat) (w : World) (hx0 : I32 x0) (hk : k ≤ 255) (ha : a ≤ 255) (harg : I32 arg) (hmb : IsBytes more) (_hml : more.length ≤ maxLen)
    (hm : Lies w w.heap.size Am (u8s more)) (hV : VarsIn w) :
    Calls Tryd.prog 3 #[.agg #[.int .i64 op0, .int .i32 x0], .int .u8 k, .int .u8 a, .int .i32 arg, .slice Am more.length cm] w fun e w' => e = .returned (.bool true) ∧ Below w.heap.size w w' := by
  have hsr := seat_range k a
  have HS := Lib.hid (seatInstr_any k a)
  have hel0 : el op0 x0 k a arg 0 = (op0, x0) := rfl
  obtain ⟨e, he⟩ : ∃ e, el op0 x0 k a arg = e := ⟨_, rfl⟩
  have heI : Hid (∀ j, I32 (e j).2) := Lib.hid fun j => by
    rw [← he]; unfold el
    split
    · exact hx0
    · split
      · exact hsr
      · split <;> exact harg
  obtain ⟨so, hso⟩ : ∃ n, seatOp k = n := ⟨_, rfl⟩
  obtain ⟨sa, hsa⟩ : ∃ n, seatArg k a = n := ⟨_, rfl⟩
  have HE : Hid (∀ w1 b, w1.heap[b]? = some (.cells #[.int .i64 op0, .int .i32 x0, .int .i64 so, .int .i32 sa, .int .i64 so, .int .i32 arg, .int .i64 (bits .and .i64 op0 31), .int .i32 arg] 23 (0, 0)) → Els w1 b e) := Lib.hid fun w1 b h => by
    refine ⟨(Array.getElem?_eq_some_iff.1 h).1, fun j hj => ?_⟩
    rw [cell_blk h, cell_blk h, ← he, ← hso, ← hsa]
    match j, hj with
    | 0, _ => exact ⟨rfl, rfl⟩
    | 1, _ => exact ⟨rfl, rfl⟩
    | 2, _ => exact ⟨rfl, rfl⟩
    | 3, _ => exact ⟨rfl, rfl⟩
  rw [hso, hsa] at HS
  have HX0 := Lib.hid hx0; have HA := Lib.hid harg; have HMB := Lib.hid hmb
  clear hx0 harg hmb he hso hsa hsr hel0
  unfold insV at HS
  obtain ⟨w1, b1, hw1, hb1, I1, B1⟩ := new_ib w op0 x0
  have J1 := Lib.hid I1; have C1 := Lib.hid B1; have V1 := Lib.hid (hV.below B1); have M1 := Lib.hid ((hm.below B1).more B1.size)
  clear I1 B1 hV hm
  go_enter Tryd.func3, Tryd.ntmps3
  go_wp2_with fail
  refine (known6_any w1 V1.out).mono ?_
  rintro e w2 ⟨rfl, hb⟩
  clear hw1
  have J2 := Lib.hid (J1.out.below hb); have C2 := Lib.hid (nextB C1.out hb); have V2 := Lib.hid (V1.out.below hb); have M2 := Lib.hid ((M1.out.below hb).more hb.size)
  clear hb J1 C1 V1 M1
  by_cases h20 : more.length ≤ 20
  · go_wp2_with fail
    refine (HS.out w2 hk ha).mono ?_
    rintro e w3 ⟨rfl, hb⟩
    have J3 := Lib.hid (J2.out.below hb); have C3 := Lib.hid (nextB C2.out hb); have V3 := Lib.hid (V2.out.below hb); have M3 := Lib.hid ((M2.out.below hb).more hb.size)
    clear hb J2 C2 V2 M2
    obtain ⟨w4, b4, hw4, hb4, I4, B4⟩ := new_ib w3 so sa
    have J4 := Lib.hid (J3.out.below B4); have C4 := Lib.hid (nextB C3.out B4); have V4 := Lib.hid (V3.out.below B4); have M4 := Lib.hid ((M3.out.below B4).more B4.size); have K4 := Lib.hid I4
    clear B4 J3 C3 V3 M3 I4
    have a0 := J4.out.c0; have a1 := J4.out.c1; have a2 := K4.out.c0; have a3 := K4.out.c1
    obtain ⟨w5, hw5⟩ : ∃ w5, w4.alloc (.cells #[.int .i64 op0, .int .i32 x0, .int .i64 so, .int .i32 sa, .int .i64 so, .int .i32 arg, .int .i64 (bits .and .i64 op0 31), .int .i32 arg] 23) = w5 := ⟨_, rfl⟩
    obtain ⟨b5, hb5⟩ : ∃ b5, w4.heap.size = b5 := ⟨_, rfl⟩
    have E5 : Hid (Els w5 b5 e) := Lib.hid (HE.out w5 b5 (by rw [← hw5, ← hb5]; exact heap_alloc_new w4 _))
    have hB5 : Below w4.heap.size w4 w5 := by rw [← hw5]; exact below_alloc w4 _
    have C5 := Lib.hid (nextB C4.out hB5); have V5 := Lib.hid (V4.out.below hB5); have M5 := Lib.hid ((M4.out.below hB5).more hB5.size)
    clear hB5 HE J4 C4 V4 M4 K4
    go_wp2_with fail
    clear hw4 hw5 hb5 a0 a1 a2 a3
    go_loopw [41] (fun i wr => ∃ j : Nat, j ≤ 4 ∧ i = .int .i64 j ∧ Els wr b5 e ∧ VarsIn wr ∧ Lies wr wr.heap.size Am (u8s more) ∧ Below w.heap.size w wr) (fun i _ => 4 - (intOf i).toNat)
    case atStart => exact ⟨0, by omega, rfl, E5.out, V5.out, M5.out, C5.out⟩
    case round =>
      clear E5 V5 M5 C5
      obtain ⟨j, hj, rfl, hE, hV, hM, hC⟩ := hrel
      have HE := Lib.hid hE; have HV := Lib.hid hV; have HM := Lib.hid hM; have HC := Lib.hid hC
      clear hE hV hM hC
      by_cases hj4 : j < 4
      · have c0 := (HE.out.2 j hj4).1
        have c1 := (HE.out.2 j hj4).2
        have hbl := HE.out.1
        obtain ⟨op, hop⟩ : ∃ z, (e j).1 = z := ⟨_, rfl⟩
        obtain ⟨x, hx⟩ : ∃ z, (e j).2 = z := ⟨_, rfl⟩
        have HN := Lib.hid (heI.out j)
        rw [hop] at c0
        rw [hx] at c1 HN
        clear hop hx
        obtain ⟨w6, b, hw6, hb6, I6, B6⟩ := new_ib wr op x
        have I6' := Lib.hid I6; have V6 := Lib.hid (HV.out.below B6); have M6 := Lib.hid ((HM.out.below B6).more B6.size); have C6 := Lib.hid (nextB HC.out B6); have E6 := Lib.hid (HE.out.below B6)
        have d0 := I6.c0; have d1 := I6.c1
        clear I6 B6 HE HV HM HC
        go_wp2_with fail
        refine (refPutI_any op x w6 HN.out).mono ?_
        rintro e' w7 ⟨v, rfl, hown, hb⟩
        clear hw6 hb6 c0 c1 hbl d0 d1
        have I7 := Lib.hid (I6'.out.below hb); have V7 := Lib.hid (V6.out.below hb); have M7 := Lib.hid ((M6.out.below hb).more hb.size); have C7 := Lib.hid (nextB C6.out hb); have E7 := Lib.hid (E6.out.below hb)
        obtain ⟨r, hr⟩ : ∃ r, rightB op x = r := ⟨_, rfl⟩
        have hlen := codeL_length op x
        obtain ⟨L, hL⟩ : ∃ L, codeL op x = L := ⟨_, rfl⟩
        obtain ⟨T, hT0⟩ : ∃ T : ByteArray, ⟨(textL op x).toArray⟩ = T := ⟨_, rfl⟩
        obtain ⟨S, hS0⟩ : ∃ S, strOfNums L = S := ⟨_, rfl⟩
        have HRI := Lib.hid hr; have HLI := Lib.hid hL; have HTI := Lib.hid hT0; have HS0 := Lib.hid hS0
        have hcby := codeL_bytes op x
        rw [hL] at hown hlen hcby
        have HCB := Lib.hid hcby
        obtain ⟨Ab, cb, rfl, _, hmb2, _, hlb, _⟩ := Lies.of_own hown
        have HST : Hid (StR w7 b op x Ab L 0 w7) := Lib.hid ⟨I7.out, hlb, V7.out, Below.refl _ _⟩
        have HR : Hid (∀ w, Calls Tryd.prog 10 #[.agg #[.int .i64 op, .int .i32 x]] w fun e w' => e = .returned (.bool r) ∧ Below w.heap.size w w') := Lib.hid fun w => right_lit w hr
        have HRR : Hid (∀ w, Calls Tryd.prog 11 #[.agg #[.int .i64 op, .int .i32 x]] w fun e w' => e = .returned (.bool r) ∧ Below w.heap.size w w') := Lib.hid fun w => by rw [← hr]; exact refRight_any op x w
        have HP : Hid (∀ w, Calls Tryd.prog 12 #[.agg #[.int .i64 op, .int .i32 x]] w (PutMade w L)) := Lib.hid fun w => by rw [← hL]; exact putI_any op x w HN.out
        have HT : Hid (∀ w, VarsIn w → Calls Tryd.prog 13 #[.agg #[.int .i64 op, .int .i32 x]] w fun e w' => e = .returned (.string T) ∧ Below w.heap.size w w') := Lib.hid fun w hV => text_lit w HN.out hV hT0
        have HTR : Hid (∀ w, Calls Tryd.prog 14 #[.agg #[.int .i64 op, .int .i32 x]] w fun e w' => e = .returned (.string T) ∧ Below w.heap.size w w') := Lib.hid fun w => by rw [← hT0]; exact refText_any op x w HN.out
        clear hr hL hT0 hS0 hown hlb hb hcby I6' V6 M6 C6 E6
        go_upto_region 10 with (fail)
        refine Reg.wp_facts_sl [47, 48, 49, 50, 51, 52, 53, 54, 55, 56, 57, 58, 59, 60, 61, 62, 63, 64, 65, 66] rfl [] [[], [(0, 47)], [], [(2, 49)], [(1, 48), (3, 50)], [(4, 51)], [], [(6, 53)], [(7, 54)], [], [(9, 56)], [(8, 55), (10, 57)], [(5, 52), (11, 58)], [(12, 59)], [], [(14, 61)], [], [(16, 63)], [(15, 62), (17, 64)], [(13, 60), (18, 65)]] [(19, 66)] (Reg.Known (it10Val op x L.length cb b Ab r S T) (fun _ => Piece L) [7]) (StR w7 b op x Ab L) (by kernel_rfl) (by kernel_rfl) ?start ?steps ?finish
        case start => exact HST.out.step (Below.refl _ _).drew
        case steps =>
          refine Reg.Steps.zip ?_ ?_
          · refine Reg.step_go rfl ?_
            intro a wi ki hf hd hS hc K hK
            have f13 : a.tmps.getD 13 undef = .pointer (some ⟨b, 0, none⟩) := hf.same 13 rfl
            clear hf hd hc
            have cc0 := hS.i.c0
            have cc1 := hS.i.c1
            have hK0 := Lib.hid hK; clear hK
            have hS0 := Lib.hid hS; clear hS
            go_simp
            exact hK0.out _ _ (Reg.Known.mk_val rfl rfl) (fun _ _ h => h) hS0.out
          refine Reg.Steps.zip ?_ ?_
          · refine Reg.step_go rfl ?_
            intro a wi ki hf hd hS hc K hK
            have e47 : a.tmps.getD 47 undef = .agg #[.int .i64 op, .int .i32 x] := hd.1.plain rfl
            clear hf hd
            have HS := Lib.hid hS; clear hS
            have hK0 := Lib.hid hK; clear hK hc
            go_simp
            refine (HR.out wi).mono ?_
            rintro e wA ⟨rfl, hbA⟩
            exact hK0.out _ _ (Reg.Known.mk_val rfl rfl) (fun _ _ h => known_piece h hbA) (HS.out.step hbA)
          refine Reg.Steps.zip ?_ ?_
          · refine Reg.step_go rfl ?_
            intro a wi ki hf hd hS hc K hK
            have f13 : a.tmps.getD 13 undef = .pointer (some ⟨b, 0, none⟩) := hf.same 13 rfl
            clear hf hd hc
            have cc0 := hS.i.c0
            have cc1 := hS.i.c1
            have hK0 := Lib.hid hK; clear hK
            have hS0 := Lib.hid hS; clear hS
            go_simp
            exact hK0.out _ _ (Reg.Known.mk_val rfl rfl) (fun _ _ h => h) hS0.out
          refine Reg.Steps.zip ?_ ?_
          · refine Reg.step_go rfl ?_
            intro a wi ki hf hd hS hc K hK
            have e49 : a.tmps.getD 49 undef = .agg #[.int .i64 op, .int .i32 x] := hd.1.plain rfl
            clear hf hd
            have HS := Lib.hid hS; clear hS
            have hK0 := Lib.hid hK; clear hK hc
            go_simp
            refine (HRR.out wi).mono ?_
            rintro e wA ⟨rfl, hbA⟩
            exact hK0.out _ _ (Reg.Known.mk_val rfl rfl) (fun _ _ h => known_piece h hbA) (HS.out.step hbA)
          refine Reg.Steps.zip ?_ ?_
          · refine Reg.step_go rfl ?_
            intro a wi ki hf hd hS hc K hK
            have e48 : a.tmps.getD 48 undef = .bool r := hd.1.plain rfl
            have e50 : a.tmps.getD 50 undef = .bool r := hd.2.1.plain rfl
            clear hf hd hc
            have fb : (r != r) = false := bne_self_eq_false _
            have hK0 := Lib.hid hK; clear hK
            have hS0 := Lib.hid hS; clear hS
            go_simp
            exact hK0.out _ _ (Reg.Known.mk_val rfl rfl) (fun _ _ h => h) hS0.out
          refine Reg.Steps.zip ?_ ?_
          · refine Reg.step_go rfl ?_
            intro a wi ki hf hd hS hc K hK
            have e51 : a.tmps.getD 51 undef = .bool false := hd.1.plain rfl
            clear hf hd hc
            have hK0 := Lib.hid hK; clear hK
            have hS0 := Lib.hid hS; clear hS
            go_simp
            exact hK0.out _ _ (Reg.Known.mk_val rfl rfl) (fun _ _ h => h) hS0.out
          refine Reg.Steps.zip ?_ ?_
          · refine Reg.step_on rfl (fun u w h => h.plain rfl) ?_
            intro a wi ki hf hd hS hc K hK
            have f13 : a.tmps.getD 13 undef = .pointer (some ⟨b, 0, none⟩) := hf.same 13 rfl
            clear hf hd hc
            have cc0 := hS.i.c0
            have cc1 := hS.i.c1
            have hK0 := Lib.hid hK; clear hK
            have hS0 := Lib.hid hS; clear hS
            go_simp
            exact hK0.out _ _ (Reg.Known.mk_val rfl rfl) (fun _ _ h => h) hS0.out
          refine Reg.Steps.zip ?_ ?_
          · refine Reg.step_on rfl (fun u w h => h.plain rfl) ?_
            intro a wi ki hf hd hS hc K hK
            have e53 : a.tmps.getD 53 undef = .agg #[.int .i64 op, .int .i32 x] := hd.1.plain rfl
            clear hf hd
            have HS := Lib.hid hS; clear hS
            have hK0 := Lib.hid hK; clear hK hc
            go_simp
            refine (HP.out wi).mono ?_
            rintro e wA ⟨v, rfl, hoA, hbA⟩
            exact hK0.out _ _ (Reg.Known.mk_other rfl (Piece.of_own hoA)) (fun _ _ h => known_piece h hbA) (HS.out.step hbA)
          refine Reg.Steps.zip ?_ ?_
          · refine Reg.step_on rfl (fun u w h => h.plain rfl) ?_
            intro a wi ki hf hd hS hc K hK
            have x54 := hd.1.other rfl
            clear hf hd hc
            obtain ⟨A54, n54, c54, e54, hn54, hl54⟩ := x54
            have cv := conv_bytes hn54 hl54 c54
            rw [show strOfNums L = S from HS0.out] at cv
            clear hn54
            have hK0 := Lib.hid hK; clear hK
            have hS0 := Lib.hid hS; clear hS
            go_simp
            exact hK0.out _ _ (Reg.Known.mk_val rfl rfl) (fun _ _ h => h) hS0.out
          refine Reg.Steps.zip ?_ ?_
          · refine Reg.step_on rfl (fun u w h => h.plain rfl) ?_
            intro a wi ki hf hd hS hc K hK
            have f14 : a.tmps.getD 14 undef = .slice Ab L.length cb := hf.same 14 rfl
            clear hf hd hc
            have hK0 := Lib.hid hK; clear hK
            have hS0 := Lib.hid hS; clear hS
            go_simp
            exact hK0.out _ _ (Reg.Known.mk_val rfl rfl) (fun _ _ h => h) hS0.out
          refine Reg.Steps.zip ?_ ?_
          · refine Reg.step_on rfl (fun u w h => h.plain rfl) ?_
            intro a wi ki hf hd hS hc K hK
            have e56 : a.tmps.getD 56 undef = .slice Ab L.length cb := hd.1.plain rfl
            clear hf hd hc
            have cv := conv_bytes rfl hS.l cb
            rw [show strOfNums L = S from HS0.out] at cv
            have hK0 := Lib.hid hK; clear hK
            have hS0 := Lib.hid hS; clear hS
            go_simp
            exact hK0.out _ _ (Reg.Known.mk_val rfl rfl) (fun _ _ h => h) hS0.out
          refine Reg.Steps.zip ?_ ?_
          · refine Reg.step_on rfl (fun u w h => h.plain rfl) ?_
            intro a wi ki hf hd hS hc K hK
            have e55 : a.tmps.getD 55 undef = .string S := hd.1.plain rfl
            have e57 : a.tmps.getD 57 undef = .string S := hd.2.1.plain rfl
            clear hf hd hc
            have fb : (S.toList != S.toList) = false := bne_self_eq_false _
            have hK0 := Lib.hid hK; clear hK
            have hS0 := Lib.hid hS; clear hS
            go_simp
            exact hK0.out _ _ (Reg.Known.mk_val rfl rfl) (fun _ _ h => h) hS0.out
          refine Reg.Steps.zip ?_ ?_
          · refine Reg.step_go rfl ?_
            intro a wi ki hf hd hS hc K hK
            have e52 : a.tmps.getD 52 undef = .bool false := hd.1.plain rfl
            have e58 : a.tmps.getD 58 undef = .bool false := hd.2.1.plain rfl
            clear hf hd hc
            have hK0 := Lib.hid hK; clear hK
            have hS0 := Lib.hid hS; clear hS
            go_simp
            exact hK0.out _ _ (Reg.Known.mk_val rfl rfl) (fun _ _ h => h) hS0.out
          refine Reg.Steps.zip ?_ ?_
          · refine Reg.step_go rfl ?_
            intro a wi ki hf hd hS hc K hK
            have e59 : a.tmps.getD 59 undef = .bool false := hd.1.plain rfl
            clear hf hd hc
            have hK0 := Lib.hid hK; clear hK
            have hS0 := Lib.hid hS; clear hS
            go_simp
            exact hK0.out _ _ (Reg.Known.mk_val rfl rfl) (fun _ _ h => h) hS0.out
          refine Reg.Steps.zip ?_ ?_
          · refine Reg.step_on rfl (fun u w h => h.plain rfl) ?_
            intro a wi ki hf hd hS hc K hK
            have f13 : a.tmps.getD 13 undef = .pointer (some ⟨b, 0, none⟩) := hf.same 13 rfl
            clear hf hd hc
            have cc0 := hS.i.c0
            have cc1 := hS.i.c1
            have hK0 := Lib.hid hK; clear hK
            have hS0 := Lib.hid hS; clear hS
            go_simp
            exact hK0.out _ _ (Reg.Known.mk_val rfl rfl) (fun _ _ h => h) hS0.out
          refine Reg.Steps.zip ?_ ?_
          · refine Reg.step_on rfl (fun u w h => h.plain rfl) ?_
            intro a wi ki hf hd hS hc K hK
            have e61 : a.tmps.getD 61 undef = .agg #[.int .i64 op, .int .i32 x] := hd.1.plain rfl
            clear hf hd
            have HS := Lib.hid hS; clear hS
            have hK0 := Lib.hid hK; clear hK hc
            go_simp
            refine (HT.out wi HS.out.v).mono ?_
            rintro e wA ⟨rfl, hbA⟩
            exact hK0.out _ _ (Reg.Known.mk_val rfl rfl) (fun _ _ h => known_piece h hbA) (HS.out.step hbA)
          refine Reg.Steps.zip ?_ ?_
          · refine Reg.step_on rfl (fun u w h => h.plain rfl) ?_
            intro a wi ki hf hd hS hc K hK
            have f13 : a.tmps.getD 13 undef = .pointer (some ⟨b, 0, none⟩) := hf.same 13 rfl
            clear hf hd hc
            have cc0 := hS.i.c0
            have cc1 := hS.i.c1
            have hK0 := Lib.hid hK; clear hK
            have hS0 := Lib.hid hS; clear hS
            go_simp
            exact hK0.out _ _ (Reg.Known.mk_val rfl rfl) (fun _ _ h => h) hS0.out
          refine Reg.Steps.zip ?_ ?_
          · refine Reg.step_on rfl (fun u w h => h.plain rfl) ?_
            intro a wi ki hf hd hS hc K hK
            have e63 : a.tmps.getD 63 undef = .agg #[.int .i64 op, .int .i32 x] := hd.1.plain rfl
            clear hf hd
            have HS := Lib.hid hS; clear hS
            have hK0 := Lib.hid hK; clear hK hc
            go_simp
            refine (HTR.out wi).mono ?_
            rintro e wA ⟨rfl, hbA⟩
            exact hK0.out _ _ (Reg.Known.mk_val rfl rfl) (fun _ _ h => known_piece h hbA) (HS.out.step hbA)
          refine Reg.Steps.zip ?_ ?_
          · refine Reg.step_on rfl (fun u w h => h.plain rfl) ?_
            intro a wi ki hf hd hS hc K hK
            have e62 : a.tmps.getD 62 undef = .string T := hd.1.plain rfl
            have e64 : a.tmps.getD 64 undef = .string T := hd.2.1.plain rfl
            clear hf hd hc
            have fb : (T.toList != T.toList) = false := bne_self_eq_false _
            have hK0 := Lib.hid hK; clear hK
            have hS0 := Lib.hid hS; clear hS
            go_simp
            exact hK0.out _ _ (Reg.Known.mk_val rfl rfl) (fun _ _ h => h) hS0.out
          refine Reg.Steps.zip ?_ ?_
          · refine Reg.step_go rfl ?_
            intro a wi ki hf hd hS hc K hK
            have e60 : a.tmps.getD 60 undef = .bool false := hd.1.plain rfl
            have e65 : a.tmps.getD 65 undef = .bool false := hd.2.1.plain rfl
            clear hf hd hc
            have hK0 := Lib.hid hK; clear hK
            have hS0 := Lib.hid hS; clear hS
            go_simp
            exact hK0.out _ _ (Reg.Known.mk_val rfl rfl) (fun _ _ h => h) hS0.out
          exact Reg.Steps.nil
        case finish =>
          intro a8 w8 hf hd hS8
          obtain ⟨u, hu⟩ : ∃ u : Nat → Value, u = fun s => a8.tmps.getD s undef := ⟨_, rfl⟩
          have e66 : u 66 = .bool false := by rw [hu]; exact hd.1.plain rfl
          rw [hf.eq, ← hu]
          clear hf hu hd
          have I8 := Lib.hid hS8.i; have L8 := Lib.hid hS8.l; have V8 := Lib.hid hS8.v
          have M8 := Lib.hid ((M7.out.below hS8.b).more hS8.b.size); have C8 := Lib.hid (nextB C7.out hS8.b); have E8 := Lib.hid (E7.out.below hS8.b)
          clear hS8 HST I7 V7 M7 C7 E7
          simp (config := { maxSteps := 10000000 }) [Reg.filled, e66]
          clear e66
          cases r with
          | false =>
            have hL0 : L = [] := by rw [← HLI.out]; exact codeL_no HRI.out
            subst hL0
            simp only [List.length_nil]
            go_wp2_with fail
            go_roundw
            case rel => exact ⟨j + 1, by omega, by go_num, E8.out, V8.out, M8.out, C8.out⟩
            case measure => simp [intOf]; omega
          | true =>
            have hL1 := codeL_pos HRI.out
            rw [HLI.out] at hL1
            have hL2 : ((L.length : Int) == 0) = false := by rw [beq_eq_false_iff_ne]; omega
            have hz8 : w.heap.size ≤ w8.heap.size := C8.out.size
            go_wp2_with (at_builtin; go_must (refine wpList_append_lies rfl _ _ rfl w8.heap.size _ _ _ rfl (World.ownsRow_nil _ _ _ _) w8.heap.size Ab L.length cb L rfl rfl L8.out ?c1 ?c2 ?_))
            case c1 => omega
            case c2 => omega
            intro v9 w9 ho9 hb9
            have HO9 := Lib.hid ho9; have HB9 := Lib.hid hb9
            have M9 := Lib.hid ((M8.out.below hb9).more hb9.size)
            have hz9 := hb9.size
            clear ho9 hb9 L8
            go_wp2_with (at_builtin; go_must (refine wpList_append_lies rfl _ _ rfl w8.heap.size v9 _ _ rfl HO9.out w9.heap.size Am more.length cm more rfl rfl M9.out ?c1 ?c2 ?_))
            case c1 => omega
            case c2 => omega
            intro v10 w10 ho10 hb10
            obtain ⟨LM, hLM⟩ : ∃ l, L ++ more = l := ⟨_, rfl⟩
            have ho10' : w10.ownsRow w8.heap.size 5 1 v10 LM.length (u8s LM) := by rw [← hLM]; simpa [u8s] using ho10
            have hlm : LM.length ≤ 60 := by rw [← hLM, List.length_append]; omega
            have HLMB : Hid (IsBytes LM) := Lib.hid (by rw [← hLM]; exact HCB.out.append HMB.out)
            have HLM := Lib.hid hLM
            obtain ⟨A10, c10, rfl, _, _, _, hl10, _⟩ := Lies.of_own ho10'
            have L10 := Lib.hid hl10
            have hb8 := HB9.out.trans hb10
            have I10 := Lib.hid (I8.out.below hb8); have V10 := Lib.hid (V8.out.below hb8); have M10 := Lib.hid ((M8.out.below hb8).more hb8.size); have C10 := Lib.hid (nextB C8.out hb8); have E10 := Lib.hid (E8.out.below hb8)
            clear hb8 hl10 ho10' ho10 hLM hb10 HO9 HB9 M9 hz9 I8 V8 M8 C8 E8
            go_wp2_with fail
            refine (new_any w10.heap.size A10 c10 LM w10 (by omega) (Nat.le_refl _) L10.out HLMB.out).mono ?_
            rintro e w11 ⟨g, rfl, hg, R11, hb11⟩
            have hg1 := hg
            have R11' := Lib.hid R11; have HB11 := Lib.hid hb11
            clear R11 hb11 L10 HLMB
            go_wp2_with fail
            refine (takeBack_any (op := op) (arg := x) (more := more) w11 HRI.out HN.out (by rw [HLI.out, HLM.out]; exact R11'.out)).mono ?_
            rintro e w12 ⟨rfl, R12, g12⟩
            have hb12 := HB11.out.trans (below_of_grown g12 hg HB11.out.size)
            have I12 := Lib.hid (I10.out.below hb12); have V12 := Lib.hid (V10.out.below hb12); have M12 := Lib.hid ((M10.out.below hb12).more hb12.size); have C12 := Lib.hid (nextB C10.out hb12); have E12 := Lib.hid (E10.out.below hb12)
            have R12' := Lib.hid R12
            clear hb12 R12 g12 hg hg1 HB11 R11' HLM I10 V10 M10 C10 E10
            obtain ⟨w13, b13, hw13, hb13, Y13, B13⟩ := new_ib w12 op x
            have I13 := Lib.hid (I12.out.below B13); have V13 := Lib.hid (V12.out.below B13); have M13 := Lib.hid ((M12.out.below B13).more B13.size); have C13 := Lib.hid (nextB C12.out B13); have E13 := Lib.hid (E12.out.below B13); have R13 := Lib.hid (R12'.out.below B13)
            have Y13' := Lib.hid Y13
            clear B13 Y13 I12 V12 M12 C12 E12 R12'
            have d0 := I13.out.c0; have d1 := I13.out.c1
            unfold insV
            go_wp2_with fail
            refine (HT.out w13 V13.out).mono ?_
            rintro e w14 ⟨rfl, hb⟩
            have I14 := Lib.hid (I13.out.below hb); have V14 := Lib.hid (V13.out.below hb); have M14 := Lib.hid ((M13.out.below hb).more hb.size); have C14 := Lib.hid (nextB C13.out hb); have E14 := Lib.hid (E13.out.below hb); have R14 := Lib.hid (R13.out.below hb); have Y14 := Lib.hid (Y13'.out.below hb)
            clear hb hw13 d0 d1 I13 V13 M13 C13 E13 R13 Y13'
            go_wp2_with fail
            have PB : Calls Tryd.prog 17 #[.string T] w14 fun e w' => e = .returned (.tuple #[insV op x, .bool true]) ∧ Below w14.heap.size w14 w' := by
              rw [← HTI.out]; exact parseBack_any w14 HRI.out HN.out V14.out
            refine PB.mono ?_
            clear PB
            rintro e w15 ⟨rfl, hb⟩
            have I15 := Lib.hid (I14.out.below hb); have V15 := Lib.hid (V14.out.below hb); have M15 := Lib.hid ((M14.out.below hb).more hb.size); have C15 := Lib.hid (nextB C14.out hb); have E15 := Lib.hid (E14.out.below hb); have R15 := Lib.hid (R14.out.below hb); have Y15 := Lib.hid (Y14.out.below hb)
            clear hb I14 V14 M14 C14 E14 R14 Y14
            obtain ⟨w16, b16, hw16, hb16, Z16, B16⟩ := new_ib w15 op x
            have I16 := Lib.hid (I15.out.below B16); have V16 := Lib.hid (V15.out.below B16); have M16 := Lib.hid ((M15.out.below B16).more B16.size); have C16 := Lib.hid (nextB C15.out B16); have E16 := Lib.hid (E15.out.below B16); have R16 := Lib.hid (R15.out.below B16); have Y16 := Lib.hid (Y15.out.below B16)
            have d0 := I16.out.c0; have d1 := I16.out.c1; have y0 := Y16.out.c0; have y1 := Y16.out.c1; have z0 := Z16.c0; have z1 := Z16.c1
            clear B16 Z16 I15 V15 M15 C15 E15 R15 Y15
            unfold insV
            go_wp2_with fail
            refine (left_any _ g _ w16 R16.out).mono ?_
            rintro e w17 ⟨rfl, rfl⟩
            clear hw16 d0 d1 y0 y1 z0 z1
            go_wp2_with fail
            go_roundw
            case rel => exact ⟨j + 1, by omega, by go_num, E16.out, V16.out, M16.out, C16.out⟩
            case measure => simp [intOf]; omega
      · obtain rfl : j = 4 := by omega
        go_wp2_with fail
        go_ret
        exact ⟨rfl, HC.out⟩
  · go_wp2_with fail
    go_ret
    exact ⟨rfl, C2.out⟩

/- The claim. -/

set_option maxRecDepth 100000 in
theorem lifted (os : Os) (started : os.Started) (H : Type) (enc : TypeId × Value → H) :
    ReturnsInHanded {} Tryd.checked os 3 .any (fun w args => (Rows.instrTellsSpec.pre enc Tryd.prog Tryd.f3 [] false w args ∧ laidMetH Tryd.prog laidL w) ∧ sizedMet enc Tryd.prog Tryd.f3 (OpenSpec.ofChange Rows.instrTellsSpec) false w args) (Rows.instrTellsSpec.post enc Tryd.prog Tryd.f3 false true false false) := by
  refine returnsInHanded_of_change_and (C := Tryd.checked) (X := fun w _ => laidMetH Tryd.prog laidL w) (fun _ _ _ hh h => h.of_heap hh) ownKnobs started (by kernel_rfl) Tryd.func3
    (ChangeSpec.witness_shaped (enc := enc) (C := Tryd.checked) (os := os) (X := fun w _ => laidMetH Tryd.prog laidL w) false (World.doorLaid Tryd.prog 77 os) #[.agg #[.int .i64 0, .int .i32 0], .int .u8 0, .int .u8 0, .int .i32 0, .slice none 0 0] 8 rfl (World.shaped_of_RefB (by kernel_rfl) (by kernel_rfl)) (by kernel_rfl) (by kernel_rfl) (by kernel_rfl) (door_met os _)) ?_
  intro W base args ds gs before hval hW _ _ hL _
  have hN := vars_of_laid hL
  refine law_contract rfl rfl (fun ds h => by match ds, h with | [d1, d2, d3, d4, d5], _ => rfl) (by decide +kernel) hW ?_
  obtain ⟨p, q, hA0, _⟩ := hW
  have hA : DataW.TrodAll enc Tryd.prog W 0 (fun _ => true) true Tryd.f3.params.toList args.toList ds p := hA0
  have hval' : ∀ (j : Nat) t v, Tryd.f3.params[j]? = some t → args[j]? = some v → Value.okWide Tryd.prog W .any base t v := hval
  rw [Tryd.params3] at hA hval'
  obtain ⟨v0, vs0, d0, ds0, p0, q0, hargs, rfl, rfl, h0, r0⟩ := trodAll_cons hA
  obtain ⟨v1, vs1, d1, ds1, p1, q1, rfl, rfl, rfl, h1, r1⟩ := trodAll_cons r0
  obtain ⟨v2, vs2, d2, ds2, p2, q2, rfl, rfl, rfl, h2, r2⟩ := trodAll_cons r1
  obtain ⟨v3, vs3, d3, ds3, p3, q3, rfl, rfl, rfl, h3, r3⟩ := trodAll_cons r2
  obtain ⟨v4, vs4, d4, ds4, p4, q4, rfl, rfl, rfl, h4, r4⟩ := trodAll_cons r3
  obtain ⟨rfl, rfl, rfl⟩ := trodAll_nil r4
  obtain rfl : args = #[v0, v1, v2, v3, v4] := by cases args; simp_all
  obtain ⟨a0, x0, rfl, b0, y0⟩ := open_instr (hval' 0 _ v0 rfl rfl) h0
  obtain ⟨z1, rfl, rfl, rfl, w1⟩ := open_int Tryd.underlying5 (hval' 1 _ v1 rfl rfl) h1
  have b1 : 0 ≤ z1 ∧ z1 ≤ 255 := by simpa [Lit.wf, IntKind.min, IntKind.max, IntKind.signed, IntKind.bits] using w1
  obtain ⟨a1, rfl⟩ : ∃ n : Nat, z1 = n := ⟨z1.toNat, by omega⟩
  obtain ⟨z2, rfl, rfl, rfl, w2⟩ := open_int Tryd.underlying5 (hval' 2 _ v2 rfl rfl) h2
  have b2 : 0 ≤ z2 ∧ z2 ≤ 255 := by simpa [Lit.wf, IntKind.min, IntKind.max, IntKind.signed, IntKind.bits] using w2
  obtain ⟨a2, rfl⟩ : ∃ n : Nat, z2 = n := ⟨z2.toNat, by omega⟩
  obtain ⟨a3, rfl, rfl, rfl, w3⟩ := open_int Tryd.underlying21 (hval' 3 _ v3 rfl rfl) h3
  have b3 : -2147483648 ≤ a3 ∧ a3 ≤ 2147483647 := by simpa [Lit.wf, IntKind.min, IntKind.max, IntKind.signed, IntKind.bits] using w3
  obtain ⟨A4, l4, c4, rfl, m4, y4, h4⟩ := open_bytes (hval' 4 _ v4 rfl rfl) h4
  exact walk a0 x0 a1 a2 a3 A4 l4 c4 W y0 (by omega) (by omega) b3 y4 m4 h4 hN

theorem proved : Rows.InstrTellsSaid :=
  OpenClaim.holds_of_wide 3 Tryd.f3 rfl rfl rfl rfl rfl rfl rfl ⟨rfl, rfl, rfl, rfl, rfl⟩ rfl rfl rfl rfl rfl (by kernel_rfl) Tryd.func3 (by kernel_rfl)
    (of_decide_eq_true (by kernel_rfl)) (by unfold Func.isWrapper; first | (rw [if_pos (by decide +kernel)]; kernel_rfl) | (rw [if_neg (by decide +kernel)]; exact ⟨rfl, rfl⟩))
    (fun os started H enc _ => lifted os started H enc)

theorem card : Rows.InstrTellsCardSaid :=
  Claim7.holds_tied_plain_at .later [] [.data, .data, .data, .data, .sentinel, .sentinel] true _ true
    proved (fun _ h => by cases h) (by kernel_rfl) (fun _ h => by cases h) instrTells_row_tie rfl ⟨rfl, rfl⟩ (by kernel_rfl) rfl
    (fun f fn hf hfn => by
      obtain rfl : f = 3 := Option.some.inj ((show Tryd.prog.funcNamed "confidant/confidantlaw6.InstrTells" = some 3 by kernel_rfl).symm.trans hf) |>.symm
      obtain rfl : fn = Tryd.f3 := (Option.some.inj (Tryd.func3.symm.trans hfn)).symm
      exact ⟨by kernel_rfl, fun j t ht => by
        rw [Tryd.params3] at ht
        have hm : t ∈ [23, 5, 5, 21, 24] := by simpa using Array.mem_of_getElem? ht
        have hall : ([23, 5, 5, 21, 24].all fun u => !Tryd.prog.wantsStandIn u) = true := by kernel_rfl
        exact (show Tryd.prog.wantsStandIn t = false by simpa using List.all_eq_true.1 hall t hm)⟩)
    (by kernel_rfl)

end Go.Proofs.YtmcniddpjpbghaaDoor.instrTells
