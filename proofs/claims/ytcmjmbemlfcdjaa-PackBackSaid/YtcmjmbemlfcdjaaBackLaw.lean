/- PackBack returns true for every input and changes nothing: what was encoded is read back in order, and nothing is left over. No condition. -/
import Derived.Test.YtcmjmbemlfcdjaaStep
import Derived.Test.YtcmjmbemlfcdjaaBack
import Derived.Test.YtcmjmbemlfcdjaaRegion
namespace Go.Proofs.Ytcmjmbemlfcdjaa.packBack
open Go.RowKit Go.ChangeShapes Go.WideShapes Go.ChangeAt

/-- What the first loop appends for one number and one list of bytes. -/
def piece (k : Nat) (p : Nat × BRow) : List Int := (enc (edgeN p.1 k) ++ enc p.1) ++ (enc p.2.l.length ++ p.2.l)
def pieces (k : Nat) (z : List (Nat × BRow)) : List Int := z.flatMap (piece k)

theorem pieces_take {k : Nat} {z : List (Nat × BRow)} {i : Nat} (h : i < z.length) : pieces k (z.take (i + 1)) = pieces k (z.take i) ++ piece k z[i] := by
  rw [List.take_succ_eq_append_getElem h]; simp only [pieces, List.flatMap_append, List.flatMap_cons, List.flatMap_nil, List.append_nil]

theorem piece_length {k : Nat} {p : Nat × BRow} (hx : p.1 ≤ 18446744073709551615) (hl : p.2.l.length ≤ 40) : (piece k p).length ≤ 70 := by
  have h1 := (enc_length_le (edgeN p.1 k) (by have := edgeN_le p.1 k hx; omega)).2
  have h2 := (enc_length_le p.1 (by omega)).2
  have h3 := (enc_length_le p.2.l.length (by omega)).2
  simp only [piece, List.length_append]; omega

def pre (k : Nat) (ns : List Nat) (rs : List BRow) (j : Nat) : List Int := pieces k ((ns.zip rs).take j)

theorem pre_succ {k : Nat} {ns : List Nat} {rs : List BRow} {j : Nat} (h1 : j < ns.length) (h2 : j < rs.length) : pre k ns rs (j + 1) = pre k ns rs j ++ piece k (ns[j], rs[j]) := by
  have h : j < (ns.zip rs).length := by rw [List.length_zip]; omega
  unfold pre
  rw [pieces_take h, List.getElem_zip]

theorem pre_step {k : Nat} {ns : List Nat} {rs : List BRow} {j : Nat} (h1 : j < ns.length) (h2 : j < rs.length) (hns : IsNums ns) (hl : rs[j].l.length ≤ 40) (h : (pre k ns rs j).length ≤ 70 * j) : (pre k ns rs (j + 1)).length ≤ 70 * (j + 1) := by
  rw [pre_succ h1 h2, List.length_append]
  have := piece_length (k := k) (p := (ns[j], rs[j])) (hns _ (List.getElem_mem h1)) hl
  omega

theorem put_two (x y : Nat) (w : World) (hx : x ≤ 18446744073709551615) (hy : y ≤ 18446744073709551615) :
    Calls Try.prog 10 #[.slice (some ⟨w.heap.size, 0, none⟩) 2 2] (w.alloc (.cells #[.int .u64 x, .int .u64 y] 29)) fun e w' =>
      ∃ A n c, e = .returned (.slice A n c) ∧ (enc x ++ enc y).length = n ∧ Lies w' w'.heap.size A (u8s (enc x ++ enc y)) ∧ Below w.heap.size w w' := by
  refine (put_any (w.heap.size + 1) _ 2 2 [x, y] _ rfl (by omega) (by intro z hz; simp at hz; omega) (by simp) (lies_new w [.int .u64 x, .int .u64 y] 29)).mono ?_
  rintro e w' ⟨v, rfl, ho, hb⟩
  rw [show encs [x, y] = enc x ++ enc y from by simp [encs]] at ho
  obtain ⟨A, c, rfl, _, _, _, hl, _⟩ := Lies.of_own ho
  exact ⟨A, _, c, rfl, rfl, hl, (below_alloc w _).trans (hb.mono (by simp))⟩

theorem lump_of (r : BRow) (B : Nat) (w : World) (hB : B ≤ w.heap.size) (hr : r.Ok w B) (hl : r.l.length ≤ 40) :
    Calls Try.prog 8 #[.slice r.A r.l.length r.c] w fun e w' =>
      ∃ A n c, e = .returned (.slice A n c) ∧ (enc r.l.length ++ r.l).length = n ∧ Lies w' w'.heap.size A (u8s (enc r.l.length ++ r.l)) ∧ (∀ b off, A = some ⟨b, off, none⟩ → w.heap.size ≤ b) ∧ Below w.heap.size w w' := by
  refine (putLump_any B r.A r.c _ r.l w rfl (by omega) hB hr.2.2).mono ?_
  rintro e w' ⟨v, rfl, ho, hb⟩
  obtain ⟨A, c, rfl, _, _, _, hl, hbl⟩ := Lies.of_own ho
  exact ⟨A, _, c, rfl, rfl, hl, fun b off e => (hbl b off e).1, hb⟩

theorem piece_bytes {k : Nat} {p : Nat × BRow} (h : IsBytes p.2.l) : IsBytes (piece k p) := ((enc_bytes _).append (enc_bytes _)).append ((enc_bytes _).append h)
theorem pre_bytes {k : Nat} {ns : List Nat} {rs : List BRow} (h : ∀ r ∈ rs, IsBytes r.l) (j : Nat) : IsBytes (pre k ns rs j) := fun u hu => by
  obtain ⟨p, hp, hu'⟩ := List.mem_flatMap.1 hu
  exact piece_bytes (h p.2 (List.of_mem_zip (List.mem_of_mem_take hp)).2) u hu'

/-- The lists up to place j are short. -/
def Short (rs : List BRow) (j : Nat) : Prop := ∀ i (h : i < rs.length), i < j → rs[i].l.length ≤ 40
theorem Short.step {rs : List BRow} {j : Nat} (h : Short rs j) (hj : j < rs.length) (hl : rs[j].l.length ≤ 40) : Short rs (j + 1) := fun i hi hij => by
  rcases Nat.lt_or_ge i j with h1 | h1
  · exact h i hi h1
  · obtain rfl : i = j := by omega
    exact hl

/-- What is left to read from place j on. -/
def post (k : Nat) (ns : List Nat) (rs : List BRow) (j : Nat) : List Int := pieces k ((ns.zip rs).drop j)

theorem post_at {k : Nat} {ns : List Nat} {rs : List BRow} {j : Nat} (h1 : j < ns.length) (h2 : j < rs.length) :
    post k ns rs j = enc (edgeN ns[j] k) ++ (enc ns[j] ++ (enc rs[j].l.length ++ (rs[j].l ++ post k ns rs (j + 1)))) := by
  have h : j < (ns.zip rs).length := by rw [List.length_zip]; omega
  unfold post
  rw [List.drop_eq_getElem_cons h, List.getElem_zip]
  simp only [pieces, List.flatMap_cons, piece, List.append_assoc]
theorem post_zero (k : Nat) (ns : List Nat) (rs : List BRow) (h : rs.length ≤ ns.length) : post k ns rs 0 = pre k ns rs rs.length := by
  unfold post pre
  rw [List.take_of_length_le (by rw [List.length_zip]; omega)]; rfl
theorem post_end (k : Nat) (ns : List Nat) (rs : List BRow) : post k ns rs rs.length = [] := by
  unfold post
  rw [List.drop_of_length_le (by rw [List.length_zip]; omega)]; rfl

theorem post_len (k : Nat) (ns : List Nat) (rs : List BRow) (j : Nat) : (post k ns rs j).length ≤ (post k ns rs 0).length := by
  have e : pieces k (ns.zip rs) = pieces k ((ns.zip rs).take j) ++ pieces k ((ns.zip rs).drop j) := by
    unfold pieces; rw [← List.flatMap_append, List.take_append_drop]
  unfold post
  rw [List.drop_zero, e, List.length_append]; omega

theorem rd_drew {w : World} {B g t : Nat} {st : RS} (h : Rd w B g t st) : Rd w.drew B g t st := ⟨h.le, h.blk, h.bytes⟩

/-- Four reads of a piece. -/
theorem read1 (y most : Nat) (rest : List Int) (hy : y ≤ 18446744073709551615) (hm : y ≤ most) : numR most (enc y ++ rest, 0) = (y, rest, 0) := numR_back y most rest hy hm

theorem new_n (B : Nat) (A : Option Addr) (c n : Nat) (l : List Int) (w : World) (hn : l.length = n) (hm : n ≤ 140737488355328) (hB : B ≤ w.heap.size) (hl : Lies w B A (u8s l)) (hb : IsBytes l) :
    Calls Try.prog 13 #[.slice A n c] w fun e w' =>
      ∃ g, e = .returned (.pointer (some ⟨g, 0, none⟩)) ∧ w.heap.size ≤ g ∧ Rd w' g g 50 (l, 0) ∧ Below w.heap.size w w' := by
  subst hn
  exact new_any B A c l w hm hB hl hb

/-- The cells that the first loop's statement reads, and that nothing that was there has changed. -/
structure Held (w0 : World) (a1 a2 : Addr) (v1 v2 : Value) (w : World) : Prop where
  c1 : w.cell? a1 = some v1
  c2 : w.cell? a2 = some v2
  b : Below w0.heap.size w0 w
  l1 : a1.block < w0.heap.size
  l2 : a2.block < w0.heap.size

theorem Held.step {w0 w w' : World} {a1 a2 : Addr} {v1 v2 : Value} (h : Held w0 a1 a2 v1 v2 w) (hb : Below w0.heap.size w w') : Held w0 a1 a2 v1 v2 w' :=
  ⟨(hb.cell h.l1).trans h.c1, (hb.cell h.l2).trans h.c2, h.b.trans hb, h.l1, h.l2⟩

/-! ### The statement that reads a piece back: its order is open -/
def pb16Val (g bN oN bL oL nl rl cN cL j k x ed : Nat) (r : BRow) : Nat → Value
  | 0 => .pointer (some ⟨g, 0, none⟩)
  | 1 => .int .u64 ed
  | 2 => .slice (some ⟨bN, oN, none⟩) nl cN
  | 3 => .int .i64 j
  | 4 => .pointer (some ⟨bN, oN + j, none⟩)
  | 5 => .int .u64 x
  | 6 => .int .u8 k
  | 7 => .int .u64 ed
  | 8 => .bool false
  | 9 => .bool false
  | 10 => .pointer (some ⟨g, 0, none⟩)
  | 11 => .slice (some ⟨bN, oN, none⟩) nl cN
  | 12 => .int .i64 j
  | 13 => .pointer (some ⟨bN, oN + j, none⟩)
  | 14 => .int .u64 x
  | 15 => .int .u64 x
  | 16 => .slice (some ⟨bN, oN, none⟩) nl cN
  | 17 => .int .i64 j
  | 18 => .pointer (some ⟨bN, oN + j, none⟩)
  | 19 => .int .u64 x
  | 20 => .bool false
  | 21 => .bool false
  | 22 => .bool false
  | 23 => .pointer (some ⟨g, 0, none⟩)
  | 25 => .string (strOfNums r.l)
  | 26 => .slice (some ⟨bL, oL, none⟩) rl cL
  | 27 => .int .i64 j
  | 28 => .pointer (some ⟨bL, oL + j, none⟩)
  | 29 => .slice r.A r.l.length r.c
  | 30 => .string (strOfNums r.l)
  | 31 => .bool false
  | 32 => .bool false
  | 33 => .bool false
  | 34 => .pointer (some ⟨g, 0, none⟩)
  | 35 => .int .i64 0
  | 36 => .bool false
  | 37 => .bool false
  | _ => undef


/-- A list of bytes that lies in memory, away from the reader. -/
def LumpKnown (g : Nat) (l : List Int) (_ : Nat) (v : Value) (w : World) : Prop :=
  ∃ A c, v = .slice A l.length c ∧ Lies w w.heap.size A (u8s l) ∧ ∀ b off, A = some ⟨b, off, none⟩ → b ≠ g
theorem LumpKnown.grown {g i : Nat} {l : List Int} {v : Value} {w w' : World} (h : LumpKnown g l i v w) (hg : w.grownBy w' (some g)) : LumpKnown g l i v w' := by
  obtain ⟨A, c, h1, h2, h3⟩ := h
  exact ⟨A, c, h1, h2.grown hg (fun b off e he => h3 b off e (by injection he)), h3⟩
theorem known_grown {val : Nat → Value} {g i : Nat} {l : List Int} {sp : List Nat} {v : Value} {w w' : World} (h : Reg.Known val (LumpKnown g l) sp i v w) (hg : w.grownBy w' (some g)) : Reg.Known val (LumpKnown g l) sp i v w' :=
  ⟨h.plain, fun e => (h.other e).grown hg⟩
theorem grown_any {w w' : World} {g : Nat} (h : Below w.heap.size w w') : w.grownBy w' (some g) := ⟨h.os, h.tape, h.output, h.size, fun k hk _ => h.block k hk⟩

def stt (l0 l1 l2 l3 : List Int) : Nat → List Int
  | 0 => l0
  | 1 => l1
  | 2 => l1
  | 3 => l1
  | 4 => l2
  | 5 => l2
  | _ => l3

structure Phase (w0 : World) (a1 a2 : Addr) (v1 v2 : Value) (g : Nat) (l0 l1 l2 l3 : List Int) (k : Nat) (w : World) : Prop where
  held : Held w0 a1 a2 v1 v2 w
  rd : Rd w g g 50 (stt l0 l1 l2 l3 k, 0)

theorem Held.drew {w0 w : World} {a1 a2 : Addr} {v1 v2 : Value} (h : Held w0 a1 a2 v1 v2 w) : Held w0 a1 a2 v1 v2 w.drew := ⟨h.c1, h.c2, h.b.drew, h.l1, h.l2⟩

set_option maxRecDepth 100000 in
set_option maxHeartbeats 4000000 in
theorem walk (AN AL : Option Addr) (cN cL k : Nat) (ns : List Nat) (rs : List BRow) (w : World) (hk : k ≤ 255) (hns : IsNums ns) (hnm : ns.length ≤ maxLen) (hrm : rs.length ≤ maxLen)
    (hN : Lies w w.heap.size AN (u64s ns)) (hL : Lies w w.heap.size AL (rs.map BRow.hdr)) (hrs : ∀ r ∈ rs, r.Ok w w.heap.size) :
    Calls Try.prog 4 #[.slice AN ns.length cN, .slice AL rs.length cL, .int .u8 k] w fun e w' => e = .returned (.bool true) ∧ Below w.heap.size w w' := by
  unfold maxLen at hnm hrm
  have HNS := Lib.hid hns; clear hns
  have HN := Lib.hid hN; clear hN
  have HL := Lib.hid hL; clear hL
  have HRS := Lib.hid hrs; clear hrs
  by_cases hbig : 8 < rs.length ∨ ns.length < rs.length
  · have HB := Lib.hid hbig
    go_enter Try.func4, Try.ntmps4
    go_wp2_with fail
    refine (known_any w).mono ?_
    rintro e w1 ⟨rfl, B1⟩
    rcases HB.out with h8 | h8
    all_goals
      go_wp2_with fail
      all_goals first | (go_ret; exact ⟨rfl, B1⟩) | omega
  · have h8 : rs.length ≤ 8 := by omega
    have hle : rs.length ≤ ns.length := by omega
    clear hbig
    have hd8 : decide (8 < (rs.length : Int)) = false := by simp; omega
    have hd9 : decide (ns.length < rs.length) = false := by simp; omega
    go_enter Try.func4, Try.ntmps4
    go_wp2_with fail
    refine (known_any w).mono ?_
    rintro e w1 ⟨rfl, B1⟩
    go_wp2_with fail
    go_loopw [7, 8] (fun vb i wr => ∃ j : Nat, j ≤ rs.length ∧ i = .int .i64 j ∧ (pre k ns rs j).length ≤ 70 * j ∧ Short rs j ∧ wr.ownsRow w.heap.size 5 1 vb (pre k ns rs j).length (u8s (pre k ns rs j)) ∧ Below w.heap.size w wr) (fun _ i _ => rs.length - (intOf i).toNat)
    case atStart => exact ⟨0, by omega, rfl, Nat.zero_le _, (fun i _ h => by omega), World.ownsRow_nil _ _ _ _, B1⟩
    case round =>
      obtain ⟨j, hj, rfl, hpl, hsho, ho, hb⟩ := hrel
      have hsz := hb.size
      by_cases hlt : j < rs.length
      · have hx := HNS.out ns[j] (List.getElem_mem (by omega))
        have hr := HRS.out rs[j] (List.getElem_mem hlt)
        obtain ⟨bN, oN, rfl, hbN, hcN⟩ := HN.out.cell (k := j) (by simp [u64s]; omega)
        obtain ⟨bL, oL, rfl, hbL, hcL⟩ := HL.out.cell (k := j) (by simpa using hlt)
        have c1 : wr.cell? ⟨bN, oN + j, none⟩ = some (.int .u64 (ns[j] : Nat)) := by rw [hb.cell (p := ⟨bN, oN + j, none⟩) hbN, hcN]; simp [u64s]
        have c2 : wr.cell? ⟨bL, oL + j, none⟩ = some (.slice rs[j].A rs[j].l.length rs[j].c) := by rw [hb.cell (p := ⟨bL, oL + j, none⟩) hbL, hcL]; simp [BRow.hdr]
        have hst := fun hl40 => pre_step (k := k) (j := j) (by omega) hlt HNS.out hl40 hpl
        have hsh2 := fun hl40 => hsho.step hlt hl40
        have hsu := pre_succ (k := k) (ns := ns) (rs := rs) (j := j) (by omega) hlt
        clear hcN hcL
        generalize ns[j] = x at *
        generalize rs[j] = r at *
        have HSU := Lib.hid hsu; clear hsu
        have HST := Lib.hid hst; clear hst
        have HSH := Lib.hid hsh2; clear hsh2 hsho
        have HR := Lib.hid hr; clear hr
        have HO := Lib.hid ho; clear ho
        have HX := Lib.hid hx; clear hx
        have HH := Lib.hid (show Held w ⟨bN, oN + j, none⟩ ⟨bL, oL + j, none⟩ (.int .u64 x) (.slice r.A r.l.length r.c) wr from ⟨c1, c2, hb, hbN, hbL⟩)
        by_cases h40 : 40 < r.l.length
        · go_wp2_with fail
          go_ret
          exact ⟨rfl, hb⟩
        · have h40' : r.l.length ≤ 40 := by omega
          have hxl := (enc_length_le x (by have := HX.out; omega)).2
          have hel := (enc_length_le (edgeN x k) (by have := edgeN_le x k HX.out; omega)).2
          have hrl := (enc_length_le r.l.length (by omega)).2
          have HEL := Lib.hid hel; clear hel
          have hjn : (j : Int) < (ns.length : Int) := by omega
          have hjl : (j : Int) < (rs.length : Int) := by omega
          go_wp2_with fail
          go_region_held3 (fun w' => w'.cell? ⟨bN, oN + j, none⟩ = some (.int .u64 x) ∧ w'.cell? ⟨bL, oL + j, none⟩ = some (.slice r.A r.l.length r.c))
            (first | exact ⟨HH.out.c1, HH.out.c2⟩ | exact ⟨hH.c1, hH.c2⟩ | exact ⟨(hH.step ((below_alloc _ _).mono hH.b.size)).c1, (hH.step ((below_alloc _ _).mono hH.b.size)).c2⟩)
            (first
              | (go_at_call 12; refine (edge_any x k _ HX.out hk).mono ?_; rintro e wA ⟨rfl, hbA⟩; have hH := HH.out.step (below_undrew (hbA.mono hsz)); have oA := own_below HO.out (below_undrew hbA))
              | (go_at_call 10; refine (put_two (edgeN x k) x _ (edgeN_le x k HX.out) HX.out).mono ?_; rintro e wP ⟨AP, nP, cP, rfl, hnP, hlP, hbP⟩; have oP := own_below oA hbP; have hH := hH.step (hbP.mono hH.b.size))
              | (go_at_call 8; refine (lump_of r w.heap.size _ hH.b.size (HR.out.below hH.b) h40').mono ?_; rintro e wL ⟨AL', nL, cL', rfl, hnL, hlL, hfL, hbL⟩; (first | (have oQ := own_below oQ hbL; have hH := hH.step (hbL.mono hH.b.size)) | (have oP0 := oP; have oP := own_below oP hbL; have hlP := hlP.below hbL; have hH := hH.step (hbL.mono hH.b.size))))
              | (refine step_append_bytes rfl (.tmp 35) (.tmp 47) rfl w.heap.size _ _ _ rfl oP _ AP nP cP (enc (edgeN x k) ++ enc x) rfl hnP hlP ?_ hH.b.size ?_; (rw [← hnP, List.length_append]; have := HEL.out; omega); intro vQ wQ oQ bQ gQ; (first | (have hlL := hlL.grown gQ (fun b off e he => by have h1 := hfL b off e; have h2 := (oP0.lt b he.symm).2; omega)) | skip); have hH := hH.step bQ)
              | (refine step_append_bytes rfl (.tmp 48) (.tmp 53) rfl w.heap.size _ _ _ rfl oQ _ AL' nL cL' (enc r.l.length ++ r.l) rfl hnL hlL ?_ hH.b.size ?_; (rw [← hnP, ← hnL, List.length_append, List.length_append]; have := HEL.out; omega); intro vR wR oR bR gR; have hH := hH.step bR))
          have HoR := Lib.hid oR; clear oR
          have HbR := Lib.hid hH.b
          clear hH
          go_wp2_with fail
          go_roundw
          case rel =>
            refine ⟨j + 1, by omega, by go_num, HST.out h40', HSH.out h40', ?_, HbR.out⟩
            have e : (pre k ns rs (j + 1)).length = (pre k ns rs j).length + nP + nL := by
              rw [HSU.out, piece, List.length_append, List.length_append, hnP, hnL, Nat.add_assoc]
            rw [e, HSU.out, piece]
            simpa [u8s, Nat.add_assoc] using HoR.out
          case measure => simp [intOf]; omega
      · obtain rfl : j = rs.length := by omega
        obtain ⟨A, c, rfl, hc1, hc2, _, hl, _⟩ := Lies.of_own ho
        have hbytes := pre_bytes (k := k) (ns := ns) (fun r hr => (HRS.out r hr).2.1) rs.length
        have HBY := Lib.hid hbytes; clear hbytes
        have HL2 := Lib.hid hl; clear hl ho
        go_wp2_with (go_at_call 13; go_must (refine (new_n wr.heap.size A c _ _ wr rfl (by omega) (Nat.le_refl _) HL2.out HBY.out).mono ?_); rintro e w2 ⟨g, rfl, hg, R2, hb2⟩)
        have HR2 := Lib.hid (show Rd w2 g g 50 (post k ns rs 0, 0) from by rw [post_zero k ns rs hle]; exact R2); clear R2
        have hb2' := hb.trans (hb2.mono hsz)
        have hwg : w.heap.size ≤ g := by omega
        have HPL := Lib.hid (show ∀ j, (post k ns rs j).length ≤ 560 from fun j => by have := post_len k ns rs j; rw [post_zero k ns rs hle] at this; omega)
        clear hb2 hb
        go_loopw [10] (fun i wr => ∃ j : Nat, j ≤ rs.length ∧ i = .int .i64 j ∧ Rd wr g g 50 (post k ns rs j, 0) ∧ Below w.heap.size w wr) (fun i _ => rs.length - (intOf i).toNat)
        case atStart => exact ⟨0, by omega, rfl, HR2.out, hb2'⟩
        case round =>
          obtain ⟨j, hj, rfl, hrd, hb⟩ := hrel
          have hsz2 := hb.size
          by_cases hlt : j < rs.length
          · have hx := HNS.out ns[j] (List.getElem_mem (by omega))
            have hr := HRS.out rs[j] (List.getElem_mem hlt)
            have hrm2 : rs[j].l.length ≤ 40 := hsho j hlt hlt
            obtain ⟨bN, oN, rfl, hbN, hcN⟩ := HN.out.cell (k := j) (by simp [u64s]; omega)
            obtain ⟨bL, oL, rfl, hbL, hcL⟩ := HL.out.cell (k := j) (by simpa using hlt)
            have c1 : wr.cell? ⟨bN, oN + j, none⟩ = some (.int .u64 (ns[j] : Nat)) := by rw [hb.cell (p := ⟨bN, oN + j, none⟩) hbN, hcN]; simp [u64s]
            have c2 : wr.cell? ⟨bL, oL + j, none⟩ = some (.slice rs[j].A rs[j].l.length rs[j].c) := by rw [hb.cell (p := ⟨bL, oL + j, none⟩) hbL, hcL]; simp [BRow.hdr]
            have hpl := HPL.out j
            rw [post_at (by omega) hlt] at hrd hpl
            clear hcN hcL
            generalize ns[j] = x at *
            generalize rs[j] = r at *
            generalize hrest : post k ns rs (j + 1) = rest at *
            have HRE := Lib.hid hrest; clear hrest
            have he := edgeN_le x k hx
            have HX := Lib.hid hx
            have HE := Lib.hid he
            have HR := Lib.hid hr; clear hr
            have hH := (show Held w ⟨bN, oN + j, none⟩ ⟨bL, oL + j, none⟩ (.int .u64 x) (.slice r.A r.l.length r.c) wr from ⟨c1, c2, hb, hbN, hbL⟩)
            have HH := Lib.hid hH; clear hH
            have HRD := Lib.hid hrd; clear hrd
            have HLN := Lib.hid (show (enc r.l.length ++ (r.l ++ rest)).length ≤ 140737488355328 from by simp only [List.length_append] at hpl ⊢; omega)
            clear hpl
            have hjn : (j : Int) < (ns.length : Int) := by omega
            have hjl : (j : Int) < (rs.length : Int) := by omega
            generalize hed : edgeN x k = ed at *
            have HED := Lib.hid hed; clear hed
            obtain ⟨rest2, hr2⟩ : ∃ q, q = enc r.l.length ++ (r.l ++ rest) := ⟨_, rfl⟩
            obtain ⟨rest1, hr1⟩ : ∃ q, q = enc x ++ rest2 := ⟨_, rfl⟩
            obtain ⟨rest0, hr0⟩ : ∃ q, q = enc ed ++ rest1 := ⟨_, rfl⟩
            rw [← hr2, ← hr1, ← hr0] at HRD
            have R2 := Lib.hid hr2; clear hr2
            have R1 := Lib.hid hr1; clear hr1
            have R0 := Lib.hid hr0; clear hr0
            go_wp2_with fail
            refine Reg.wp_facts_sl [63, 64, 65, 66, 67, 68, 69, 70, 71, 72, 73, 74, 75, 76, 77, 78, 79, 80, 81, 82, 83, 84, 85, 86, 87, 88, 89, 90, 91, 92, 93, 94, 95, 96, 97, 98, 99, 100] rfl [1, 7, 9, 15, 22, 24] [[], [(0, 63)], [], [], [(2, 65), (3, 66)], [(4, 67)], [], [(5, 68), (6, 69)], [(1, 64), (7, 70)], [(8, 71)], [], [], [], [(11, 74), (12, 75)], [(13, 76)], [(10, 73), (14, 77)], [], [], [(16, 79), (17, 80)], [(18, 81)], [(15, 78), (19, 82)], [(9, 72), (20, 83)], [(21, 84)], [], [(23, 86)], [(24, 87)], [], [], [(26, 89), (27, 90)], [(28, 91)], [(29, 92)], [(25, 88), (30, 93)], [(22, 85), (31, 94)], [(32, 95)], [], [(34, 97)], [(35, 98)], [(33, 96), (36, 99)]] [(37, 100)] (Reg.Known (pb16Val g bN oN bL oL ns.length rs.length cN cL j k x ed r) (LumpKnown g r.l) [24]) (Phase w ⟨bN, oN + j, none⟩ ⟨bL, oL + j, none⟩ (.int .u64 x) (.slice r.A r.l.length r.c) g rest0 rest1 rest2 rest) (by kernel_rfl) (by kernel_rfl) ?start ?steps ?finish
            case start => exact ⟨HH.out.drew, rd_drew HRD.out⟩
            case steps =>
              refine Reg.Steps.zip ?_ ?_
              · refine Reg.step_go rfl ?_
                intro a wi ki hf hd hS hc K hK
                have f9 : a.tmps.getD 9 undef = .pointer (some ⟨g, 0, none⟩) := hf.same 9 rfl
                clear hf hd hc
                have hK0 := Lib.hid hK; clear hK
                have hS0 := Lib.hid hS; clear hS
                go_simp
                exact hK0.out _ _ (Reg.Known.mk_val rfl rfl) (fun _ _ h => h) hS0.out
              refine Reg.Steps.zip ?_ ?_
              · refine Reg.step_go rfl ?_
                intro a wi ki hf hd hS hc K hK
                have e63 : a.tmps.getD 63 undef = .pointer (some ⟨g, 0, none⟩) := hd.1.plain rfl
                clear hf hd
                obtain rfl := hc 0 rfl
                have HS := Lib.hid hS; clear hS
                have hK0 := Lib.hid hK; clear hK hc
                go_simp
                refine (num_int g g _ 18446744073709551615 _ (by omega) (by omega) HS.out.rd).mono ?_
                rw [show stt rest0 rest1 rest2 rest 0 = enc ed ++ rest1 from R0.out, numR_back ed (18446744073709551615 : Int).toNat _ HE.out (by have := HE.out; omega)]
                rintro e wA ⟨rfl, hR, gA⟩
                exact hK0.out _ _ (Reg.Known.mk_val rfl rfl) (fun i u h => known_grown h gA) ⟨HS.out.held.step (below_of_grown gA hwg HS.out.held.b.size), hR⟩
              refine Reg.Steps.zip ?_ ?_
              · refine Reg.step_go rfl ?_
                intro a wi ki hf hd hS hc K hK
                have f0 : a.tmps.getD 0 undef = .slice (some ⟨bN, oN, none⟩) ns.length cN := hf.same 0 rfl
                clear hf hd hc
                have hK0 := Lib.hid hK; clear hK
                have hS0 := Lib.hid hS; clear hS
                go_simp
                exact hK0.out _ _ (Reg.Known.mk_val rfl rfl) (fun _ _ h => h) hS0.out
              refine Reg.Steps.zip ?_ ?_
              · refine Reg.step_go rfl ?_
                intro a wi ki hf hd hS hc K hK
                have f10 : a.tmps.getD 10 undef = .int .i64 j := hf.same 10 rfl
                clear hf hd hc
                have hK0 := Lib.hid hK; clear hK
                have hS0 := Lib.hid hS; clear hS
                go_simp
                exact hK0.out _ _ (Reg.Known.mk_val rfl rfl) (fun _ _ h => h) hS0.out
              refine Reg.Steps.zip ?_ ?_
              · refine Reg.step_go rfl ?_
                intro a wi ki hf hd hS hc K hK
                have e65 : a.tmps.getD 65 undef = .slice (some ⟨bN, oN, none⟩) ns.length cN := hd.1.plain rfl
                have e66 : a.tmps.getD 66 undef = .int .i64 j := hd.2.1.plain rfl
                clear hf hd hc
                have hK0 := Lib.hid hK; clear hK
                have hS0 := Lib.hid hS; clear hS
                go_simp
                exact hK0.out _ _ (Reg.Known.mk_val rfl rfl) (fun _ _ h => h) hS0.out
              refine Reg.Steps.zip ?_ ?_
              · refine Reg.step_go rfl ?_
                intro a wi ki hf hd hS hc K hK
                have e67 : a.tmps.getD 67 undef = .pointer (some ⟨bN, oN + j, none⟩) := hd.1.plain rfl
                clear hf hd hc
                have cc := hS.held.c1
                have hK0 := Lib.hid hK; clear hK
                have hS0 := Lib.hid hS; clear hS
                go_simp
                exact hK0.out _ _ (Reg.Known.mk_val rfl rfl) (fun _ _ h => h) hS0.out
              refine Reg.Steps.zip ?_ ?_
              · refine Reg.step_go rfl ?_
                intro a wi ki hf hd hS hc K hK
                have f2 : a.tmps.getD 2 undef = .int .u8 k := hf.same 2 rfl
                clear hf hd hc
                have hK0 := Lib.hid hK; clear hK
                have hS0 := Lib.hid hS; clear hS
                go_simp
                exact hK0.out _ _ (Reg.Known.mk_val rfl rfl) (fun _ _ h => h) hS0.out
              refine Reg.Steps.zip ?_ ?_
              · refine Reg.step_go rfl ?_
                intro a wi ki hf hd hS hc K hK
                have e68 : a.tmps.getD 68 undef = .int .u64 x := hd.1.plain rfl
                have e69 : a.tmps.getD 69 undef = .int .u8 k := hd.2.1.plain rfl
                clear hf hd
                obtain rfl := hc 1 rfl
                have HS := Lib.hid hS; clear hS
                have hK0 := Lib.hid hK; clear hK hc
                go_simp
                refine (edge_any x k _ HX.out hk).mono ?_
                rw [HED.out]
                rintro e wA ⟨rfl, hbA⟩
                exact hK0.out _ _ (Reg.Known.mk_val rfl rfl) (fun i u h => known_grown h (grown_any hbA)) ⟨HS.out.held.step (hbA.mono HS.out.held.b.size), HS.out.rd.below hbA⟩
              refine Reg.Steps.zip ?_ ?_
              · refine Reg.step_go rfl ?_
                intro a wi ki hf hd hS hc K hK
                have e64 : a.tmps.getD 64 undef = .int .u64 ed := hd.1.plain rfl
                have e70 : a.tmps.getD 70 undef = .int .u64 ed := hd.2.1.plain rfl
                clear hf hd hc
                have hK0 := Lib.hid hK; clear hK
                have hS0 := Lib.hid hS; clear hS
                go_simp
                exact hK0.out _ _ (Reg.Known.mk_val rfl rfl) (fun _ _ h => h) hS0.out
              refine Reg.Steps.zip ?_ ?_
              · refine Reg.step_go rfl ?_
                intro a wi ki hf hd hS hc K hK
                have e71 : a.tmps.getD 71 undef = .bool false := hd.1.plain rfl
                obtain rfl := hc 2 rfl
                clear hf hd hc
                have hK0 := Lib.hid hK; clear hK
                have hS0 := Lib.hid hS; clear hS
                go_simp
                exact hK0.out _ _ (Reg.Known.mk_val rfl rfl) (fun _ _ h => h) ⟨hS0.out.held, hS0.out.rd⟩
              refine Reg.Steps.zip ?_ ?_
              · refine Reg.step_on rfl (fun u w h => h.plain rfl) ?_
                intro a wi ki hf hd hS hc K hK
                have f9 : a.tmps.getD 9 undef = .pointer (some ⟨g, 0, none⟩) := hf.same 9 rfl
                clear hf hd hc
                have hK0 := Lib.hid hK; clear hK
                have hS0 := Lib.hid hS; clear hS
                go_simp
                exact hK0.out _ _ (Reg.Known.mk_val rfl rfl) (fun _ _ h => h) hS0.out
              refine Reg.Steps.zip ?_ ?_
              · refine Reg.step_on rfl (fun u w h => h.plain rfl) ?_
                intro a wi ki hf hd hS hc K hK
                have f0 : a.tmps.getD 0 undef = .slice (some ⟨bN, oN, none⟩) ns.length cN := hf.same 0 rfl
                clear hf hd hc
                have hK0 := Lib.hid hK; clear hK
                have hS0 := Lib.hid hS; clear hS
                go_simp
                exact hK0.out _ _ (Reg.Known.mk_val rfl rfl) (fun _ _ h => h) hS0.out
              refine Reg.Steps.zip ?_ ?_
              · refine Reg.step_on rfl (fun u w h => h.plain rfl) ?_
                intro a wi ki hf hd hS hc K hK
                have f10 : a.tmps.getD 10 undef = .int .i64 j := hf.same 10 rfl
                clear hf hd hc
                have hK0 := Lib.hid hK; clear hK
                have hS0 := Lib.hid hS; clear hS
                go_simp
                exact hK0.out _ _ (Reg.Known.mk_val rfl rfl) (fun _ _ h => h) hS0.out
              refine Reg.Steps.zip ?_ ?_
              · refine Reg.step_on rfl (fun u w h => h.plain rfl) ?_
                intro a wi ki hf hd hS hc K hK
                have e74 : a.tmps.getD 74 undef = .slice (some ⟨bN, oN, none⟩) ns.length cN := hd.1.plain rfl
                have e75 : a.tmps.getD 75 undef = .int .i64 j := hd.2.1.plain rfl
                clear hf hd hc
                have hK0 := Lib.hid hK; clear hK
                have hS0 := Lib.hid hS; clear hS
                go_simp
                exact hK0.out _ _ (Reg.Known.mk_val rfl rfl) (fun _ _ h => h) hS0.out
              refine Reg.Steps.zip ?_ ?_
              · refine Reg.step_on rfl (fun u w h => h.plain rfl) ?_
                intro a wi ki hf hd hS hc K hK
                have e76 : a.tmps.getD 76 undef = .pointer (some ⟨bN, oN + j, none⟩) := hd.1.plain rfl
                clear hf hd hc
                have cc := hS.held.c1
                have hK0 := Lib.hid hK; clear hK
                have hS0 := Lib.hid hS; clear hS
                go_simp
                exact hK0.out _ _ (Reg.Known.mk_val rfl rfl) (fun _ _ h => h) hS0.out
              refine Reg.Steps.zip ?_ ?_
              · refine Reg.step_on rfl (fun u w h => h.plain rfl) ?_
                intro a wi ki hf hd hS hc K hK
                have e73 : a.tmps.getD 73 undef = .pointer (some ⟨g, 0, none⟩) := hd.1.plain rfl
                have e77 : a.tmps.getD 77 undef = .int .u64 x := hd.2.1.plain rfl
                clear hf hd
                obtain rfl := hc 3 rfl
                have HS := Lib.hid hS; clear hS
                have hK0 := Lib.hid hK; clear hK hc
                go_simp
                refine (num_int g g _ x _ (by omega) (by have := HX.out; omega) HS.out.rd).mono ?_
                rw [show stt rest0 rest1 rest2 rest 3 = enc x ++ rest2 from R1.out, numR_back x (x : Int).toNat _ HX.out (by omega)]
                rintro e wA ⟨rfl, hR, gA⟩
                exact hK0.out _ _ (Reg.Known.mk_val rfl rfl) (fun i u h => known_grown h gA) ⟨HS.out.held.step (below_of_grown gA hwg HS.out.held.b.size), hR⟩
              refine Reg.Steps.zip ?_ ?_
              · refine Reg.step_on rfl (fun u w h => h.plain rfl) ?_
                intro a wi ki hf hd hS hc K hK
                have f0 : a.tmps.getD 0 undef = .slice (some ⟨bN, oN, none⟩) ns.length cN := hf.same 0 rfl
                clear hf hd hc
                have hK0 := Lib.hid hK; clear hK
                have hS0 := Lib.hid hS; clear hS
                go_simp
                exact hK0.out _ _ (Reg.Known.mk_val rfl rfl) (fun _ _ h => h) hS0.out
              refine Reg.Steps.zip ?_ ?_
              · refine Reg.step_on rfl (fun u w h => h.plain rfl) ?_
                intro a wi ki hf hd hS hc K hK
                have f10 : a.tmps.getD 10 undef = .int .i64 j := hf.same 10 rfl
                clear hf hd hc
                have hK0 := Lib.hid hK; clear hK
                have hS0 := Lib.hid hS; clear hS
                go_simp
                exact hK0.out _ _ (Reg.Known.mk_val rfl rfl) (fun _ _ h => h) hS0.out
              refine Reg.Steps.zip ?_ ?_
              · refine Reg.step_on rfl (fun u w h => h.plain rfl) ?_
                intro a wi ki hf hd hS hc K hK
                have e79 : a.tmps.getD 79 undef = .slice (some ⟨bN, oN, none⟩) ns.length cN := hd.1.plain rfl
                have e80 : a.tmps.getD 80 undef = .int .i64 j := hd.2.1.plain rfl
                clear hf hd hc
                have hK0 := Lib.hid hK; clear hK
                have hS0 := Lib.hid hS; clear hS
                go_simp
                exact hK0.out _ _ (Reg.Known.mk_val rfl rfl) (fun _ _ h => h) hS0.out
              refine Reg.Steps.zip ?_ ?_
              · refine Reg.step_on rfl (fun u w h => h.plain rfl) ?_
                intro a wi ki hf hd hS hc K hK
                have e81 : a.tmps.getD 81 undef = .pointer (some ⟨bN, oN + j, none⟩) := hd.1.plain rfl
                clear hf hd hc
                have cc := hS.held.c1
                have hK0 := Lib.hid hK; clear hK
                have hS0 := Lib.hid hS; clear hS
                go_simp
                exact hK0.out _ _ (Reg.Known.mk_val rfl rfl) (fun _ _ h => h) hS0.out
              refine Reg.Steps.zip ?_ ?_
              · refine Reg.step_on rfl (fun u w h => h.plain rfl) ?_
                intro a wi ki hf hd hS hc K hK
                have e78 : a.tmps.getD 78 undef = .int .u64 x := hd.1.plain rfl
                have e82 : a.tmps.getD 82 undef = .int .u64 x := hd.2.1.plain rfl
                clear hf hd hc
                have hK0 := Lib.hid hK; clear hK
                have hS0 := Lib.hid hS; clear hS
                go_simp
                exact hK0.out _ _ (Reg.Known.mk_val rfl rfl) (fun _ _ h => h) hS0.out
              refine Reg.Steps.zip ?_ ?_
              · refine Reg.step_go rfl ?_
                intro a wi ki hf hd hS hc K hK
                have e72 : a.tmps.getD 72 undef = .bool false := hd.1.plain rfl
                have e83 : a.tmps.getD 83 undef = .bool false := hd.2.1.plain rfl
                clear hf hd hc
                have hK0 := Lib.hid hK; clear hK
                have hS0 := Lib.hid hS; clear hS
                go_simp
                exact hK0.out _ _ (Reg.Known.mk_val rfl rfl) (fun _ _ h => h) hS0.out
              refine Reg.Steps.zip ?_ ?_
              · refine Reg.step_go rfl ?_
                intro a wi ki hf hd hS hc K hK
                have e84 : a.tmps.getD 84 undef = .bool false := hd.1.plain rfl
                obtain rfl := hc 4 rfl
                clear hf hd hc
                have hK0 := Lib.hid hK; clear hK
                have hS0 := Lib.hid hS; clear hS
                go_simp
                exact hK0.out _ _ (Reg.Known.mk_val rfl rfl) (fun _ _ h => h) ⟨hS0.out.held, hS0.out.rd⟩
              refine Reg.Steps.zip ?_ ?_
              · refine Reg.step_on rfl (fun u w h => h.plain rfl) ?_
                intro a wi ki hf hd hS hc K hK
                have f9 : a.tmps.getD 9 undef = .pointer (some ⟨g, 0, none⟩) := hf.same 9 rfl
                clear hf hd hc
                have hK0 := Lib.hid hK; clear hK
                have hS0 := Lib.hid hS; clear hS
                go_simp
                exact hK0.out _ _ (Reg.Known.mk_val rfl rfl) (fun _ _ h => h) hS0.out
              refine Reg.Steps.zip ?_ ?_
              · refine Reg.step_on rfl (fun u w h => h.plain rfl) ?_
                intro a wi ki hf hd hS hc K hK
                have e86 : a.tmps.getD 86 undef = .pointer (some ⟨g, 0, none⟩) := hd.1.plain rfl
                clear hf hd
                obtain rfl := hc 5 rfl
                have HS := Lib.hid hS; clear hS
                have hK0 := Lib.hid hK; clear hK hc
                go_simp
                refine (lump_any g g _ 40 _ (by omega) (by rw [show stt rest0 rest1 rest2 rest 5 = enc r.l.length ++ (r.l ++ rest) from R2.out]; exact HLN.out) HS.out.rd).mono ?_
                rw [show stt rest0 rest1 rest2 rest 5 = enc r.l.length ++ (r.l ++ rest) from R2.out, lumpR_back r.l rest 40 (by omega) (by omega)]
                rintro e wA ⟨vL, rfl, hoL, hR, gA⟩
                obtain ⟨AL', cL', rfl, _, _, _, hlL, hbl⟩ := Lies.of_own hoL
                exact hK0.out _ _ (Reg.Known.mk_other rfl ⟨AL', cL', rfl, hlL, fun b off e => by have := (hbl b off e).1; have := HS.out.rd.lt; omega⟩) (fun i u h => known_grown h gA) ⟨HS.out.held.step (below_of_grown gA hwg HS.out.held.b.size), hR⟩
              refine Reg.Steps.zip ?_ ?_
              · refine Reg.step_on rfl (fun u w h => h.plain rfl) ?_
                intro a wi ki hf hd hS hc K hK
                have x87 := hd.1.other rfl
                clear hf hd hc
                obtain ⟨A87, c87, e87, hl87, _⟩ := x87
                have cv := conv_bytes rfl hl87 c87
                have hK0 := Lib.hid hK; clear hK
                have hS0 := Lib.hid hS; clear hS
                go_simp
                exact hK0.out _ _ (Reg.Known.mk_val rfl rfl) (fun _ _ h => h) hS0.out
              refine Reg.Steps.zip ?_ ?_
              · refine Reg.step_on rfl (fun u w h => h.plain rfl) ?_
                intro a wi ki hf hd hS hc K hK
                have f1 : a.tmps.getD 1 undef = .slice (some ⟨bL, oL, none⟩) rs.length cL := hf.same 1 rfl
                clear hf hd hc
                have hK0 := Lib.hid hK; clear hK
                have hS0 := Lib.hid hS; clear hS
                go_simp
                exact hK0.out _ _ (Reg.Known.mk_val rfl rfl) (fun _ _ h => h) hS0.out
              refine Reg.Steps.zip ?_ ?_
              · refine Reg.step_on rfl (fun u w h => h.plain rfl) ?_
                intro a wi ki hf hd hS hc K hK
                have f10 : a.tmps.getD 10 undef = .int .i64 j := hf.same 10 rfl
                clear hf hd hc
                have hK0 := Lib.hid hK; clear hK
                have hS0 := Lib.hid hS; clear hS
                go_simp
                exact hK0.out _ _ (Reg.Known.mk_val rfl rfl) (fun _ _ h => h) hS0.out
              refine Reg.Steps.zip ?_ ?_
              · refine Reg.step_on rfl (fun u w h => h.plain rfl) ?_
                intro a wi ki hf hd hS hc K hK
                have e89 : a.tmps.getD 89 undef = .slice (some ⟨bL, oL, none⟩) rs.length cL := hd.1.plain rfl
                have e90 : a.tmps.getD 90 undef = .int .i64 j := hd.2.1.plain rfl
                clear hf hd hc
                have hK0 := Lib.hid hK; clear hK
                have hS0 := Lib.hid hS; clear hS
                go_simp
                exact hK0.out _ _ (Reg.Known.mk_val rfl rfl) (fun _ _ h => h) hS0.out
              refine Reg.Steps.zip ?_ ?_
              · refine Reg.step_on rfl (fun u w h => h.plain rfl) ?_
                intro a wi ki hf hd hS hc K hK
                have e91 : a.tmps.getD 91 undef = .pointer (some ⟨bL, oL + j, none⟩) := hd.1.plain rfl
                clear hf hd hc
                have cc := hS.held.c2
                have hK0 := Lib.hid hK; clear hK
                have hS0 := Lib.hid hS; clear hS
                go_simp
                exact hK0.out _ _ (Reg.Known.mk_val rfl rfl) (fun _ _ h => h) hS0.out
              refine Reg.Steps.zip ?_ ?_
              · refine Reg.step_on rfl (fun u w h => h.plain rfl) ?_
                intro a wi ki hf hd hS hc K hK
                have e92 : a.tmps.getD 92 undef = .slice r.A r.l.length r.c := hd.1.plain rfl
                clear hf hd hc
                have cv := conv_bytes rfl ((HR.out.below hS.held.b).2.2) r.c
                have hK0 := Lib.hid hK; clear hK
                have hS0 := Lib.hid hS; clear hS
                go_simp
                exact hK0.out _ _ (Reg.Known.mk_val rfl rfl) (fun _ _ h => h) hS0.out
              refine Reg.Steps.zip ?_ ?_
              · refine Reg.step_on rfl (fun u w h => h.plain rfl) ?_
                intro a wi ki hf hd hS hc K hK
                have e88 : a.tmps.getD 88 undef = .string (strOfNums r.l) := hd.1.plain rfl
                have e93 : a.tmps.getD 93 undef = .string (strOfNums r.l) := hd.2.1.plain rfl
                clear hf hd hc
                have hK0 := Lib.hid hK; clear hK
                have hS0 := Lib.hid hS; clear hS
                go_simp
                exact hK0.out _ _ (Reg.Known.mk_val rfl rfl) (fun _ _ h => h) hS0.out
              refine Reg.Steps.zip ?_ ?_
              · refine Reg.step_go rfl ?_
                intro a wi ki hf hd hS hc K hK
                have e85 : a.tmps.getD 85 undef = .bool false := hd.1.plain rfl
                have e94 : a.tmps.getD 94 undef = .bool false := hd.2.1.plain rfl
                clear hf hd hc
                have hK0 := Lib.hid hK; clear hK
                have hS0 := Lib.hid hS; clear hS
                go_simp
                exact hK0.out _ _ (Reg.Known.mk_val rfl rfl) (fun _ _ h => h) hS0.out
              refine Reg.Steps.zip ?_ ?_
              · refine Reg.step_go rfl ?_
                intro a wi ki hf hd hS hc K hK
                have e95 : a.tmps.getD 95 undef = .bool false := hd.1.plain rfl
                clear hf hd hc
                have hK0 := Lib.hid hK; clear hK
                have hS0 := Lib.hid hS; clear hS
                go_simp
                exact hK0.out _ _ (Reg.Known.mk_val rfl rfl) (fun _ _ h => h) hS0.out
              refine Reg.Steps.zip ?_ ?_
              · refine Reg.step_on rfl (fun u w h => h.plain rfl) ?_
                intro a wi ki hf hd hS hc K hK
                have f9 : a.tmps.getD 9 undef = .pointer (some ⟨g, 0, none⟩) := hf.same 9 rfl
                clear hf hd hc
                have hK0 := Lib.hid hK; clear hK
                have hS0 := Lib.hid hS; clear hS
                go_simp
                exact hK0.out _ _ (Reg.Known.mk_val rfl rfl) (fun _ _ h => h) hS0.out
              refine Reg.Steps.zip ?_ ?_
              · refine Reg.step_on rfl (fun u w h => h.plain rfl) ?_
                intro a wi ki hf hd hS hc K hK
                have e97 : a.tmps.getD 97 undef = .pointer (some ⟨g, 0, none⟩) := hd.1.plain rfl
                clear hf hd
                have HS := Lib.hid hS; clear hS
                have hK0 := Lib.hid hK; clear hK hc
                go_simp
                refine (err_any g g _ _ HS.out.rd).mono ?_
                rintro e wA ⟨rfl, rfl⟩
                exact hK0.out _ _ (Reg.Known.mk_val rfl rfl) (fun _ _ h => h) HS.out
              refine Reg.Steps.zip ?_ ?_
              · refine Reg.step_on rfl (fun u w h => h.plain rfl) ?_
                intro a wi ki hf hd hS hc K hK
                have e98 : a.tmps.getD 98 undef = .int .i64 0 := hd.1.plain rfl
                clear hf hd hc
                have hK0 := Lib.hid hK; clear hK
                have hS0 := Lib.hid hS; clear hS
                go_simp
                exact hK0.out _ _ (Reg.Known.mk_val rfl rfl) (fun _ _ h => h) hS0.out
              refine Reg.Steps.zip ?_ ?_
              · refine Reg.step_go rfl ?_
                intro a wi ki hf hd hS hc K hK
                have e96 : a.tmps.getD 96 undef = .bool false := hd.1.plain rfl
                have e99 : a.tmps.getD 99 undef = .bool false := hd.2.1.plain rfl
                clear hf hd hc
                have hK0 := Lib.hid hK; clear hK
                have hS0 := Lib.hid hS; clear hS
                go_simp
                exact hK0.out _ _ (Reg.Known.mk_val rfl rfl) (fun _ _ h => h) hS0.out
              exact Reg.Steps.nil
            case finish =>
              intro a w3 hf hd hS
              obtain ⟨u, hu⟩ : ∃ u : Nat → Value, u = fun s => a.tmps.getD s undef := ⟨_, rfl⟩
              have e100 : u 100 = .bool false := by rw [hu]; exact hd.1.plain rfl
              rw [hf.eq, ← hu]
              clear hf hu hd
              have HSS := Lib.hid (show Rd w3 g g 50 (rest, 0) from hS.rd)
              have HSB := Lib.hid hS.held.b
              clear hS
              simp [Reg.filled, e100]
              clear e100
              go_wp2_with fail
              go_roundw
              case rel => exact ⟨j + 1, by omega, by go_num, by rw [HRE.out]; exact HSS.out, HSB.out⟩
              case measure => simp [intOf]; omega
          · obtain rfl : j = rs.length := by omega
            rw [post_end] at hrd
            have HRD := Lib.hid hrd; clear hrd
            go_wp2_with (go_at_call 19; go_must (refine (left_any g g _ wr HRD.out).mono ?_); rintro e w' ⟨rfl, rfl⟩)
            go_ret
            exact ⟨rfl, hb⟩

set_option maxRecDepth 100000 in
theorem lifted (os : Os) (started : os.Started) (H : Type) (enc : TypeId × Value → H) :
    ReturnsInHanded {} Try.checked os 4 .any (Rows.packBackSpec.pre6 enc Try.prog Try.f4 Rows.packBackRow.domain false) (Rows.packBackSpec.post enc Try.prog Try.f4 false true false false) := by
  refine returnsInHanded_of_change (C := Try.checked) ownKnobs started (by kernel_rfl) Try.func4
    (ChangeSpec.witness6 (enc := enc) (C := Try.checked) false ⟨#[], #[.slice none 0 0, .slice none 0 0, .int .u8 0], []⟩ 8 (by kernel_rfl) (by kernel_rfl) (by kernel_rfl) (by kernel_rfl)) ?_
  intro W base args ds gs before hval hW _ _
  refine law_contract rfl rfl (fun ds h => by match ds, h with | [d1, d2, d3], _ => rfl) (by decide +kernel) hW ?_
  obtain ⟨p, q, hA0, _⟩ := hW
  have hA : DataW.TrodAll enc Try.prog W 0 (fun _ => true) true Try.f4.params.toList args.toList ds p := hA0
  have hval' : ∀ (j : Nat) t v, Try.f4.params[j]? = some t → args[j]? = some v → Value.okWide Try.prog W .any base t v := hval
  rw [Try.params4] at hA hval'
  obtain ⟨v0, vs0, d0, ds0, p0, q0, hargs, rfl, rfl, h0, r0⟩ := trodAll_cons hA
  obtain ⟨v1, vs1, d1, ds1, p1, q1, rfl, rfl, rfl, h1, r1⟩ := trodAll_cons r0
  obtain ⟨v2, vs2, d2, ds2, p2, q2, rfl, rfl, rfl, h2, r2⟩ := trodAll_cons r1
  obtain ⟨rfl, rfl, rfl⟩ := trodAll_nil r2
  obtain rfl : args = #[v0, v1, v2] := by cases args; simp_all
  obtain ⟨AN, ns, cN, rfl, hn1, hn2, hn3⟩ := open_nums (hval' 0 _ v0 rfl rfl) h0
  obtain ⟨AL, rs, cL, rfl, hl1, hl2, hl3⟩ := open_lists (hval' 1 _ v1 rfl rfl) h1
  obtain ⟨a2, rfl, rfl, rfl, w2⟩ := open_int Try.underlying5 (hval' 2 _ v2 rfl rfl) h2
  have b2 : 0 ≤ a2 ∧ a2 ≤ 255 := by simpa [Lit.wf, IntKind.min, IntKind.max, IntKind.signed, IntKind.bits] using w2
  obtain ⟨k, rfl⟩ : ∃ c : Nat, a2 = c := ⟨a2.toNat, by omega⟩
  exact walk AN AL cN cL k ns rs W (by omega) hn2 hn1 hl1 hn3 hl2 hl3

theorem proved : Rows.PackBackSaid :=
  OpenClaim.holds_of_wide 4 Try.f4 rfl rfl rfl rfl rfl rfl rfl ⟨rfl, rfl, rfl, rfl, rfl⟩ rfl rfl rfl rfl rfl (by kernel_rfl) Try.func4 (by kernel_rfl)
    (of_decide_eq_true (by kernel_rfl)) (by unfold Func.isWrapper; first | (rw [if_pos (by decide +kernel)]; kernel_rfl) | (rw [if_neg (by decide +kernel)]; exact ⟨rfl, rfl⟩))
    (fun os started H enc _ => lifted os started H enc)

end Go.Proofs.Ytcmjmbemlfcdjaa.packBack
