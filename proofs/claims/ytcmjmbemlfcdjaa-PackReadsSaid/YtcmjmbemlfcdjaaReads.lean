/- PackReads returns true for every input and changes nothing: numbers and lumps are written as the document says, and a reader of any bytes answers any looks as the document says. No condition. -/
import Derived.Test.YtcmjmbemlfcdjaaStep
import Derived.Test.YtcmjmbemlfcdjaaRefRead
import Derived.Test.YtcmjmbemlfcdjaaActs
import Derived.Test.YtcmjmbemlfcdjaaRegion
import Derived.Deep.CutRange
import Derived.Deep.DeepCutAuto
namespace Go.Proofs.Ytcmjmbemlfcdjaa.packReads
open Go.RowKit Go.ChangeShapes Go.WideShapes Go.ChangeAt

theorem edge_int (n : Nat) (k : Int) (w : World) (hn : n ≤ 18446744073709551615) (h0 : 0 ≤ k) (h1 : k ≤ 255) :
    Calls Try.prog 12 #[.int .u64 n, .int .u8 k] w fun e w' => ∃ m : Nat, m ≤ 18446744073709551615 ∧ e = .returned (.int .u64 m) ∧ Below w.heap.size w w' := by
  obtain ⟨q, rfl⟩ : ∃ q : Nat, k = q := ⟨k.toNat, by omega⟩
  exact (edge_any n q w hn (by omega)).mono fun e w' ⟨h, hb⟩ => ⟨_, edgeN_le n q hn, h, hb⟩

theorem own_lits (w : World) (base n : Nat) (cs : Array Value) (hn : cs.size = n) (hm : n ≤ 100) (hb : base ≤ w.heap.size) :
    (w.alloc (.cells cs 5)).ownsRow base 5 1 (.slice (some ⟨w.heap.size, 0, none⟩) n n) n cs.toList :=
  ⟨by simp [hn], .inr ⟨w.heap.size, n, cs, rfl, hb, heap_alloc_new w _, Nat.le_refl _, by unfold maxLen; omega, by omega, by rw [Nat.mul_one, ← hn, List.take_of_length_le (by rw [Array.length_toList]; exact Nat.le_refl _)]⟩⟩

theorem new_n (B : Nat) (A : Option Addr) (c n : Nat) (l : List Int) (w : World) (hn : l.length = n) (hm : n ≤ 140737488355328) (hB : B ≤ w.heap.size) (hl : Lies w B A (u8s l)) (hb : IsBytes l) :
    Calls Try.prog 13 #[.slice A n c] w fun e w' =>
      ∃ g, e = .returned (.pointer (some ⟨g, 0, none⟩)) ∧ w.heap.size ≤ g ∧ Rd w' g g 50 (l, 0) ∧ Below w.heap.size w w' := by
  subst hn
  exact new_any B A c l w hm hB hl hb

/-- A row of bytes that a reader may be made of. -/
def Good (w : World) (r : BRow) : Prop := r.l.length ≤ 600 ∧ r.l.length ≤ r.c ∧ r.c ≤ maxLen ∧ IsBytes r.l ∧ Lies w w.heap.size r.A (u8s r.l)
theorem good_of {w : World} {B n : Nat} {A : Option Addr} {c : Nat} {l : List Int} (hn : n ≤ 600) (hl : l.length = n) (hc : n ≤ c) (hm : c ≤ maxLen) (hb : IsBytes l) (h : Lies w B A (u8s l)) (hB : B ≤ w.heap.size) : Good w ⟨A, c, l⟩ :=
  ⟨by rw [hl]; exact hn, by rw [hl]; exact hc, hm, hb, h.more hB⟩
theorem lit_bytes (a : Int) (l : List Int) (h0 : 0 ≤ a) (h1 : a ≤ 255) (hl : IsBytes l) : IsBytes (a :: l) := fun u hu => by
  rcases List.mem_cons.1 hu with rfl | h
  · exact ⟨h0, h1⟩
  · exact hl u h

theorem heap_alloc2 (w : World) (a b : Obj) : ((w.alloc a).alloc b).heap[w.heap.size]? = some a := by
  have h1 := Below.heap_alloc (w.alloc a) b w.heap.size (by rw [World.size_alloc]; omega)
  rw [h1]; exact heap_alloc_new w a
theorem below_alloc2 (w : World) (a b : Obj) : Below w.heap.size w ((w.alloc a).alloc b) := (below_alloc w a).alloc (by rw [World.size_alloc]; omega) b
theorem rd_drew {w : World} {B g t : Nat} {st : RS} (h : Rd w B g t st) : Rd w.drew B g t st := ⟨h.le, h.blk, h.bytes⟩
def pickA (s0 s1 : RS) : Nat → RS
  | 0 => s0
  | _ => s1
def pickB (s0 s1 : RS) : Nat → RS
  | 0 => s0
  | 1 => s0
  | _ => s1

/-- The two readers, the first ahead of the second, and the block of the look. -/
structure Two (W6 : World) (g g2 ga : Nat) (act : Obj) (s0 s1 : RS) (k : Nat) (w : World) : Prop where
  a : Rd w g g 50 (pickA s0 s1 k)
  b : Rd w W6.heap.size g2 35 (pickB s0 s1 k)
  h : Below W6.heap.size W6 w
  act : w.heap[ga]? = some act
theorem Two.drew {W6 : World} {g g2 ga : Nat} {act : Obj} {s0 s1 : RS} {k : Nat} {w : World} (h : Two W6 g g2 ga act s0 s1 k w) : Two W6 g g2 ga act s0 s1 k w.drew := ⟨rd_drew h.a, rd_drew h.b, h.h.drew, h.act⟩

/-- Bytes that lie away from the two readers. -/
def Away (g g2 : Nat) (l : List Int) (_ : Nat) (v : Value) (w : World) : Prop :=
  ∃ A n c, v = .slice A n c ∧ l.length = n ∧ (0 < (u8s l).length → ∃ b off, A = some ⟨b, off, none⟩ ∧ b ≠ g ∧ b ≠ g2 ∧ b < w.heap.size ∧ ∀ j u, (u8s l)[j]? = some u → w.cell? ⟨b, off + j, none⟩ = some u)
theorem Away.grown {g g2 i q : Nat} {l : List Int} {v : Value} {w w' : World} (h : Away g g2 l i v w) (hg : w.grownBy w' (some q)) (hq : q = g ∨ q = g2) : Away g g2 l i v w' := by
  obtain ⟨A, n, c, h1, h2, h3⟩ := h
  refine ⟨A, n, c, h1, h2, fun hp => ?_⟩
  obtain ⟨b, off, e, n1, n2, hb, hc⟩ := h3 hp
  exact ⟨b, off, e, n1, n2, Nat.lt_of_lt_of_le hb hg.size, fun j u hu => (World.cell?_of_block (hg.block b hb (fun e => by injection e with e; rcases hq with rfl | rfl <;> omega))).trans (hc j u hu)⟩
theorem known_away {val : Nat → Value} {g g2 i q : Nat} {l : List Int} {sp : List Nat} {v : Value} {w w' : World} (h : Reg.Known val (Away g g2 l) sp i v w) (hg : w.grownBy w' (some q)) (hq : q = g ∨ q = g2) : Reg.Known val (Away g g2 l) sp i v w' :=
  ⟨h.plain, fun e => (h.other e).grown hg hq⟩
theorem lumpR_left (m : Int) (st : RS) : (lumpR m st).2.1.length ≤ st.1.length := by
  have h := numR_left (max m 0).toNat st
  unfold lumpR
  dsimp only
  split
  · exact h
  · split
    · exact Nat.zero_le _
    · simp only [List.length_drop]; omega
theorem and4095 (m : Nat) (hm : m ≤ 18446744073709551615) : 0 ≤ bits .and .u64 (m : Int) 4095 ∧ bits .and .u64 (m : Int) 4095 ≤ 4095 := by
  have h := u64_and_nat m 4095 (by omega) (by omega)
  have h2 : m &&& 4095 ≤ 4095 := Nat.and_le_right
  rw [show bits .and .u64 (m : Int) 4095 = ((m &&& 4095 : Nat) : Int) from h]
  omega

def pr34Val (g g2 : Nat) (mm : Int) (y : List Int) : Nat → Value
  | 0 => .pointer (some ⟨g, 0, none⟩)
  | 1 => .int .i64 mm
  | 3 => .string (strOfNums y)
  | 4 => .pointer (some ⟨g2, 0, none⟩)
  | 5 => .int .i64 mm
  | 7 => .string (strOfNums y)
  | 8 => .bool false
  | _ => undef

def pr36Val (g g2 ga m y : Nat) : Nat → Value
  | 0 => .pointer (some ⟨g, 0, none⟩)
  | 1 => .pointer (some ⟨ga, 1, none⟩)
  | 2 => .int .u64 m
  | 3 => .int .u64 y
  | 4 => .pointer (some ⟨g2, 0, none⟩)
  | 5 => .pointer (some ⟨ga, 1, none⟩)
  | 6 => .int .u64 m
  | 7 => .int .u64 y
  | 8 => .bool false
  | _ => undef

structure Same (wz w : World) : Prop where
  eq : w = wz
def pr38Val (g g2 : Nat) (Aq : Option Addr) (cq : Nat) (st : RS) : Nat → Value
  | 0 => .pointer (some ⟨g, 0, none⟩)
  | 1 => .int .i64 st.2
  | 2 => .pointer (some ⟨g2, 0, none⟩)
  | 3 => .pointer (some ⟨g2, 0, none⟩)
  | 4 => .pointer (some ⟨g2, 1, none⟩)
  | 5 => .int .i64 st.2
  | 6 => .bool false
  | 7 => .bool false
  | 8 => .pointer (some ⟨g, 0, none⟩)
  | 9 => .int .i64 st.1.length
  | 10 => .pointer (some ⟨g2, 0, none⟩)
  | 11 => .pointer (some ⟨g2, 0, none⟩)
  | 12 => .pointer (some ⟨g2, 0, none⟩)
  | 13 => .slice Aq st.1.length cq
  | 14 => .int .i64 st.1.length
  | 15 => .bool false
  | 16 => .bool false
  | _ => undef


/-- The limit that is picked out of three. -/
theorem pick3_cell (w : World) (m : Nat) : ∃ y : Nat, y ≤ 18446744073709551615 ∧
    (w.alloc (.cells #[Value.int .u64 31, Value.int .u64 18446744073709551615, Value.int .u64 127] 29)).cell? ⟨w.heap.size, m % 3, none⟩ = some (.int .u64 y) := by
  have h : (w.alloc (.cells #[Value.int .u64 31, Value.int .u64 18446744073709551615, Value.int .u64 127] 29)).heap[w.heap.size]? = some (.cells #[Value.int .u64 31, Value.int .u64 18446744073709551615, Value.int .u64 127] 29 (0, 0)) := heap_alloc_new w _
  have h3 : m % 3 = 0 ∨ m % 3 = 1 ∨ m % 3 = 2 := by omega
  rcases h3 with h3 | h3 | h3
  · exact ⟨31, by omega, by rw [cell_blk h, h3]; rfl⟩
  · exact ⟨18446744073709551615, by omega, by rw [cell_blk h, h3]; rfl⟩
  · exact ⟨127, by omega, by rw [cell_blk h, h3]; rfl⟩

/-- Bytes that lie in memory. -/
def Piece (l : List Int) (v : Value) (w : World) : Prop := ∃ A n c, v = .slice A n c ∧ l.length = n ∧ Lies w w.heap.size A (u8s l)
theorem Piece.below {l : List Int} {v : Value} {w w' : World} (h : Piece l v w) (hb : Below w.heap.size w w') : Piece l v w' := by
  obtain ⟨A, n, c, h1, h3, h2⟩ := h
  exact ⟨A, n, c, h1, h3, (h2.below hb).more hb.size⟩
theorem known_below {val : Nat → Value} {X : Nat → List Int} {i : Nat} {sp : List Nat} {v : Value} {w w' : World} (h : Reg.Known val (fun i => Piece (X i)) sp i v w) (hb : Below w.heap.size w w') : Reg.Known val (fun i => Piece (X i)) sp i v w' :=
  ⟨h.plain, fun e => (h.other e).below hb⟩

def pr11Val (bL oL rl cL j : Nat) (r : BRow) : Nat → Value
  | 0 => .slice (some ⟨bL, oL, none⟩) rl cL
  | 1 => .int .i64 j
  | 2 => .pointer (some ⟨bL, oL + j, none⟩)
  | 3 => .slice r.A r.l.length r.c
  | 5 => .string (strOfNums (enc r.l.length ++ r.l))
  | 6 => .slice (some ⟨bL, oL, none⟩) rl cL
  | 7 => .int .i64 j
  | 8 => .pointer (some ⟨bL, oL + j, none⟩)
  | 9 => .slice r.A r.l.length r.c
  | 11 => .string (strOfNums (enc r.l.length ++ r.l))
  | 12 => .bool false
  | _ => undef

def pr14Val (AN : Option Addr) (nl cN : Nat) (ns : List Nat) : Nat → Value
  | 0 => .slice AN nl cN
  | 2 => .string (strOfNums (encs ns))
  | 3 => .slice AN nl cN
  | 5 => .string (strOfNums (encs ns))
  | 6 => .bool false
  | _ => undef


/-- That nothing that was there has changed. -/
structure Keeps (w0 : World) (a : Addr) (v : Value) (k : Nat) (w : World) : Prop where
  c : w.cell? a = some v
  b : Below w0.heap.size w0 w
  l : a.block < w0.heap.size
theorem Keeps.step {w0 w w' : World} {a : Addr} {v : Value} {k k' : Nat} (h : Keeps w0 a v k w) (hb : Below w0.heap.size w w') : Keeps w0 a v k' w' := ⟨(hb.cell h.l).trans h.c, h.b.trans hb, h.l⟩
theorem Keeps.drew {w0 w : World} {a : Addr} {v : Value} {k : Nat} (h : Keeps w0 a v k w) : Keeps w0 a v k w.drew := ⟨h.c, h.b.drew, h.l⟩

set_option maxRecDepth 100000 in
set_option maxHeartbeats 8000000 in
theorem walk (AR AN AL AC : Option Addr) (cR cN cL cC k : Nat) (raw : List Int) (ns : List Nat) (rs : List BRow) (ls : List (Bool × Nat)) (w : World) (hk : k ≤ 255)
    (hraw : IsBytes raw) (hrl : raw.length ≤ maxLen) (hrc : raw.length ≤ cR) (hrM : cR ≤ maxLen) (hR : Lies w w.heap.size AR (u8s raw))
    (hns : IsNums ns) (hnm : ns.length ≤ maxLen) (hN : Lies w w.heap.size AN (u64s ns))
    (hrm : rs.length ≤ maxLen) (hL : Lies w w.heap.size AL (rs.map BRow.hdr)) (hrs : ∀ r ∈ rs, r.Ok w w.heap.size)
    (hlm : ls.length ≤ maxLen) (hls : IsLooks ls) (hC : LooksLie w w.heap.size AC ls) :
    Calls Try.prog 3 #[.slice AR raw.length cR, .slice AN ns.length cN, .slice AL rs.length cL, .slice AC ls.length cC, .int .u8 k] w fun e w' => e = .returned (.bool true) ∧ Below w.heap.size w w' := by
  unfold maxLen at hrl hnm hrm hlm
  have HRB := Lib.hid hraw; clear hraw
  have HRM := Lib.hid hrM; clear hrM
  have HR := Lib.hid hR; clear hR
  have HNS := Lib.hid hns; clear hns
  have HN := Lib.hid hN; clear hN
  have HL := Lib.hid hL; clear hL
  have HRS := Lib.hid hrs; clear hrs
  have HLS := Lib.hid hls; clear hls
  have HC := Lib.hid hC; clear hC
  by_cases hbig : 60 < raw.length ∨ 12 < ns.length ∨ 6 < rs.length ∨ 30 < ls.length
  · have HB := Lib.hid hbig
    go_enter Try.func3, Try.ntmps3
    go_wp2_with fail
    refine (known_any w).mono ?_
    rintro e w1 ⟨rfl, B1⟩
    by_cases h1 : 60 < raw.length
    · go_wp2_with fail
      go_ret
      exact ⟨rfl, B1⟩
    by_cases h2 : 12 < ns.length
    · go_wp2_with fail
      go_ret
      exact ⟨rfl, B1⟩
    by_cases h3 : 6 < rs.length
    · go_wp2_with fail
      go_ret
      exact ⟨rfl, B1⟩
    have h4 : 30 < ls.length := by omega
    go_wp2_with fail
    go_ret
    exact ⟨rfl, B1⟩
  · have h60 : raw.length ≤ 60 := by omega
    have h12 : ns.length ≤ 12 := by omega
    have h6 : rs.length ≤ 6 := by omega
    have h30 : ls.length ≤ 30 := by omega
    clear hbig
    have d1 : decide (60 < (raw.length : Int)) = false := by simp; omega
    have d2 : decide (12 < (ns.length : Int)) = false := by simp; omega
    have d3 : decide (6 < (rs.length : Int)) = false := by simp; omega
    have d4 : decide (30 < (ls.length : Int)) = false := by simp; omega
    go_enter Try.func3, Try.ntmps3
    go_wp2_with fail
    refine (known_any w).mono ?_
    rintro e w1 ⟨rfl, B1⟩
    go_wp2_with fail
    go_loopw [11, 12] (fun vb i wr => ∃ (j n : Nat) (bl : List Int), j ≤ rs.length ∧ i = .int .i64 j ∧ bl.length = n ∧ n ≤ 40 * j ∧ IsBytes bl ∧ wr.ownsRow w.heap.size 5 1 vb n (u8s bl) ∧ Below w.heap.size w wr) (fun _ i _ => rs.length - (intOf i).toNat)
    case atStart => exact ⟨0, 0, [], by omega, rfl, rfl, Nat.zero_le _, (fun u hu => by cases hu), World.ownsRow_nil _ _ _ _, B1⟩
    case round =>
      obtain ⟨j, nb, bl, hj, rfl, hbn, hpl, hpb, ho, hb⟩ := hrel
      have HBN := Lib.hid hbn; clear hbn
      have hsz := hb.size
      by_cases hlt : j < rs.length
      · have hr := HRS.out rs[j] (List.getElem_mem hlt)
        obtain ⟨bL, oL, rfl, hbL, hcL⟩ := HL.out.cell (k := j) (by simpa using hlt)
        have c2 : wr.cell? ⟨bL, oL + j, none⟩ = some (.slice rs[j].A rs[j].l.length rs[j].c) := by rw [hb.cell (p := ⟨bL, oL + j, none⟩) hbL, hcL]; simp [BRow.hdr]
        clear hcL
        generalize rs[j] = r at *
        have HPB := Lib.hid hpb; clear hpb
        have HRR := Lib.hid hr; clear hr
        have HO := Lib.hid ho; clear ho
        have HK := Lib.hid (show Keeps w ⟨bL, oL + j, none⟩ (.slice r.A r.l.length r.c) 0 wr from ⟨c2, hb, hbL⟩)
        by_cases h40 : 30 < r.l.length
        · go_wp2_with fail
          go_ret
          exact ⟨rfl, hb⟩
        · have hjl : (j : Int) < (rs.length : Int) := by omega
          go_wp2_with fail
          refine Reg.wp_facts_sl [53, 54, 55, 56, 57, 58, 59, 60, 61, 62, 63, 64, 65] rfl [4, 10] [[], [], [(0, 53), (1, 54)], [(2, 55)], [(3, 56)], [(4, 57)], [], [], [(6, 59), (7, 60)], [(8, 61)], [(9, 62)], [(10, 63)], [(5, 58), (11, 64)]] [(12, 65)] (Reg.Known (pr11Val bL oL rs.length cL j r) (fun _ => Piece (enc r.l.length ++ r.l)) [4, 10]) (fun k' w' => Keeps w ⟨bL, oL + j, none⟩ (.slice r.A r.l.length r.c) k' w' ∧ w'.ownsRow w.heap.size 5 1 u11 nb (u8s bl)) (by kernel_rfl) (by kernel_rfl) ?start ?steps ?finish
          case start => exact ⟨HK.out.drew, HO.out⟩
          case steps =>
            refine Reg.Steps.zip ?_ ?_
            · refine Reg.step_go rfl ?_
              intro a wi ki hf hd hS hc K hK
              have f2 : a.tmps.getD 2 undef = .slice (some ⟨bL, oL, none⟩) rs.length cL := hf.same 2 rfl
              clear hf hd hc
              have hK0 := Lib.hid hK; clear hK
              have hS0 := Lib.hid hS; clear hS
              go_simp
              exact hK0.out _ _ (Reg.Known.mk_val rfl rfl) (fun _ _ h => h) hS0.out
            refine Reg.Steps.zip ?_ ?_
            · refine Reg.step_go rfl ?_
              intro a wi ki hf hd hS hc K hK
              have f12 : a.tmps.getD 12 undef = .int .i64 j := hf.same 12 rfl
              clear hf hd hc
              have hK0 := Lib.hid hK; clear hK
              have hS0 := Lib.hid hS; clear hS
              go_simp
              exact hK0.out _ _ (Reg.Known.mk_val rfl rfl) (fun _ _ h => h) hS0.out
            refine Reg.Steps.zip ?_ ?_
            · refine Reg.step_go rfl ?_
              intro a wi ki hf hd hS hc K hK
              have e53 : a.tmps.getD 53 undef = .slice (some ⟨bL, oL, none⟩) rs.length cL := hd.1.plain rfl
              have e54 : a.tmps.getD 54 undef = .int .i64 j := hd.2.1.plain rfl
              clear hf hd hc
              have hK0 := Lib.hid hK; clear hK
              have hS0 := Lib.hid hS; clear hS
              go_simp
              exact hK0.out _ _ (Reg.Known.mk_val rfl rfl) (fun _ _ h => h) hS0.out
            refine Reg.Steps.zip ?_ ?_
            · refine Reg.step_go rfl ?_
              intro a wi ki hf hd hS hc K hK
              have e55 : a.tmps.getD 55 undef = .pointer (some ⟨bL, oL + j, none⟩) := hd.1.plain rfl
              clear hf hd hc
              have cc := hS.1.c
              have hK0 := Lib.hid hK; clear hK
              have hS0 := Lib.hid hS; clear hS
              go_simp
              exact hK0.out _ _ (Reg.Known.mk_val rfl rfl) (fun _ _ h => h) hS0.out
            refine Reg.Steps.zip ?_ ?_
            · refine Reg.step_go rfl ?_
              intro a wi ki hf hd hS hc K hK
              have e56 : a.tmps.getD 56 undef = .slice r.A r.l.length r.c := hd.1.plain rfl
              clear hf hd
              obtain rfl := hc 0 rfl
              have HS := Lib.hid hS; clear hS
              have hK0 := Lib.hid hK; clear hK hc
              go_simp
              refine (putLump_any w.heap.size r.A r.c _ r.l wi rfl (by omega) HS.out.1.b.size ((HRR.out.below HS.out.1.b).2.2)).mono ?_
              rintro e wA ⟨vA, rfl, hoA, hbA⟩
              obtain ⟨A5, c5, rfl, _, _, _, hl5, _⟩ := Lies.of_own hoA
              exact hK0.out _ _ (Reg.Known.mk_other rfl ⟨A5, _, c5, rfl, rfl, hl5⟩) (fun i u h => known_below h hbA) ⟨HS.out.1.step (hbA.mono HS.out.1.b.size), own_below HS.out.2 hbA⟩
            refine Reg.Steps.zip ?_ ?_
            · refine Reg.step_go rfl ?_
              intro a wi ki hf hd hS hc K hK
              have x57 := hd.1.other rfl
              clear hf hd hc
              obtain ⟨A57, n57, c57, e57, hn57, hl57⟩ := x57
              have cv := conv_bytes hn57 hl57 c57
              clear hn57
              have hK0 := Lib.hid hK; clear hK
              have hS0 := Lib.hid hS; clear hS
              go_simp
              exact hK0.out _ _ (Reg.Known.mk_val rfl rfl) (fun _ _ h => h) hS0.out
            refine Reg.Steps.zip ?_ ?_
            · refine Reg.step_go rfl ?_
              intro a wi ki hf hd hS hc K hK
              have f2 : a.tmps.getD 2 undef = .slice (some ⟨bL, oL, none⟩) rs.length cL := hf.same 2 rfl
              clear hf hd hc
              have hK0 := Lib.hid hK; clear hK
              have hS0 := Lib.hid hS; clear hS
              go_simp
              exact hK0.out _ _ (Reg.Known.mk_val rfl rfl) (fun _ _ h => h) hS0.out
            refine Reg.Steps.zip ?_ ?_
            · refine Reg.step_go rfl ?_
              intro a wi ki hf hd hS hc K hK
              have f12 : a.tmps.getD 12 undef = .int .i64 j := hf.same 12 rfl
              clear hf hd hc
              have hK0 := Lib.hid hK; clear hK
              have hS0 := Lib.hid hS; clear hS
              go_simp
              exact hK0.out _ _ (Reg.Known.mk_val rfl rfl) (fun _ _ h => h) hS0.out
            refine Reg.Steps.zip ?_ ?_
            · refine Reg.step_go rfl ?_
              intro a wi ki hf hd hS hc K hK
              have e59 : a.tmps.getD 59 undef = .slice (some ⟨bL, oL, none⟩) rs.length cL := hd.1.plain rfl
              have e60 : a.tmps.getD 60 undef = .int .i64 j := hd.2.1.plain rfl
              clear hf hd hc
              have hK0 := Lib.hid hK; clear hK
              have hS0 := Lib.hid hS; clear hS
              go_simp
              exact hK0.out _ _ (Reg.Known.mk_val rfl rfl) (fun _ _ h => h) hS0.out
            refine Reg.Steps.zip ?_ ?_
            · refine Reg.step_go rfl ?_
              intro a wi ki hf hd hS hc K hK
              have e61 : a.tmps.getD 61 undef = .pointer (some ⟨bL, oL + j, none⟩) := hd.1.plain rfl
              clear hf hd hc
              have cc := hS.1.c
              have hK0 := Lib.hid hK; clear hK
              have hS0 := Lib.hid hS; clear hS
              go_simp
              exact hK0.out _ _ (Reg.Known.mk_val rfl rfl) (fun _ _ h => h) hS0.out
            refine Reg.Steps.zip ?_ ?_
            · refine Reg.step_go rfl ?_
              intro a wi ki hf hd hS hc K hK
              have e62 : a.tmps.getD 62 undef = .slice r.A r.l.length r.c := hd.1.plain rfl
              clear hf hd
              obtain rfl := hc 1 rfl
              have HS := Lib.hid hS; clear hS
              have hK0 := Lib.hid hK; clear hK hc
              go_simp
              refine (refLump_any w.heap.size r.A r.c _ r.l wi rfl (by omega) HS.out.1.b.size ((HRR.out.below HS.out.1.b).2.2)).mono ?_
              rintro e wA ⟨vA, rfl, hoA, hbA⟩
              obtain ⟨A5, c5, rfl, _, _, _, hl5, _⟩ := Lies.of_own hoA
              exact hK0.out _ _ (Reg.Known.mk_other rfl ⟨A5, _, c5, rfl, rfl, hl5⟩) (fun i u h => known_below h hbA) ⟨HS.out.1.step (hbA.mono HS.out.1.b.size), own_below HS.out.2 hbA⟩
            refine Reg.Steps.zip ?_ ?_
            · refine Reg.step_go rfl ?_
              intro a wi ki hf hd hS hc K hK
              have x63 := hd.1.other rfl
              clear hf hd hc
              obtain ⟨A63, n63, c63, e63, hn63, hl63⟩ := x63
              have cv := conv_bytes hn63 hl63 c63
              clear hn63
              have hK0 := Lib.hid hK; clear hK
              have hS0 := Lib.hid hS; clear hS
              go_simp
              exact hK0.out _ _ (Reg.Known.mk_val rfl rfl) (fun _ _ h => h) hS0.out
            refine Reg.Steps.zip ?_ ?_
            · refine Reg.step_go rfl ?_
              intro a wi ki hf hd hS hc K hK
              have e58 : a.tmps.getD 58 undef = .string (strOfNums (enc r.l.length ++ r.l)) := hd.1.plain rfl
              have e64 : a.tmps.getD 64 undef = .string (strOfNums (enc r.l.length ++ r.l)) := hd.2.1.plain rfl
              clear hf hd hc
              have hK0 := Lib.hid hK; clear hK
              have hS0 := Lib.hid hS; clear hS
              go_simp
              exact hK0.out _ _ (Reg.Known.mk_val rfl rfl) (fun _ _ h => h) hS0.out
            exact Reg.Steps.nil
          case finish =>
            intro a w3 hf hd hS
            obtain ⟨u, hu⟩ : ∃ u : Nat → Value, u = fun s => a.tmps.getD s undef := ⟨_, rfl⟩
            have e65 : u 65 = .bool false := by rw [hu]; exact hd.1.plain rfl
            rw [hf.eq, ← hu]
            clear hf hu hd
            have HK3 := Lib.hid hS.1
            have HO3 := Lib.hid hS.2
            clear hS
            simp [Reg.filled, e65]
            clear e65
            have cc := HK3.out.c
            go_wp2_with fail
            refine (refLump_any w.heap.size r.A r.c _ r.l w3 rfl (by omega) HK3.out.b.size ((HRR.out.below HK3.out.b).2.2)).mono ?_
            rintro e w4 ⟨v4, rfl, ho4, hb4⟩
            obtain ⟨A4, c4, rfl, _, _, _, hl4, _⟩ := Lies.of_own ho4
            have hrl4 := (enc_length_le r.l.length (by omega)).2
            have hln : (enc r.l.length ++ r.l).length ≤ 40 := by rw [List.length_append]; omega
            have hrb := HRR.out.2.1
            generalize hlq : (enc r.l.length ++ r.l).length = n4 at *
            have HLQ := Lib.hid hlq; clear hlq
            have HL4 := Lib.hid hl4; clear hl4 ho4
            have HO4 := Lib.hid (own_below HO3.out hb4)
            have HB4 := Lib.hid (HK3.out.b.trans (hb4.mono HK3.out.b.size))
            have hs4 := HB4.out.size
            have HRB2 := Lib.hid (HPB.out.append ((enc_bytes r.l.length).append hrb)); clear hrb hb4
            clear cc
            go_wp2_with (at_builtin; go_must (refine wpList_append_lies rfl _ _ rfl w.heap.size _ _ _ rfl HO4.out w4.heap.size A4 n4 c4 _ rfl HLQ.out HL4.out ?c1 ?c2 ?_))
            case c1 => omega
            case c2 => omega
            intro v5 w5 ho5 hb5
            have HO5 := Lib.hid ho5; clear ho5
            have HB5 := Lib.hid (HB4.out.trans hb5); clear hb5
            go_wp2_with fail
            go_roundw
            case rel => exact ⟨j + 1, nb + n4, bl ++ (enc r.l.length ++ r.l), by omega, by go_num, by rw [List.length_append, HBN.out, HLQ.out], by omega, HRB2.out, by simpa [u8s] using HO5.out, HB5.out⟩
            case measure => simp [intOf]; omega
      · have HO := Lib.hid ho; clear ho
        have HPB := Lib.hid hpb; clear hpb
        have HBE := Lib.hid hb; clear hb
        obtain rfl : j = rs.length := by omega
        go_wp2_with fail
        refine Reg.wp_facts_sl [73, 74, 75, 76, 77, 78, 79] rfl [1, 4] [[], [(0, 73)], [(1, 74)], [], [(3, 76)], [(4, 77)], [(2, 75), (5, 78)]] [(6, 79)] (Reg.Known (pr14Val AN ns.length cN ns) (fun _ => Piece (encs ns)) [1, 4]) (fun _ w' => Below w.heap.size w w' ∧ w'.ownsRow w.heap.size 5 1 u11 nb (u8s bl)) (by kernel_rfl) (by kernel_rfl) ?start ?steps ?finish
        case start => exact ⟨HBE.out.drew, HO.out⟩
        case steps =>
          refine Reg.Steps.zip ?_ ?_
          · refine Reg.step_go rfl ?_
            intro a wi ki hf hd hS hc K hK
            have f1 : a.tmps.getD 1 undef = .slice AN ns.length cN := hf.same 1 rfl
            clear hf hd hc
            have hK0 := Lib.hid hK; clear hK
            have hS0 := Lib.hid hS; clear hS
            go_simp
            exact hK0.out _ _ (Reg.Known.mk_val rfl rfl) (fun _ _ h => h) hS0.out
          refine Reg.Steps.zip ?_ ?_
          · refine Reg.step_go rfl ?_
            intro a wi ki hf hd hS hc K hK
            have e73 : a.tmps.getD 73 undef = .slice AN ns.length cN := hd.1.plain rfl
            clear hf hd
            obtain rfl := hc 0 rfl
            have HS := Lib.hid hS; clear hS
            have hK0 := Lib.hid hK; clear hK hc
            go_simp
            refine (put_any w.heap.size AN cN _ ns wi rfl (by omega) HNS.out HS.out.1.size (HN.out.below HS.out.1)).mono ?_
            rintro e wA ⟨vA, rfl, hoA, hbA⟩
            obtain ⟨A5, c5, rfl, _, _, _, hl5, _⟩ := Lies.of_own hoA
            exact hK0.out _ _ (Reg.Known.mk_other rfl ⟨A5, _, c5, rfl, rfl, hl5⟩) (fun i u h => known_below h hbA) ⟨HS.out.1.trans (hbA.mono HS.out.1.size), own_below HS.out.2 hbA⟩
          refine Reg.Steps.zip ?_ ?_
          · refine Reg.step_go rfl ?_
            intro a wi ki hf hd hS hc K hK
            have x74 := hd.1.other rfl
            clear hf hd hc
            obtain ⟨A74, n74, c74, e74, hn74, hl74⟩ := x74
            have cv := conv_bytes hn74 hl74 c74
            clear hn74
            have hK0 := Lib.hid hK; clear hK
            have hS0 := Lib.hid hS; clear hS
            go_simp
            exact hK0.out _ _ (Reg.Known.mk_val rfl rfl) (fun _ _ h => h) hS0.out
          refine Reg.Steps.zip ?_ ?_
          · refine Reg.step_go rfl ?_
            intro a wi ki hf hd hS hc K hK
            have f1 : a.tmps.getD 1 undef = .slice AN ns.length cN := hf.same 1 rfl
            clear hf hd hc
            have hK0 := Lib.hid hK; clear hK
            have hS0 := Lib.hid hS; clear hS
            go_simp
            exact hK0.out _ _ (Reg.Known.mk_val rfl rfl) (fun _ _ h => h) hS0.out
          refine Reg.Steps.zip ?_ ?_
          · refine Reg.step_go rfl ?_
            intro a wi ki hf hd hS hc K hK
            have e76 : a.tmps.getD 76 undef = .slice AN ns.length cN := hd.1.plain rfl
            clear hf hd
            obtain rfl := hc 1 rfl
            have HS := Lib.hid hS; clear hS
            have hK0 := Lib.hid hK; clear hK hc
            go_simp
            refine (refPut_any w.heap.size AN cN _ ns wi rfl (by omega) HNS.out HS.out.1.size (HN.out.below HS.out.1)).mono ?_
            rintro e wA ⟨vA, rfl, hoA, hbA⟩
            obtain ⟨A5, c5, rfl, _, _, _, hl5, _⟩ := Lies.of_own hoA
            exact hK0.out _ _ (Reg.Known.mk_other rfl ⟨A5, _, c5, rfl, rfl, hl5⟩) (fun i u h => known_below h hbA) ⟨HS.out.1.trans (hbA.mono HS.out.1.size), own_below HS.out.2 hbA⟩
          refine Reg.Steps.zip ?_ ?_
          · refine Reg.step_go rfl ?_
            intro a wi ki hf hd hS hc K hK
            have x77 := hd.1.other rfl
            clear hf hd hc
            obtain ⟨A77, n77, c77, e77, hn77, hl77⟩ := x77
            have cv := conv_bytes hn77 hl77 c77
            clear hn77
            have hK0 := Lib.hid hK; clear hK
            have hS0 := Lib.hid hS; clear hS
            go_simp
            exact hK0.out _ _ (Reg.Known.mk_val rfl rfl) (fun _ _ h => h) hS0.out
          refine Reg.Steps.zip ?_ ?_
          · refine Reg.step_go rfl ?_
            intro a wi ki hf hd hS hc K hK
            have e75 : a.tmps.getD 75 undef = .string (strOfNums (encs ns)) := hd.1.plain rfl
            have e78 : a.tmps.getD 78 undef = .string (strOfNums (encs ns)) := hd.2.1.plain rfl
            clear hf hd hc
            have hK0 := Lib.hid hK; clear hK
            have hS0 := Lib.hid hS; clear hS
            go_simp
            exact hK0.out _ _ (Reg.Known.mk_val rfl rfl) (fun _ _ h => h) hS0.out
          exact Reg.Steps.nil
        case finish =>
          intro a w3 hf hd hS
          obtain ⟨u, hu⟩ : ∃ u : Nat → Value, u = fun s => a.tmps.getD s undef := ⟨_, rfl⟩
          have e79 : u 79 = .bool false := by rw [hu]; exact hd.1.plain rfl
          rw [hf.eq, ← hu]
          clear hf hu hd
          have HB3 := Lib.hid hS.1
          have HO3 := Lib.hid hS.2
          clear hS
          simp [Reg.filled, e79]
          clear e79
          go_wp2_with fail
          go_loopw [11, 13] (fun vb i wr => ∃ (j n : Nat) (bl : List Int), j ≤ ns.length ∧ i = .int .i64 j ∧ bl.length = n ∧ n ≤ 240 + 10 * j ∧ IsBytes bl ∧ wr.ownsRow w.heap.size 5 1 vb n (u8s bl) ∧ Below w.heap.size w wr) (fun _ i _ => ns.length - (intOf i).toNat)
          case atStart => exact ⟨0, nb, bl, by omega, rfl, HBN.out, by omega, HPB.out, HO3.out, HB3.out⟩
          case round =>
            clear hlt hpl HBN HO HPB HBE HB3 HO3
            obtain ⟨j, nb, bl, hj, rfl, hbn, hpl, hpb, ho, hb⟩ := hrel
            have HBN := Lib.hid hbn; clear hbn
            have HO := Lib.hid ho; clear ho
            have HPB := Lib.hid hpb; clear hpb
            have hsz := hb.size
            by_cases hlt : j < ns.length
            · have hx := HNS.out ns[j] (List.getElem_mem hlt)
              obtain ⟨bN, oN, rfl, hbN, hcN⟩ := HN.out.cell (k := j) (by simpa [u64s] using hlt)
              have c1 : wr.cell? ⟨bN, oN + j, none⟩ = some (.int .u64 (ns[j] : Nat)) := by rw [hb.cell (p := ⟨bN, oN + j, none⟩) hbN, hcN]; simp [u64s]
              clear hcN
              generalize ns[j] = x at *
              have HX := Lib.hid hx
              have HBE := Lib.hid hb; clear hb
              go_wp2_with fail
              refine (edge_int x _ wr HX.out (by omega) (by omega)).mono ?_
              rintro e w4 ⟨m, hm, rfl, hb4⟩
              have HB4 := Lib.hid (HBE.out.trans (hb4.mono hsz))
              have HO4 := Lib.hid (own_below HO.out hb4)
              have hs4 := HB4.out.size
              have HM := Lib.hid hm
              clear hb4
              go_wp2_with fail
              refine (refPut_any (w4.heap.size + 1) _ 1 1 [m] _ rfl (by omega) (by intro y hy; simp at hy; have := HM.out; omega) (by simp) (lies_new w4 [.int .u64 m] 29)).mono ?_
              rintro e w5 ⟨v5, rfl, ho5, hb5⟩
              rw [show encs [m] = enc m from by simp [encs]] at ho5
              have hb45 : Below w4.heap.size w4 w5 := (below_alloc w4 _).trans (hb5.mono (by simp))
              obtain ⟨A5, c5, rfl, _, _, _, hl5, _⟩ := Lies.of_own ho5
              have hel := (enc_length_le m (by have := HM.out; omega)).2
              generalize hlq : (enc m).length = n5 at *
              have HLQ := Lib.hid hlq; clear hlq
              have HL5 := Lib.hid hl5; clear hl5 ho5
              have HB5 := Lib.hid (HB4.out.trans (hb45.mono hs4))
              have HO5 := Lib.hid (own_below HO4.out hb45)
              have hs5 := HB5.out.size
              have HY5 := Lib.hid (HPB.out.append (enc_bytes m))
              clear hb5 hb45
              go_wp2_with (at_builtin; go_must (refine wpList_append_lies rfl _ _ rfl w.heap.size _ _ _ rfl HO5.out w5.heap.size A5 n5 c5 _ rfl HLQ.out HL5.out ?c1 ?c2 ?_))
              case c1 => omega
              case c2 => omega
              intro v6 w6 ho6 hb6
              have HO6 := Lib.hid ho6; clear ho6
              have HB6 := Lib.hid (HB5.out.trans hb6); clear hb6
              go_wp2_with fail
              go_roundw
              case rel => exact ⟨j + 1, nb + n5, bl ++ enc m, by omega, by go_num, by rw [List.length_append, HBN.out, HLQ.out], by omega, HY5.out, by simpa [u8s] using HO6.out, HB6.out⟩
              case measure => simp [intOf]; omega
            · have HBE := Lib.hid hb; clear hb
              obtain ⟨Ab, cb, rfl, hcb1, hcb2, _, hlb, _⟩ := Lies.of_own HO.out
              have HCB := Lib.hid (And.intro hcb1 hcb2); clear hcb1 hcb2
              have HLB := Lib.hid hlb; clear hlb
              go_wp2_with (at_builtin; go_must (refine wpList_append_lies rfl _ _ rfl wr.heap.size _ _ _ rfl (World.ownsRow_nil _ _ _ _) wr.heap.size Ab nb cb bl rfl HBN.out HLB.out ?c1 ?c2 ?_))
              case c1 => omega
              case c2 => exact Nat.le_refl _
              intro v102 w2 ho2 hb2
              have HO2 := Lib.hid ho2; clear ho2
              have HR2 := Lib.hid (HR.out.below (HBE.out.trans (hb2.mono hsz)))
              have HB2 := Lib.hid hb2; clear hb2
              have hs2 := HB2.out.size
              go_wp2_with (at_builtin; go_must (refine wpList_append_lies rfl _ _ rfl wr.heap.size v102 _ _ rfl HO2.out w.heap.size AR raw.length cR raw rfl rfl HR2.out ?c1 ?c2 ?_))
              case c1 => omega
              case c2 => exact hs2
              intro v104 w3 ho3 hb3
              have HO3 := Lib.hid (show w3.ownsRow wr.heap.size 5 1 v104 (nb + raw.length) (u8s (bl ++ raw)) from by simpa [u8s] using ho3); clear ho3
              have HB3 := Lib.hid (HB2.out.trans hb3); clear hb3
              have hs3 := HB3.out.size
              have HR3 := Lib.hid (HR.out.below (HBE.out.trans (HB3.out.mono hsz)))
              go_wp2_with (at_builtin; go_must (refine wpList_append_lies rfl _ _ rfl w3.heap.size _ _ _ rfl (own_lits w3 w3.heap.size 10 #[Value.int IntKind.u8 (128 + ↑k % 4), Value.int IntKind.u8 255, Value.int IntKind.u8 255, Value.int IntKind.u8 255, Value.int IntKind.u8 255, Value.int IntKind.u8 255, Value.int IntKind.u8 255, Value.int IntKind.u8 255, Value.int IntKind.u8 255, Value.int IntKind.u8 127] rfl (by omega) (Nat.le_refl _)) w.heap.size AR raw.length cR raw rfl rfl (HR3.out.below ((below_alloc w3 _).mono (Nat.le_trans hsz hs3))) ?c1 ?c2 ?_))
              case c1 => omega
              case c2 => simp
              intro v110 w4 ho4 hb4
              have HO4 := Lib.hid (show w4.ownsRow w3.heap.size 5 1 v110 (10 + raw.length) (u8s ([128 + (k : Int) % 4, 255, 255, 255, 255, 255, 255, 255, 255, 127] ++ raw)) from by simpa [u8s] using ho4); clear ho4
              have HB34 := Lib.hid ((below_alloc w3 _).trans hb4); clear hb4
              have hs34 := HB34.out.size
              have HB4 := Lib.hid (HB3.out.trans (HB34.out.mono hs3))
              have HR4 := Lib.hid (HR.out.below (HBE.out.trans (HB4.out.mono hsz)))
              have hs4 := HB4.out.size
              go_wp2_with (at_builtin; go_must (refine wpList_append_lies rfl _ _ rfl w4.heap.size _ _ _ rfl (own_lits w4 w4.heap.size 10 #[Value.int IntKind.u8 (129 + ↑k % 3), Value.int IntKind.u8 255, Value.int IntKind.u8 255, Value.int IntKind.u8 255, Value.int IntKind.u8 255, Value.int IntKind.u8 255, Value.int IntKind.u8 255, Value.int IntKind.u8 255, Value.int IntKind.u8 255, Value.int IntKind.u8 255] rfl (by omega) (Nat.le_refl _)) w.heap.size AR raw.length cR raw rfl rfl (HR4.out.below ((below_alloc w4 _).mono (Nat.le_trans hsz hs4))) ?c1 ?c2 ?_))
              case c1 => omega
              case c2 => simp
              intro v116 w5 ho5 hb5
              have HO5 := Lib.hid (show w5.ownsRow w4.heap.size 5 1 v116 (10 + raw.length) (u8s ([129 + (k : Int) % 3, 255, 255, 255, 255, 255, 255, 255, 255, 255] ++ raw)) from by simpa [u8s] using ho5); clear ho5
              have HB45 := Lib.hid ((below_alloc w4 _).trans hb5); clear hb5
              have hs45 := HB45.out.size
              have HB5 := Lib.hid (HB4.out.trans (HB45.out.mono hs4))
              have hs5 := HB5.out.size
              obtain ⟨A2, c2, rfl, hc21, hc22, _, hl2, _⟩ := Lies.of_own HO3.out
              have HC2 := Lib.hid (And.intro hc21 hc22); clear hc21 hc22
              obtain ⟨A3, c3, rfl, hc31, hc32, _, hl3, _⟩ := Lies.of_own HO4.out
              have HC3 := Lib.hid (And.intro hc31 hc32); clear hc31 hc32
              obtain ⟨A4, c4, rfl, hc41, hc42, _, hl4, _⟩ := Lies.of_own HO5.out
              have HC4 := Lib.hid (And.intro hc41 hc42); clear hc41 hc42
              have HL2 := Lib.hid hl2; clear hl2
              have HL3 := Lib.hid hl3; clear hl3
              have HL4 := Lib.hid hl4; clear hl4
              go_wp2_with fail
              obtain ⟨W6, hW6⟩ : ∃ W, W = w5.alloc (.cells #[Value.slice AR raw.length cR, Value.slice Ab nb cb, Value.slice A2 (nb + raw.length) c2, Value.slice A3 (10 + raw.length) c3, Value.slice A4 (10 + raw.length) c4] 22) := ⟨_, rfl⟩
              have hS6 : W6.heap.size = w5.heap.size + 1 := by rw [hW6, World.size_alloc]
              have hB56 : Below w5.heap.size w5 W6 := by rw [hW6]; exact below_alloc _ _
              have hbw6 : Below w.heap.size w W6 := (HBE.out.trans (HB5.out.mono hsz)).trans (hB56.mono (Nat.le_trans hsz hs5))
              have hwr6 : Below wr.heap.size wr W6 := HB5.out.trans (hB56.mono hs5)
              have h36 : Below w3.heap.size w3 W6 := (HB34.out.trans (HB45.out.mono hs34)).trans (hB56.mono (Nat.le_trans hs34 hs45))
              have h46 : Below w4.heap.size w4 W6 := HB45.out.trans (hB56.mono hs45)
              have hff : IsBytes [255, 255, 255, 255, 255, 255, 255, 255, 127] := by intro u hu; simp at hu; omega
              have hfg : IsBytes [255, 255, 255, 255, 255, 255, 255, 255, 255] := by intro u hu; simp at hu; omega
              obtain ⟨rows, hrl5, hX, hG⟩ : ∃ rows : List BRow, rows.length = 5 ∧ Lies W6 W6.heap.size (some ⟨w5.heap.size, 0, none⟩) (rows.map BRow.hdr) ∧ ∀ r ∈ rows, Good W6 r := by
                refine ⟨[⟨AR, cR, raw⟩, ⟨Ab, cb, bl⟩, ⟨A2, c2, bl ++ raw⟩, ⟨A3, c3, [128 + (k : Int) % 4, 255, 255, 255, 255, 255, 255, 255, 255, 127] ++ raw⟩, ⟨A4, c4, [129 + (k : Int) % 3, 255, 255, 255, 255, 255, 255, 255, 255, 255] ++ raw⟩], rfl, ?_, ?_⟩
                · have h := lies_new w5 [Value.slice AR raw.length cR, Value.slice Ab nb cb, Value.slice A2 (nb + raw.length) c2, Value.slice A3 (10 + raw.length) c3, Value.slice A4 (10 + raw.length) c4] 22
                  rw [hS6, hW6]
                  have e3 : ([128 + (k : Int) % 4, 255, 255, 255, 255, 255, 255, 255, 255, 127] ++ raw).length = 10 + raw.length := by rw [List.length_append]; rfl
                  have e4 : ([129 + (k : Int) % 3, 255, 255, 255, 255, 255, 255, 255, 255, 255] ++ raw).length = 10 + raw.length := by rw [List.length_append]; rfl
                  simp only [List.map_cons, List.map_nil, BRow.hdr, e3, e4]
                  rw [List.length_append, HBN.out]
                  exact h
                · intro r hr
                  simp only [List.mem_cons, List.not_mem_nil, or_false] at hr
                  rcases hr with rfl | rfl | rfl | rfl | rfl
                  · exact good_of (n := raw.length) (by omega) rfl hrc HRM.out HRB.out (HR.out.below hbw6) hbw6.size
                  · exact good_of (n := nb) (by omega) HBN.out HCB.out.1 HCB.out.2 HPB.out (HLB.out.below hwr6) hwr6.size
                  · exact good_of (n := nb + raw.length) (by omega) (by rw [List.length_append, HBN.out]) HC2.out.1 HC2.out.2 (HPB.out.append HRB.out) (HL2.out.below h36) h36.size
                  · exact good_of (n := 10 + raw.length) (by omega) (by rw [List.length_append]; rfl) HC3.out.1 HC3.out.2 ((lit_bytes _ _ (by omega) (by omega) hff).append HRB.out) (HL3.out.below h46) h46.size
                  · exact good_of (n := 10 + raw.length) (by omega) (by rw [List.length_append]; rfl) HC4.out.1 HC4.out.2 ((lit_bytes _ _ (by omega) (by omega) hfg).append HRB.out) (HL4.out.below hB56) hB56.size
              rw [← hW6]
              have HX := Lib.hid hX; clear hX
              have HG := Lib.hid hG; clear hG
              have HB6 := Lib.hid hbw6
              have hs6 := hbw6.size
              generalize hxx : w5.heap.size = xx at *
              clear hxx hW6 hS6 hB56 hbw6 hwr6 h36 h46 hff hfg HC2 HC3 HC4 HCB HL2 HL3 HL4 HLB HO2 HO3 HO4 HO5 HB2 HB3 HB34 HB4 HB45 HB5 HR2 HR3 HR4 HBE HO HPB HBN hs2 hs3 hs34 hs4 hs45 hs5 hpl
              go_loopw [119] (fun i wr => ∃ j : Nat, j ≤ 5 ∧ i = .int .i64 j ∧ Below W6.heap.size W6 wr) (fun i _ => 5 - (intOf i).toNat)
              case atStart => exact ⟨0, by omega, rfl, Below.refl _ _⟩
              case round =>
                clear hlt hsz
                obtain ⟨q, hq, rfl, hb⟩ := hrel
                have hsz := hb.size
                by_cases hlt : q < 5
                · have hG := HG.out rows[q] (List.getElem_mem (by omega))
                  obtain ⟨bX, oX, hXe, hbX, hcX⟩ := HX.out.cell (k := q) (by simp; omega)
                  injection hXe with hXe; injection hXe with hx1 hx2
                  subst hx1 hx2
                  rw [Nat.zero_add] at hcX
                  have c1 : wr.cell? ⟨xx, q, none⟩ = some (.slice rows[q].A rows[q].l.length rows[q].c) := by rw [hb.cell (p := ⟨xx, q, none⟩) hbX, hcX]; simp [BRow.hdr]
                  clear hcX
                  generalize rows[q] = r at *
                  have HGR := Lib.hid hG; clear hG
                  have HBE := Lib.hid hb; clear hb
                  have hrl6 := HGR.out.1
                  go_wp2_with fail
                  refine (new_n W6.heap.size r.A r.c _ r.l wr rfl (by omega) hsz (HGR.out.2.2.2.2.below HBE.out) HGR.out.2.2.2.1).mono ?_
                  rintro e w7 ⟨g, rfl, hg, R7, hb7⟩
                  go_wp2_with fail
                  obtain ⟨W8, hW8⟩ : ∃ W, W = w7.alloc (.cells #[.slice r.A r.l.length r.c, .int .i64 0] 35) := ⟨_, rfl⟩
                  have hb78 : Below w7.heap.size w7 W8 := by rw [hW8]; exact below_alloc _ _
                  have hb67 : Below W6.heap.size W6 w7 := HBE.out.trans (hb7.mono hsz)
                  have hb68 : Below W6.heap.size W6 W8 := hb67.trans (hb78.mono hb67.size)
                  have r8 : Rd W8 g g 50 (r.l, 0) := R7.below hb78
                  have q8 : Rd W8 W6.heap.size w7.heap.size 35 (r.l, 0) :=
                    ⟨hb67.size, ⟨r.A, r.c, by rw [hW8]; exact heap_alloc_new w7 _, HGR.out.2.1, HGR.out.2.2.1, HGR.out.2.2.2.2.below hb68⟩, HGR.out.2.2.2.1⟩
                  have hgg : g < w7.heap.size := R7.lt
                  have hwg : W6.heap.size ≤ g := Nat.le_trans hsz hg
                  rw [← hW8]
                  generalize hg2 : w7.heap.size = g2 at *
                  have R8 := Lib.hid r8; clear r8
                  have Q8 := Lib.hid q8; clear q8
                  have HB8 := Lib.hid hb68
                  clear hg2 hW8 hb78 hb67 hb68 R7 hb7 HBE
                  go_loopw [18] (fun i wr => ∃ (j : Nat) (st : RS), j ≤ ls.length ∧ i = .int .i64 j ∧ st.1.length ≤ 600 ∧ Rd wr g g 50 st ∧ Rd wr W6.heap.size g2 35 st ∧ Below W6.heap.size W6 wr) (fun i _ => ls.length - (intOf i).toNat)
                  case atStart => exact ⟨0, (r.l, 0), by omega, rfl, hrl6, R8.out, Q8.out, HB8.out⟩
                  case round =>
                    clear R8 Q8 HB8 hsz hrl6 hg c1
                    obtain ⟨t, st, ht, rfl, hst6, hrd, hqd, hb⟩ := hrel
                    have hsz := hb.size
                    have HRD := Lib.hid hrd; clear hrd
                    have HQD := Lib.hid hqd; clear hqd
                    have HBE := Lib.hid hb; clear hb
                    by_cases htl : t < ls.length
                    · obtain ⟨bC, oC, hCe, hbC, hc1, hc2⟩ := HC.out t htl
                      have hlsb := HLS.out ls[t] (List.getElem_mem htl)
                      have hbw := (HB6.out.trans (HBE.out.mono hs6))
                      have c1 : wr.cell? ⟨bC, oC + t * 2, none⟩ = some (.bool ls[t].1) := by rw [hbw.cell (p := ⟨bC, oC + t * 2, none⟩) hbC]; exact hc1
                      have c2 : wr.cell? ⟨bC, oC + t * 2 + 1, none⟩ = some (.int .u64 ls[t].2) := by rw [hbw.cell (p := ⟨bC, oC + t * 2 + 1, none⟩) hbC]; exact hc2
                      clear hc1 hc2 hbw
                      subst hCe
                      generalize ls[t] = p at *
                      obtain ⟨isLump, m⟩ := p
                      dsimp only at c1 c2 hlsb
                      have hm64 : m ≤ 18446744073709551615 := hlsb
                      have HM64 := Lib.hid hm64
                      clear hlsb hm64
                      go_upto_if 140 with fail
                      go_cut [] from 141 to 147 (fun wx => ∃ m' : Nat, m' ≤ 18446744073709551615 ∧ wx.heap[wr.heap.size]? = some (.cells #[.bool isLump, .int .u64 m'] 37 (0, 0)) ∧ Rd wx g g 50 st ∧ Rd wx W6.heap.size g2 35 st ∧ Below W6.heap.size W6 wx)
                      case first =>
                        by_cases h3 : 0 < (t : Int) % 3
                        · obtain ⟨y, hy64, hyc⟩ := pick3_cell (wr.alloc (.cells #[.bool isLump, .int .u64 m] 37)) m
                          have hyc' := hyc
                          simp only [World.size_alloc] at hyc'
                          go_wp2_with fail
                          go_meet
                          exact ⟨y, hy64, heap_alloc2 _ _ _, HRD.out.below (below_alloc2 _ _ _), HQD.out.below (below_alloc2 _ _ _), HBE.out.trans ((below_alloc2 _ _ _).mono hsz)⟩
                        · go_wp2_with fail
                          go_meet
                          exact ⟨m, HM64.out, heap_alloc_new wr _, HRD.out.below (below_alloc _ _), HQD.out.below (below_alloc _ _), HBE.out.trans ((below_alloc _ _).mono hsz)⟩
                      case rest =>
                        obtain ⟨m', hm', hblk, hrd2, hqd2, hb2⟩ := hcut
                        generalize hga : wr.heap.size = ga at *
                        have d0 : wc.cell? ⟨ga, 0, none⟩ = some (.bool isLump) := cell_blk hblk 0
                        have d1 : wc.cell? ⟨ga, 1, none⟩ = some (.int .u64 m') := cell_blk hblk 1
                        have HBK := Lib.hid hblk; clear hblk
                        clear hga c1 c2 HRD HQD HBE HM64
                        have HRD := Lib.hid hrd2; clear hrd2
                        have HQD := Lib.hid hqd2; clear hqd2
                        have HBE := Lib.hid hb2; clear hb2
                        have HM := Lib.hid hm'; clear hm'
                        go_upto_if 149 with fail
                        go_cut [20] from 150 to 175 (fun _ wx => ∃ st' : RS, st'.1.length ≤ 600 ∧ Rd wx g g 50 st' ∧ Rd wx W6.heap.size g2 35 st' ∧ Below W6.heap.size W6 wx)
                        case first =>
                          have nga : ga ≠ g := fun e => by
                            have h1 := HBK.out
                            obtain ⟨_, _, h2, _⟩ := HRD.out.blk
                            rw [e, h2] at h1
                            injection h1 with h1; injection h1 with _ h1; exact absurd h1 (by decide)
                          have nga2 : ga ≠ g2 := fun e => by
                            have h1 := HBK.out
                            obtain ⟨_, _, h2, _⟩ := HQD.out.blk
                            rw [e, h2] at h1
                            injection h1 with h1; injection h1 with _ h1; exact absurd h1 (by decide)
                          have hgq := HQD.out.le
                          cases isLump
                          · obtain ⟨s1, hs1⟩ : ∃ q, q = (numR m' st).2 := ⟨_, rfl⟩
                            have hnl := numR_left m' st
                            rw [← hs1] at hnl
                            obtain ⟨y, hy⟩ : ∃ q, q = (numR m' st).1 := ⟨_, rfl⟩
                            have HS1 := Lib.hid hs1; clear hs1
                            have HY := Lib.hid hy; clear hy
                            have HTW := Lib.hid (show Two W6 g g2 ga (.cells #[.bool false, .int .u64 m'] 37 (0, 0)) st s1 0 wc from ⟨HRD.out, HQD.out, HBE.out, HBK.out⟩)
                            go_wp2_with fail
                            refine Reg.wp_facts_sl [167, 168, 169, 170, 171, 172, 173, 174, 175] rfl [3, 7] [[], [], [(1, 168)], [(0, 167), (2, 169)], [], [], [(5, 172)], [(4, 171), (6, 173)], [(3, 170), (7, 174)]] [(8, 175)] (Reg.Known (pr36Val g g2 ga m' y) (fun _ _ _ => True) []) (Two W6 g g2 ga (.cells #[.bool false, .int .u64 m'] 37 (0, 0)) st s1) (by kernel_rfl) (by kernel_rfl) ?start ?steps ?finish
                            case start => exact HTW.out.drew
                            case steps =>
                              refine Reg.Steps.zip ?_ ?_
                              · refine Reg.step_go rfl ?_
                                intro a wi ki hf hd hS hc K hK
                                have f16 : a.tmps.getD 16 undef = .pointer (some ⟨g, 0, none⟩) := hf.same 16 rfl
                                clear hf hd hc
                                have hK0 := Lib.hid hK; clear hK
                                have hS0 := Lib.hid hS; clear hS
                                go_simp
                                exact hK0.out _ _ (Reg.Known.mk_val rfl rfl) (fun _ _ h => h) hS0.out
                              refine Reg.Steps.zip ?_ ?_
                              · refine Reg.step_go rfl ?_
                                intro a wi ki hf hd hS hc K hK
                                have f19 : a.tmps.getD 19 undef = .pointer (some ⟨ga, 0, none⟩) := hf.same 19 rfl
                                clear hf hd hc
                                have hK0 := Lib.hid hK; clear hK
                                have hS0 := Lib.hid hS; clear hS
                                go_simp
                                exact hK0.out _ _ (Reg.Known.mk_val rfl rfl) (fun _ _ h => h) hS0.out
                              refine Reg.Steps.zip ?_ ?_
                              · refine Reg.step_go rfl ?_
                                intro a wi ki hf hd hS hc K hK
                                have e168 : a.tmps.getD 168 undef = .pointer (some ⟨ga, 1, none⟩) := hd.1.plain rfl
                                clear hf hd hc
                                have cc : wi.cell? ⟨ga, 1, none⟩ = some (.int .u64 m') := cell_blk hS.act 1
                                have hK0 := Lib.hid hK; clear hK
                                have hS0 := Lib.hid hS; clear hS
                                go_simp
                                exact hK0.out _ _ (Reg.Known.mk_val rfl rfl) (fun _ _ h => h) hS0.out
                              refine Reg.Steps.zip ?_ ?_
                              · refine Reg.step_go rfl ?_
                                intro a wi ki hf hd hS hc K hK
                                have e167 : a.tmps.getD 167 undef = .pointer (some ⟨g, 0, none⟩) := hd.1.plain rfl
                                have e169 : a.tmps.getD 169 undef = .int .u64 m' := hd.2.1.plain rfl
                                clear hf hd
                                obtain rfl := hc 0 rfl
                                have HS := Lib.hid hS; clear hS
                                have hK0 := Lib.hid hK; clear hK hc
                                go_simp
                                refine (num_any g g st m' wi HM.out HS.out.a).mono ?_
                                rw [← HY.out, ← HS1.out]
                                rintro e wA ⟨rfl, hR, hgr⟩
                                exact hK0.out _ _ (Reg.Known.mk_val rfl rfl) (fun i u h => ⟨h.plain, fun _ => trivial⟩) ⟨hR, HS.out.b.keep hgr (fun e => by injection e with e; omega) (fun k e => by injection e with e; omega), HS.out.h.trans (below_of_grown hgr (by omega) HS.out.h.size), (hgr.block ga (Array.getElem?_eq_some_iff.1 HS.out.act).1 (fun e => by injection e with e; exact nga e)).trans HS.out.act⟩
                              refine Reg.Steps.zip ?_ ?_
                              · refine Reg.step_go rfl ?_
                                intro a wi ki hf hd hS hc K hK
                                have f17 : a.tmps.getD 17 undef = .pointer (some ⟨g2, 0, none⟩) := hf.same 17 rfl
                                clear hf hd hc
                                have hK0 := Lib.hid hK; clear hK
                                have hS0 := Lib.hid hS; clear hS
                                go_simp
                                exact hK0.out _ _ (Reg.Known.mk_val rfl rfl) (fun _ _ h => h) hS0.out
                              refine Reg.Steps.zip ?_ ?_
                              · refine Reg.step_go rfl ?_
                                intro a wi ki hf hd hS hc K hK
                                have f19 : a.tmps.getD 19 undef = .pointer (some ⟨ga, 0, none⟩) := hf.same 19 rfl
                                clear hf hd hc
                                have hK0 := Lib.hid hK; clear hK
                                have hS0 := Lib.hid hS; clear hS
                                go_simp
                                exact hK0.out _ _ (Reg.Known.mk_val rfl rfl) (fun _ _ h => h) hS0.out
                              refine Reg.Steps.zip ?_ ?_
                              · refine Reg.step_go rfl ?_
                                intro a wi ki hf hd hS hc K hK
                                have e172 : a.tmps.getD 172 undef = .pointer (some ⟨ga, 1, none⟩) := hd.1.plain rfl
                                clear hf hd hc
                                have cc : wi.cell? ⟨ga, 1, none⟩ = some (.int .u64 m') := cell_blk hS.act 1
                                have hK0 := Lib.hid hK; clear hK
                                have hS0 := Lib.hid hS; clear hS
                                go_simp
                                exact hK0.out _ _ (Reg.Known.mk_val rfl rfl) (fun _ _ h => h) hS0.out
                              refine Reg.Steps.zip ?_ ?_
                              · refine Reg.step_go rfl ?_
                                intro a wi ki hf hd hS hc K hK
                                have e171 : a.tmps.getD 171 undef = .pointer (some ⟨g2, 0, none⟩) := hd.1.plain rfl
                                have e173 : a.tmps.getD 173 undef = .int .u64 m' := hd.2.1.plain rfl
                                clear hf hd
                                obtain rfl := hc 1 rfl
                                have HS := Lib.hid hS; clear hS
                                have hK0 := Lib.hid hK; clear hK hc
                                go_simp
                                refine (refNum_any W6.heap.size g2 st m' wi HM.out HS.out.b).mono ?_
                                rw [← HY.out, ← HS1.out]
                                rintro e wA ⟨rfl, hR, hgr⟩
                                exact hK0.out _ _ (Reg.Known.mk_val rfl rfl) (fun i u h => ⟨h.plain, fun _ => trivial⟩) ⟨HS.out.a.keep hgr (fun e => by injection e with e; omega) (fun k e => by injection e with e; omega), hR, HS.out.h.trans (below_of_grown hgr hgq HS.out.h.size), (hgr.block ga (Array.getElem?_eq_some_iff.1 HS.out.act).1 (fun e => by injection e with e; exact nga2 e)).trans HS.out.act⟩
                              refine Reg.Steps.zip ?_ ?_
                              · refine Reg.step_go rfl ?_
                                intro a wi ki hf hd hS hc K hK
                                have e170 : a.tmps.getD 170 undef = .int .u64 y := hd.1.plain rfl
                                have e174 : a.tmps.getD 174 undef = .int .u64 y := hd.2.1.plain rfl
                                clear hf hd hc
                                have hK0 := Lib.hid hK; clear hK
                                have hS0 := Lib.hid hS; clear hS
                                go_simp
                                exact hK0.out _ _ (Reg.Known.mk_val rfl rfl) (fun _ _ h => h) hS0.out
                              exact Reg.Steps.nil
                            case finish =>
                              intro a w3 hf hd hS
                              obtain ⟨u, hu⟩ : ∃ u : Nat → Value, u = fun s => a.tmps.getD s undef := ⟨_, rfl⟩
                              have e175 : u 175 = .bool false := by rw [hu]; exact hd.1.plain rfl
                              rw [hf.eq, ← hu]
                              clear hf hu hd
                              have HS3 := Lib.hid hS; clear hS
                              simp [Reg.filled, e175]
                              clear e175
                              go_wp2_with fail
                              go_meet
                              exact ⟨s1, by omega, HS3.out.a, HS3.out.b, HS3.out.h⟩
                          · have h45 := and4095 m' HM.out
                            go_upto_if 157 with fail
                            go_cut [20] from 150 to 157 (fun s wx => (∃ mm : Int, -9223372036854775808 ≤ mm ∧ mm ≤ 9223372036854775807 ∧ s = .int .i64 mm) ∧ Same wc wx)
                            case first =>
                              go_wp2_with fail
                              all_goals go_meet
                              all_goals first
                                | exact ⟨⟨_, by omega, by omega, rfl⟩, ⟨rfl⟩⟩
                                | exact ⟨⟨_, by unfold wrap64; omega, by unfold wrap64; omega, rfl⟩, ⟨rfl⟩⟩
                            case rest =>
                              obtain ⟨⟨mm, hmm0, hmm1, rfl⟩, ⟨rfl⟩⟩ := hcut
                              obtain ⟨s1, hs1⟩ : ∃ q, q = (lumpR mm st).2 := ⟨_, rfl⟩
                              have hnl := lumpR_left mm st
                              rw [← hs1] at hnl
                              obtain ⟨y, hy⟩ : ∃ q, q = (lumpR mm st).1 := ⟨_, rfl⟩
                              have HS1 := Lib.hid hs1; clear hs1
                              have HY := Lib.hid hy; clear hy
                              have HTW := Lib.hid (show Two W6 g g2 ga (.cells #[.bool true, .int .u64 m'] 37 (0, 0)) st s1 0 wc from ⟨HRD.out, HQD.out, HBE.out, HBK.out⟩)
                              go_wp2_with fail
                              refine Reg.wp_facts_sl [158, 159, 160, 161, 162, 163, 164, 165, 166] rfl [2, 6] [[], [], [(0, 158), (1, 159)], [(2, 160)], [], [], [(4, 162), (5, 163)], [(6, 164)], [(3, 161), (7, 165)]] [(8, 166)] (Reg.Known (pr34Val g g2 mm y) (Away g g2 y) [2, 6]) (Two W6 g g2 ga (.cells #[.bool true, .int .u64 m'] 37 (0, 0)) st s1) (by kernel_rfl) (by kernel_rfl) ?start ?steps ?finish
                              case start => exact HTW.out.drew
                              case steps =>
                                refine Reg.Steps.zip ?_ ?_
                                · refine Reg.step_go rfl ?_
                                  intro a wi ki hf hd hS hc K hK
                                  have f16 : a.tmps.getD 16 undef = .pointer (some ⟨g, 0, none⟩) := hf.same 16 rfl
                                  clear hf hd hc
                                  have hK0 := Lib.hid hK; clear hK
                                  have hS0 := Lib.hid hS; clear hS
                                  go_simp
                                  exact hK0.out _ _ (Reg.Known.mk_val rfl rfl) (fun _ _ h => h) hS0.out
                                refine Reg.Steps.zip ?_ ?_
                                · refine Reg.step_go rfl ?_
                                  intro a wi ki hf hd hS hc K hK
                                  have f20 : a.tmps.getD 20 undef = .int .i64 mm := hf.same 20 rfl
                                  clear hf hd hc
                                  have hK0 := Lib.hid hK; clear hK
                                  have hS0 := Lib.hid hS; clear hS
                                  go_simp
                                  exact hK0.out _ _ (Reg.Known.mk_val rfl rfl) (fun _ _ h => h) hS0.out
                                refine Reg.Steps.zip ?_ ?_
                                · refine Reg.step_go rfl ?_
                                  intro a wi ki hf hd hS hc K hK
                                  have e158 : a.tmps.getD 158 undef = .pointer (some ⟨g, 0, none⟩) := hd.1.plain rfl
                                  have e159 : a.tmps.getD 159 undef = .int .i64 mm := hd.2.1.plain rfl
                                  clear hf hd
                                  obtain rfl := hc 0 rfl
                                  have HS := Lib.hid hS; clear hS
                                  have hK0 := Lib.hid hK; clear hK hc
                                  go_simp
                                  refine (lump_any g g st mm wi ⟨hmm0, hmm1⟩ (by omega) HS.out.a).mono ?_
                                  rw [← HY.out, ← HS1.out]
                                  rintro e wA ⟨vL, rfl, hoL, hR, hgr⟩
                                  obtain ⟨AL', cL', rfl, _, _, _, hlL, hbl⟩ := Lies.of_own hoL
                                  have hl1 := HS.out.a.lt
                                  have hl2 := HS.out.b.lt
                                  exact hK0.out _ _ (Reg.Known.mk_other rfl ⟨AL', _, cL', rfl, rfl, fun hp => by obtain ⟨b, off, e, hb, hc⟩ := hlL hp; have := (hbl b off e).1; exact ⟨b, off, e, by omega, by omega, hb, hc⟩⟩) (fun i u h => known_away h hgr (.inl rfl)) ⟨hR, HS.out.b.keep hgr (fun e => by injection e with e; omega) (fun k e => by injection e with e; omega), HS.out.h.trans (below_of_grown hgr (by omega) HS.out.h.size), (hgr.block ga (Array.getElem?_eq_some_iff.1 HS.out.act).1 (fun e => by injection e with e; exact nga e)).trans HS.out.act⟩
                                refine Reg.Steps.zip ?_ ?_
                                · refine Reg.step_go rfl ?_
                                  intro a wi ki hf hd hS hc K hK
                                  have x160 := hd.1.other rfl
                                  clear hf hd hc
                                  obtain ⟨A160, n160, c160, e160, hn160, hl160⟩ := x160
                                  have cv := conv_bytes (B := wi.heap.size) hn160 (fun hp => by obtain ⟨b, off, e, _, _, hb, hc⟩ := hl160 hp; exact ⟨b, off, e, hb, hc⟩) c160
                                  clear hn160 hl160
                                  have hK0 := Lib.hid hK; clear hK
                                  have hS0 := Lib.hid hS; clear hS
                                  go_simp
                                  exact hK0.out _ _ (Reg.Known.mk_val rfl rfl) (fun _ _ h => h) hS0.out
                                refine Reg.Steps.zip ?_ ?_
                                · refine Reg.step_go rfl ?_
                                  intro a wi ki hf hd hS hc K hK
                                  have f17 : a.tmps.getD 17 undef = .pointer (some ⟨g2, 0, none⟩) := hf.same 17 rfl
                                  clear hf hd hc
                                  have hK0 := Lib.hid hK; clear hK
                                  have hS0 := Lib.hid hS; clear hS
                                  go_simp
                                  exact hK0.out _ _ (Reg.Known.mk_val rfl rfl) (fun _ _ h => h) hS0.out
                                refine Reg.Steps.zip ?_ ?_
                                · refine Reg.step_go rfl ?_
                                  intro a wi ki hf hd hS hc K hK
                                  have f20 : a.tmps.getD 20 undef = .int .i64 mm := hf.same 20 rfl
                                  clear hf hd hc
                                  have hK0 := Lib.hid hK; clear hK
                                  have hS0 := Lib.hid hS; clear hS
                                  go_simp
                                  exact hK0.out _ _ (Reg.Known.mk_val rfl rfl) (fun _ _ h => h) hS0.out
                                refine Reg.Steps.zip ?_ ?_
                                · refine Reg.step_go rfl ?_
                                  intro a wi ki hf hd hS hc K hK
                                  have e162 : a.tmps.getD 162 undef = .pointer (some ⟨g2, 0, none⟩) := hd.1.plain rfl
                                  have e163 : a.tmps.getD 163 undef = .int .i64 mm := hd.2.1.plain rfl
                                  clear hf hd
                                  obtain rfl := hc 1 rfl
                                  have HS := Lib.hid hS; clear hS
                                  have hK0 := Lib.hid hK; clear hK hc
                                  go_simp
                                  refine (refLumpR_any W6.heap.size g2 st mm wi ⟨hmm0, hmm1⟩ HS.out.b).mono ?_
                                  rw [show lumpR mm st = (y, s1) from by rw [HY.out, HS1.out]]
                                  rintro e wA ⟨A6, n6, c6, rfl, hn6, hl6, hR, hgr⟩
                                  have hs6' := HS.out.h.size
                                  have hs7 := hgr.size
                                  exact hK0.out _ _ (Reg.Known.mk_other rfl ⟨A6, n6, c6, rfl, hn6, fun hp => by obtain ⟨b, off, e, hb, hc⟩ := hl6 hp; exact ⟨b, off, e, by omega, by omega, by omega, hc⟩⟩) (fun i u h => known_away h hgr (.inr rfl)) ⟨HS.out.a.keep hgr (fun e => by injection e with e; omega) (fun k e => by injection e with e; omega), hR, HS.out.h.trans (below_of_grown hgr hgq HS.out.h.size), (hgr.block ga (Array.getElem?_eq_some_iff.1 HS.out.act).1 (fun e => by injection e with e; exact nga2 e)).trans HS.out.act⟩
                                refine Reg.Steps.zip ?_ ?_
                                · refine Reg.step_go rfl ?_
                                  intro a wi ki hf hd hS hc K hK
                                  have x164 := hd.1.other rfl
                                  clear hf hd hc
                                  obtain ⟨A164, n164, c164, e164, hn164, hl164⟩ := x164
                                  have cv := conv_bytes (B := wi.heap.size) hn164 (fun hp => by obtain ⟨b, off, e, _, _, hb, hc⟩ := hl164 hp; exact ⟨b, off, e, hb, hc⟩) c164
                                  clear hn164 hl164
                                  have hK0 := Lib.hid hK; clear hK
                                  have hS0 := Lib.hid hS; clear hS
                                  go_simp
                                  exact hK0.out _ _ (Reg.Known.mk_val rfl rfl) (fun _ _ h => h) hS0.out
                                refine Reg.Steps.zip ?_ ?_
                                · refine Reg.step_go rfl ?_
                                  intro a wi ki hf hd hS hc K hK
                                  have e161 : a.tmps.getD 161 undef = .string (strOfNums y) := hd.1.plain rfl
                                  have e165 : a.tmps.getD 165 undef = .string (strOfNums y) := hd.2.1.plain rfl
                                  clear hf hd hc
                                  have hK0 := Lib.hid hK; clear hK
                                  have hS0 := Lib.hid hS; clear hS
                                  go_simp
                                  exact hK0.out _ _ (Reg.Known.mk_val rfl rfl) (fun _ _ h => h) hS0.out
                                exact Reg.Steps.nil
                              case finish =>
                                intro a w3 hf hd hS
                                obtain ⟨u, hu⟩ : ∃ u : Nat → Value, u = fun s => a.tmps.getD s undef := ⟨_, rfl⟩
                                have e166 : u 166 = .bool false := by rw [hu]; exact hd.1.plain rfl
                                rw [hf.eq, ← hu]
                                clear hf hu hd
                                have HS3 := Lib.hid hS; clear hS
                                simp [Reg.filled, e166]
                                clear e166
                                go_wp2_with fail
                                go_meet
                                exact ⟨s1, by omega, HS3.out.a, HS3.out.b, HS3.out.h⟩
                        case rest =>
                          clear d0 d1 HBK HRD HQD HBE HM hst6
                          obtain ⟨st', hst6, hrd2, hqd2, hb2⟩ := hcut
                          obtain ⟨Aq, cq, hgq, _⟩ := hqd2.blk
                          have q0 : wc.cell? ⟨g2, 0, none⟩ = some (.slice Aq st'.1.length cq) := cell_blk hgq 0
                          have q1 : wc.cell? ⟨g2, 1, none⟩ = some (.int .i64 st'.2) := cell_blk hgq 1
                          have HQ0 := Lib.hid q0; clear q0
                          have HQ1 := Lib.hid q1; clear q1
                          have HRD := Lib.hid hrd2; clear hrd2
                          have HQD := Lib.hid hqd2; clear hqd2
                          have HBE := Lib.hid hb2; clear hb2 hgq
                          go_wp2_with fail
                          refine Reg.wp_facts_sl [176, 177, 178, 179, 180, 181, 182, 183, 184, 185, 186, 187, 188, 189, 190, 191, 192] rfl [] [[], [(0, 176)], [], [(2, 178)], [(3, 179)], [(4, 180)], [(1, 177), (5, 181)], [(6, 182)], [], [(8, 184)], [], [(10, 186)], [(11, 187)], [(12, 188)], [(13, 189)], [(9, 185), (14, 190)], [(7, 183), (15, 191)]] [(16, 192)] (Reg.Known (pr38Val g g2 Aq cq st') (fun _ _ _ => True) []) (fun _ w' => Same wc.drew w') (by kernel_rfl) (by kernel_rfl) ?start ?steps ?finish
                          case start => exact ⟨rfl⟩
                          case steps =>
                            refine Reg.Steps.zip ?_ ?_
                            · refine Reg.step_go rfl ?_
                              intro a wi ki hf hd hS hc K hK
                              have f16 : a.tmps.getD 16 undef = .pointer (some ⟨g, 0, none⟩) := hf.same 16 rfl
                              clear hf hd hc
                              have hK0 := Lib.hid hK; clear hK
                              have hS0 := Lib.hid hS; clear hS
                              go_simp
                              exact hK0.out _ _ (Reg.Known.mk_val rfl rfl) (fun _ _ h => h) hS0.out
                            refine Reg.Steps.zip ?_ ?_
                            · refine Reg.step_go rfl ?_
                              intro a wi ki hf hd hS hc K hK
                              have e176 : a.tmps.getD 176 undef = .pointer (some ⟨g, 0, none⟩) := hd.1.plain rfl
                              clear hf hd
                              have hS0 := Lib.hid hS; clear hS
                              have hK0 := Lib.hid hK; clear hK hc
                              go_simp
                              refine (err_any g g st' wi (by rw [hS0.out.eq]; exact rd_drew HRD.out)).mono ?_
                              rintro e wA ⟨rfl, rfl⟩
                              exact hK0.out _ _ (Reg.Known.mk_val rfl rfl) (fun _ _ h => h) hS0.out
                            refine Reg.Steps.zip ?_ ?_
                            · refine Reg.step_go rfl ?_
                              intro a wi ki hf hd hS hc K hK
                              have f17 : a.tmps.getD 17 undef = .pointer (some ⟨g2, 0, none⟩) := hf.same 17 rfl
                              clear hf hd hc
                              have hK0 := Lib.hid hK; clear hK
                              have hS0 := Lib.hid hS; clear hS
                              go_simp
                              exact hK0.out _ _ (Reg.Known.mk_val rfl rfl) (fun _ _ h => h) hS0.out
                            refine Reg.Steps.zip ?_ ?_
                            · refine Reg.step_go rfl ?_
                              intro a wi ki hf hd hS hc K hK
                              have e178 : a.tmps.getD 178 undef = .pointer (some ⟨g2, 0, none⟩) := hd.1.plain rfl
                              clear hf hd hc
                              have hK0 := Lib.hid hK; clear hK
                              have hS0 := Lib.hid hS; clear hS
                              go_simp
                              exact hK0.out _ _ (Reg.Known.mk_val rfl rfl) (fun _ _ h => h) hS0.out
                            refine Reg.Steps.zip ?_ ?_
                            · refine Reg.step_go rfl ?_
                              intro a wi ki hf hd hS hc K hK
                              have e179 : a.tmps.getD 179 undef = .pointer (some ⟨g2, 0, none⟩) := hd.1.plain rfl
                              clear hf hd hc
                              have hK0 := Lib.hid hK; clear hK
                              have hS0 := Lib.hid hS; clear hS
                              go_simp
                              exact hK0.out _ _ (Reg.Known.mk_val rfl rfl) (fun _ _ h => h) hS0.out
                            refine Reg.Steps.zip ?_ ?_
                            · refine Reg.step_go rfl ?_
                              intro a wi ki hf hd hS hc K hK
                              have e180 : a.tmps.getD 180 undef = .pointer (some ⟨g2, 1, none⟩) := hd.1.plain rfl
                              clear hf hd hc
                              have cc : wi.cell? ⟨g2, 1, none⟩ = some (.int .i64 st'.2) := by rw [hS.eq]; exact HQ1.out
                              have hK0 := Lib.hid hK; clear hK
                              have hS0 := Lib.hid hS; clear hS
                              go_simp
                              exact hK0.out _ _ (Reg.Known.mk_val rfl rfl) (fun _ _ h => h) hS0.out
                            refine Reg.Steps.zip ?_ ?_
                            · refine Reg.step_go rfl ?_
                              intro a wi ki hf hd hS hc K hK
                              have e177 : a.tmps.getD 177 undef = .int .i64 st'.2 := hd.1.plain rfl
                              have e181 : a.tmps.getD 181 undef = .int .i64 st'.2 := hd.2.1.plain rfl
                              clear hf hd hc
                              have hK0 := Lib.hid hK; clear hK
                              have hS0 := Lib.hid hS; clear hS
                              go_simp
                              exact hK0.out _ _ (Reg.Known.mk_val rfl rfl) (fun _ _ h => h) hS0.out
                            refine Reg.Steps.zip ?_ ?_
                            · refine Reg.step_go rfl ?_
                              intro a wi ki hf hd hS hc K hK
                              have e182 : a.tmps.getD 182 undef = .bool false := hd.1.plain rfl
                              clear hf hd hc
                              have hK0 := Lib.hid hK; clear hK
                              have hS0 := Lib.hid hS; clear hS
                              go_simp
                              exact hK0.out _ _ (Reg.Known.mk_val rfl rfl) (fun _ _ h => h) hS0.out
                            refine Reg.Steps.zip ?_ ?_
                            · refine Reg.step_on rfl (fun u w h => h.plain rfl) ?_
                              intro a wi ki hf hd hS hc K hK
                              have f16 : a.tmps.getD 16 undef = .pointer (some ⟨g, 0, none⟩) := hf.same 16 rfl
                              clear hf hd hc
                              have hK0 := Lib.hid hK; clear hK
                              have hS0 := Lib.hid hS; clear hS
                              go_simp
                              exact hK0.out _ _ (Reg.Known.mk_val rfl rfl) (fun _ _ h => h) hS0.out
                            refine Reg.Steps.zip ?_ ?_
                            · refine Reg.step_on rfl (fun u w h => h.plain rfl) ?_
                              intro a wi ki hf hd hS hc K hK
                              have e184 : a.tmps.getD 184 undef = .pointer (some ⟨g, 0, none⟩) := hd.1.plain rfl
                              clear hf hd
                              have hS0 := Lib.hid hS; clear hS
                              have hK0 := Lib.hid hK; clear hK hc
                              go_simp
                              refine (left_any g g st' wi (by rw [hS0.out.eq]; exact rd_drew HRD.out)).mono ?_
                              rintro e wA ⟨rfl, rfl⟩
                              exact hK0.out _ _ (Reg.Known.mk_val rfl rfl) (fun _ _ h => h) hS0.out
                            refine Reg.Steps.zip ?_ ?_
                            · refine Reg.step_on rfl (fun u w h => h.plain rfl) ?_
                              intro a wi ki hf hd hS hc K hK
                              have f17 : a.tmps.getD 17 undef = .pointer (some ⟨g2, 0, none⟩) := hf.same 17 rfl
                              clear hf hd hc
                              have hK0 := Lib.hid hK; clear hK
                              have hS0 := Lib.hid hS; clear hS
                              go_simp
                              exact hK0.out _ _ (Reg.Known.mk_val rfl rfl) (fun _ _ h => h) hS0.out
                            refine Reg.Steps.zip ?_ ?_
                            · refine Reg.step_on rfl (fun u w h => h.plain rfl) ?_
                              intro a wi ki hf hd hS hc K hK
                              have e186 : a.tmps.getD 186 undef = .pointer (some ⟨g2, 0, none⟩) := hd.1.plain rfl
                              clear hf hd hc
                              have hK0 := Lib.hid hK; clear hK
                              have hS0 := Lib.hid hS; clear hS
                              go_simp
                              exact hK0.out _ _ (Reg.Known.mk_val rfl rfl) (fun _ _ h => h) hS0.out
                            refine Reg.Steps.zip ?_ ?_
                            · refine Reg.step_on rfl (fun u w h => h.plain rfl) ?_
                              intro a wi ki hf hd hS hc K hK
                              have e187 : a.tmps.getD 187 undef = .pointer (some ⟨g2, 0, none⟩) := hd.1.plain rfl
                              clear hf hd hc
                              have hK0 := Lib.hid hK; clear hK
                              have hS0 := Lib.hid hS; clear hS
                              go_simp
                              exact hK0.out _ _ (Reg.Known.mk_val rfl rfl) (fun _ _ h => h) hS0.out
                            refine Reg.Steps.zip ?_ ?_
                            · refine Reg.step_on rfl (fun u w h => h.plain rfl) ?_
                              intro a wi ki hf hd hS hc K hK
                              have e188 : a.tmps.getD 188 undef = .pointer (some ⟨g2, 0, none⟩) := hd.1.plain rfl
                              clear hf hd hc
                              have cc : wi.cell? ⟨g2, 0, none⟩ = some (.slice Aq st'.1.length cq) := by rw [hS.eq]; exact HQ0.out
                              have hK0 := Lib.hid hK; clear hK
                              have hS0 := Lib.hid hS; clear hS
                              go_simp
                              exact hK0.out _ _ (Reg.Known.mk_val rfl rfl) (fun _ _ h => h) hS0.out
                            refine Reg.Steps.zip ?_ ?_
                            · refine Reg.step_on rfl (fun u w h => h.plain rfl) ?_
                              intro a wi ki hf hd hS hc K hK
                              have e189 : a.tmps.getD 189 undef = .slice Aq st'.1.length cq := hd.1.plain rfl
                              clear hf hd hc
                              have hK0 := Lib.hid hK; clear hK
                              have hS0 := Lib.hid hS; clear hS
                              go_simp
                              exact hK0.out _ _ (Reg.Known.mk_val rfl rfl) (fun _ _ h => h) hS0.out
                            refine Reg.Steps.zip ?_ ?_
                            · refine Reg.step_on rfl (fun u w h => h.plain rfl) ?_
                              intro a wi ki hf hd hS hc K hK
                              have e185 : a.tmps.getD 185 undef = .int .i64 st'.1.length := hd.1.plain rfl
                              have e190 : a.tmps.getD 190 undef = .int .i64 st'.1.length := hd.2.1.plain rfl
                              clear hf hd hc
                              have hK0 := Lib.hid hK; clear hK
                              have hS0 := Lib.hid hS; clear hS
                              go_simp
                              exact hK0.out _ _ (Reg.Known.mk_val rfl rfl) (fun _ _ h => h) hS0.out
                            refine Reg.Steps.zip ?_ ?_
                            · refine Reg.step_go rfl ?_
                              intro a wi ki hf hd hS hc K hK
                              have e183 : a.tmps.getD 183 undef = .bool false := hd.1.plain rfl
                              have e191 : a.tmps.getD 191 undef = .bool false := hd.2.1.plain rfl
                              clear hf hd hc
                              have hK0 := Lib.hid hK; clear hK
                              have hS0 := Lib.hid hS; clear hS
                              go_simp
                              exact hK0.out _ _ (Reg.Known.mk_val rfl rfl) (fun _ _ h => h) hS0.out
                            exact Reg.Steps.nil
                          case finish =>
                            intro a w3 hf hd hS
                            obtain ⟨u, hu⟩ : ∃ u : Nat → Value, u = fun s => a.tmps.getD s undef := ⟨_, rfl⟩
                            have e192 : u 192 = .bool false := by rw [hu]; exact hd.1.plain rfl
                            rw [hf.eq, ← hu]
                            clear hf hu hd
                            obtain ⟨rfl⟩ := hS
                            simp [Reg.filled, e192]
                            clear e192
                            go_wp2_with fail
                            go_roundw
                            case rel => exact ⟨t + 1, st', by omega, by go_num, hst6, rd_drew HRD.out, rd_drew HQD.out, HBE.out.drew⟩
                            case measure => simp [intOf]; omega
                    · obtain rfl : t = ls.length := by omega
                      go_wp2_with fail
                      go_roundw
                      case rel => exact ⟨q + 1, by omega, by go_num, HBE.out⟩
                      case measure => simp [intOf]; omega
                · have HBE := Lib.hid hb; clear hb
                  go_wp2_with fail
                  go_ret
                  exact ⟨rfl, HB6.out.trans (HBE.out.mono hs6)⟩


set_option maxRecDepth 100000 in
theorem lifted (os : Os) (started : os.Started) (H : Type) (enc : TypeId × Value → H) :
    ReturnsInHanded {} Try.checked os 3 .any (Rows.packReadsSpec.pre6 enc Try.prog Try.f3 Rows.packReadsRow.domain false) (Rows.packReadsSpec.post enc Try.prog Try.f3 false true false false) := by
  refine returnsInHanded_of_change (C := Try.checked) ownKnobs started (by kernel_rfl) Try.func3
    (ChangeSpec.witness6 (enc := enc) (C := Try.checked) false ⟨#[], #[.slice none 0 0, .slice none 0 0, .slice none 0 0, .slice none 0 0, .int .u8 0], []⟩ 8 (by kernel_rfl) (by kernel_rfl) (by kernel_rfl) (by kernel_rfl)) ?_
  intro W base args ds gs before hval hW _ _
  refine law_contract rfl rfl (fun ds h => by match ds, h with | [d1, d2, d3, d4, d5], _ => rfl) (by decide +kernel) hW ?_
  obtain ⟨p, q, hA0, _⟩ := hW
  have hA : DataW.TrodAll enc Try.prog W 0 (fun _ => true) true Try.f3.params.toList args.toList ds p := hA0
  have hval' : ∀ (j : Nat) t v, Try.f3.params[j]? = some t → args[j]? = some v → Value.okWide Try.prog W .any base t v := hval
  rw [Try.params3] at hA hval'
  obtain ⟨v0, vs0, d0, ds0, p0, q0, hargs, rfl, rfl, h0, r0⟩ := trodAll_cons hA
  obtain ⟨v1, vs1, d1, ds1, p1, q1, rfl, rfl, rfl, h1, r1⟩ := trodAll_cons r0
  obtain ⟨v2, vs2, d2, ds2, p2, q2, rfl, rfl, rfl, h2, r2⟩ := trodAll_cons r1
  obtain ⟨v3, vs3, d3, ds3, p3, q3, rfl, rfl, rfl, h3, r3⟩ := trodAll_cons r2
  obtain ⟨v4, vs4, d4, ds4, p4, q4, rfl, rfl, rfl, h4, r4⟩ := trodAll_cons r3
  obtain ⟨rfl, rfl, rfl⟩ := trodAll_nil r4
  obtain rfl : args = #[v0, v1, v2, v3, v4] := by cases args; simp_all
  obtain ⟨AR, raw, cR, rfl, hr1, hr2, hr3, hr4⟩ := open_bytes_cap (hval' 0 _ v0 rfl rfl) h0
  obtain ⟨AN, ns, cN, rfl, hn1, hn2, hn3⟩ := open_nums (hval' 1 _ v1 rfl rfl) h1
  obtain ⟨AL, rs, cL, rfl, hl1, hl2, hl3⟩ := open_lists (hval' 2 _ v2 rfl rfl) h2
  obtain ⟨AC, ls, cC, rfl, hc1, hc2, hc3⟩ := open_looks (hval' 3 _ v3 rfl rfl) h3
  obtain ⟨a4, rfl, rfl, rfl, w4⟩ := open_int Try.underlying5 (hval' 4 _ v4 rfl rfl) h4
  have b4 : 0 ≤ a4 ∧ a4 ≤ 255 := by simpa [Lit.wf, IntKind.min, IntKind.max, IntKind.signed, IntKind.bits] using w4
  obtain ⟨k, rfl⟩ : ∃ c : Nat, a4 = c := ⟨a4.toNat, by omega⟩
  exact walk AR AN AL AC cR cN cL cC k raw ns rs ls W (by omega) hr3 (Nat.le_trans hr1 hr2) hr1 hr2 hr4 hn2 hn1 hn3 hl1 hl2 hl3 hc1 hc2 hc3

theorem proved : Rows.PackReadsSaid :=
  OpenClaim.holds_of_wide 3 Try.f3 rfl rfl rfl rfl rfl rfl rfl ⟨rfl, rfl, rfl, rfl, rfl⟩ rfl rfl rfl rfl rfl (by kernel_rfl) Try.func3 (by kernel_rfl)
    (of_decide_eq_true (by kernel_rfl)) (by unfold Func.isWrapper; first | (rw [if_pos (by decide +kernel)]; kernel_rfl) | (rw [if_neg (by decide +kernel)]; exact ⟨rfl, rfl⟩))
    (fun os started H enc _ => lifted os started H enc)

end Go.Proofs.Ytcmjmbemlfcdjaa.packReads
