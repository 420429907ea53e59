/- ParkPlays returns true for every input and changes nothing: for every sequence of calls on a park and its futures the woken tasks, the starved ones, the fuel left and the list of those who wait are the documented ones. No condition. -/
import Derived.Test.YtboelofkbhgmfaaPp20
import Derived.Test.YtboelofkbhgmfaaKn20
import Derived.Test.YtboelofkbhgmfaaRegion
import Derived.Test.YtboelofkbhgmfaaArgR
import Derived.Test.YtboelofkbhgmfaaLaw
import Derived.IntWalk
import Derived.Deep.QuietTactic
import Derived.BigQuiet
import Derived.Deep.CutRange
import Derived.Deep.CutBlock
namespace Go.Proofs.Ytboelofkbhgmfaa.parkPlays
set_option maxRecDepth 100000
open Go.RowKit Go.ChangeShapes Go.WideShapes Go.ChangeAt

def actK : List IntKind := [.u8, .u8, .u8, .i32]
/-- An act's cells. -/
theorem act_at {w : World} {B : Nat} {A : Option Addr} {c : Nat} {L : List (List Int)} (h : RowsV actK w B (.slice A L.length c) L) {k : Nat} (hk : k < L.length) :
    ∃ (b off : Nat) (x0 x1 x2 x3 : Int), A = some ⟨b, off, none⟩ ∧ b < B ∧ ((0 ≤ x0 ∧ x0 ≤ 255) ∧ (0 ≤ x1 ∧ x1 ≤ 255) ∧ (0 ≤ x2 ∧ x2 ≤ 255) ∧ (-2147483648 ≤ x3 ∧ x3 ≤ 2147483647)) ∧
      w.cell? ⟨b, off + k * 4, none⟩ = some (.int .u8 x0) ∧ w.cell? ⟨b, off + k * 4 + 1, none⟩ = some (.int .u8 x1) ∧ w.cell? ⟨b, off + k * 4 + 2, none⟩ = some (.int .u8 x2) ∧ w.cell? ⟨b, off + k * 4 + 3, none⟩ = some (.int .i32 x3) := by
  obtain ⟨b, off, c', e, hb, ⟨hl, hbd⟩, hc⟩ := h.cells (by decide) hk
  injection e with e1 _ _
  generalize L[k] = r at *
  match r, hl with
  | [x0, x1, x2, x3], _ =>
    refine ⟨b, off, x0, x1, x2, x3, e1, hb, ⟨hbd 0 _ _ rfl rfl, hbd 1 _ _ rfl rfl, hbd 2 _ _ rfl rfl, hbd 3 _ _ rfl rfl⟩, hc 0 _ _ rfl rfl, hc 1 _ _ rfl rfl, hc 2 _ _ rfl rfl, hc 3 _ _ rfl rfl⟩
/-- The tasks of this law: a number and a worker. -/
def tkW (j k : Int) : TK := { zT with id := j, wk := k }
/-- Those who wait have no stack, and what they wait for is a number of 32 bits. -/
def MOk (M : List (TK × Int)) : Prop := ∀ x ∈ M, x.1.st = [] ∧ -2147483648 ≤ x.2 ∧ x.2 ≤ 2147483647
theorem MOk.snoc {M : List (TK × Int)} (h : MOk M) (j k id : Int) (hid : -2147483648 ≤ id ∧ id ≤ 2147483647) : MOk (M ++ [(tkW j k, id)]) := by
  intro x hx
  rcases List.mem_append.1 hx with hx | hx
  · exact h x hx
  · rw [List.mem_singleton.1 hx]; exact ⟨rfl, hid⟩
theorem MOk.look {M : List (TK × Int)} (h : MOk M) (Ls : List (List FutX)) (n : Nat) : MOk (syP Ls (M.take n)) ∧ (syP Ls (M.take n)).length ≤ M.length :=
  ⟨fun x hx => h x (List.mem_of_mem_take (List.mem_filter.1 hx).1), Nat.le_trans (List.length_filter_le _ _) (by rw [List.length_take]; omega)⟩
theorem add_lit {w wr : World} {a f g b : Nat} {qs : List Int} {La Lr : List (List FutX)} {M Mr : List (TK × Int)} {X : List HP} (h : PP w wr a f g b qs La Lr M Mr X) (hM : M.length ≤ 100000) (j k id : Int) :
    Calls Try.prog 44 #[.pointer (some ⟨a, 0, none⟩), .agg #[.int .i32 j, .int .i64 0, .int .i64 0, .slice none 0 0, .int .i32 0, .int .i32 0, .int .i32 0, .int .i32 0, .int .i64 0, .int .i64 0, .int .u32 0, .int .i64 k], .int .i32 id] wr (PPN w a f g b qs La Lr (M ++ [(tkW j k, id)]) Mr X) := ppAdd (t := tkW j k) h hM id rfl
theorem pp_start {w w2 w3 w4 w5 : World} {f g : Nat} {qs : List Int} {Ls : List (List FutX)} (hb : Below w.heap.size w w2) (hA : FuV w3 (fun b => w2.heap.size ≤ b ∧ b < w3.heap.size) f qs Ls) (hb3 : Below w2.heap.size w2 w3) (hb4 : Below w3.heap.size w3 w4)
    (hR : RfFV w5 (fun b => w4.heap.size ≤ b ∧ b < w5.heap.size) g qs Ls) (hb5 : Below w4.heap.size w4 w5) : Sep w w5 [fuP f qs Ls, rfP g qs Ls] :=
  (((Sep.nil hb).add hb3 (fuP.good f qs Ls) hA (fun _ hk => hk.1)).below hb4).add hb5 (rfP.good g qs Ls) hR (fun _ hk => hk.1)
theorem pp_parks {w wr w' : World} {f g a : Nat} {qs : List Int} {Ls : List (List FutX)} {S : Nat → Prop} (h : Sep w wr [fuP f qs Ls, rfP g qs Ls]) (hk : PkK w' S a (.slice none 0 0) []) (hS : ∀ i, S i → wr.heap.size ≤ i) (hb : Below wr.heap.size wr w') :
    PP w (w'.alloc (.cells #[.slice none 0 0] 83)) a f g w'.heap.size qs Ls Ls [] [] [] :=
  ((h.add hb (pkP.good a []) ⟨_, [], hk, rfl⟩ hS).add (S := fun k => k = w'.heap.size) (below_alloc w' _) (rpP.good w'.heap.size [])
    ⟨_, [], ⟨heap_alloc_new w' _, World.ownsRow_nil _ _ _ 13, (fun k e => by cases e), (fun x hx => by simp at hx), rfl, (fun k e => by subst e; simp)⟩, rfl⟩ (fun k e => by rw [e]; exact Nat.le_refl _))
/-- One who waits, as All gives it. -/
theorem all_at {w wr : World} {A : Option Addr} {n c j : Nat} {Lk : List WaitX} {M : List (TK × Int)} (h : AlP w wr (.slice A n c) Lk Lk) (e : Lk.map pairW = M) (hm : MOk M) (hj : j < M.length) :
    ∃ gq B k, A = some ⟨gq, 0, none⟩ ∧ wr.rangeAt gq (j * 13) (waitA ((M[j].1, .slice B 0 k), M[j].2)).toList := by
  have hjl : j < Lk.length := by rw [← e] at hj; simpa using hj
  have e4 : M[j] = pairW Lk[j] := by simp [← e]
  have hst := (h.st Lk[j] (List.getElem_mem hjl)).1
  obtain ⟨B, k, e5, _⟩ := hst
  have e6 : Lk[j].1.1.st = [] := by have := (hm M[j] (List.getElem_mem hj)).1; rw [e4] at this; exact this
  rw [e6] at e5
  rcases h.own.2 with ⟨e1, e2⟩ | ⟨gq, cap, cur, e1, _⟩
  · omega
  · injection e1 with e1
    refine ⟨gq, B, k, e1, fun i u hu => ?_⟩
    have e7 : ((M[j].1, .slice B 0 k), M[j].2) = Lk[j] := by
      rw [e4]; unfold pairW
      have : Lk[j].1.2 = .slice B 0 k := e5
      rw [← this]
    rw [e7] at hu
    have h1 := rowE_get waitA_size (List.getElem?_eq_getElem hjl) (j := i) (u := u) (by simpa using hu)
    have h2 := h.own.cells (g := gq) (by rw [e1]; rfl) _ _ h1
    have ea : (⟨gq, 0, none⟩ : Addr).add (j * 13 + i) = ⟨gq, j * 13 + i, none⟩ := by unfold Addr.add; split <;> simp_all
    rwa [ea] at h2

def pk43Val (gq g2 b m k c11 cr kq : Nat) (Bq : Option Addr) (yd : Int) (t : TK) : Nat → Value
  | 0 => .slice (some ⟨gq, 0, none⟩) m c11
  | 1 => .int .i64 (k : Int)
  | 2 => .pointer (some ⟨gq, k * 13, none⟩)
  | 3 => .pointer (some ⟨gq, k * 13 + 12, none⟩)
  | 4 => .int .i32 yd
  | 5 => .pointer (some ⟨b, 0, none⟩)
  | 6 => .pointer (some ⟨b, 0, none⟩)
  | 7 => .pointer (some ⟨b, 0, none⟩)
  | 8 => .slice (some ⟨g2, 0, none⟩) m cr
  | 9 => .int .i64 (k : Int)
  | 10 => .pointer (some ⟨g2, k * 13, none⟩)
  | 11 => .pointer (some ⟨g2, k * 13 + 12, none⟩)
  | 12 => .int .i32 yd
  | 13 => .bool false
  | 14 => .bool false
  | 15 => .slice (some ⟨gq, 0, none⟩) m c11
  | 16 => .int .i64 (k : Int)
  | 17 => .pointer (some ⟨gq, k * 13, none⟩)
  | 18 => .pointer (some ⟨gq, k * 13, none⟩)
  | 19 => .agg #[.int .i32 t.id, .int .i64 t.fn, .int .i64 t.pc, .slice Bq 0 kq, .int .i32 t.v0, .int .i32 t.v1, .int .i32 t.v2, .int .i32 t.v3, .int .i64 t.lb, .int .i64 t.cl, .int .u32 t.pv, .int .i64 t.wk]
  | 20 => .pointer (some ⟨b, 0, none⟩)
  | 21 => .pointer (some ⟨b, 0, none⟩)
  | 22 => .pointer (some ⟨b, 0, none⟩)
  | 23 => .slice (some ⟨g2, 0, none⟩) m cr
  | 24 => .int .i64 (k : Int)
  | 25 => .pointer (some ⟨g2, k * 13, none⟩)
  | 26 => .pointer (some ⟨g2, k * 13, none⟩)
  | 27 => .agg #[.int .i32 t.id, .int .i64 t.fn, .int .i64 t.pc, .slice none 0 0, .int .i32 t.v0, .int .i32 t.v1, .int .i32 t.v2, .int .i32 t.v3, .int .i64 t.lb, .int .i64 t.cl, .int .u32 t.pv, .int .i64 t.wk]
  | 28 => .bool true
  | 29 => .bool false
  | 30 => .bool false
  | _ => undef

theorem quiet_flip {f : FuncId} {args : Array Value} {w : World} {v : Value} (h : Calls Try.prog f args w fun e w' => e = .returned v ∧ w = w') : Calls Try.prog f args w fun e w' => e = .returned v ∧ w' = w :=
  h.mono fun _ _ ⟨he, hw⟩ => ⟨he, hw.symm⟩
set_option maxRecDepth 100000 in
set_option maxHeartbeats 40000000 in
theorem walk (n0 : Nat) (v1 : Value) (l1 : List (List Int)) (w : World) (hn0 : n0 ≤ 255) (h1 : RowsV actK w w.heap.size v1 l1) (m1 : l1.length ≤ maxLen) :
    Calls Try.prog 11 #[.int .u8 n0, v1] w fun e w' => e = .returned (.bool true) ∧ Below w.heap.size w w' := by
  obtain ⟨A1, c1, rfl, hc1, hL1, hr1⟩ := h1
  have HA1 := Lib.hid (show RowsV actK w w.heap.size (.slice A1 l1.length c1) l1 from ⟨A1, c1, rfl, hc1, hL1, hr1⟩)
  obtain ⟨N1, hN1⟩ : ∃ N, l1.length = N := ⟨_, rfl⟩
  have HN1 := Lib.hid hN1
  rw [hN1] at m1 ⊢
  unfold maxLen at m1
  clear hc1 hL1 hr1 hN1
  by_cases h60 : 60 < N1
  · have z' : decide ((60 : Int) < (N1 : Int)) = true := by simp; omega
    go_enter Try.func11, Try.ntmps11
    go_wp2_with fail
    refine (known20_any w).mono ?_
    rintro e w1 ⟨rfl, hb1⟩
    go_wp2_with fail
    go_ret
    exact ⟨rfl, hb1⟩
  have z' : decide ((60 : Int) < (N1 : Int)) = false := by simp; omega
  have hN60 : N1 ≤ 60 := by omega
  have HQ : Hid (quotasZ [9, 9] = [9, 9]) := Lib.hid (by decide)
  obtain ⟨m12, hm12⟩ : ∃ m, n0 % 12 = m := ⟨_, rfl⟩
  have hm11 : m12 ≤ 11 := by omega
  have HM12 : Hid ((n0 : Int) % 12 = (m12 : Int)) := Lib.hid (by omega)
  clear h60 m1 hm12
  go_enter Try.func11, Try.ntmps11
  go_wp2_with fail
  refine (known20_any w).mono ?_
  rintro e w1 ⟨rfl, hb1⟩
  have B1 := Lib.hid hb1; clear hb1
  obtain ⟨w2, hw2⟩ : ∃ w2, w2 = w1.alloc (.cells #[.int .i64 9, .int .i64 9] 3) := ⟨_, rfl⟩
  have B2 : Hid (Below w.heap.size w w2) := Lib.hid (by rw [hw2]; exact B1.out.alloc B1.out.size _)
  have HAN := Lib.hid (fuNew_any (.slice (some ⟨w1.heap.size, 0, none⟩) 2 2) [9, 9] w2 (by rw [hw2]; exact numv_lit w1 [9, 9]) (by simp))
  have HW2 := Lib.hid hw2
  clear hw2
  go_wp2_with fail
  rw [← HW2.out]
  with_reducible refine HAN.out.mono ?_
  rintro e w3 ⟨f, rfl, hA, hb3⟩
  rw [HQ.out] at hA
  have A3 := Lib.hid hA
  have B3 := Lib.hid hb3
  clear hA hb3 HAN
  obtain ⟨w4, hw4⟩ : ∃ x, x = w3.alloc (.cells #[.int .i64 9, .int .i64 9] 3) := ⟨_, rfl⟩
  have B4 : Hid (Below w3.heap.size w3 w4) := Lib.hid (by rw [hw4]; exact below_alloc w3 _)
  have HRN := Lib.hid (rNewF_any (.slice (some ⟨w3.heap.size, 0, none⟩) 2 2) [9, 9] w4 (by rw [hw4]; exact numv_lit w3 [9, 9]) (by simp))
  have HW4 := Lib.hid hw4
  clear hw4
  go_wp2_with fail
  rw [← HW4.out]
  with_reducible refine HRN.out.mono ?_
  rintro e w5 ⟨g, rfl, hR, hb5⟩
  rw [HQ.out] at hR
  have K5 := Lib.hid (pp_start B2.out A3.out B3.out B4.out hR hb5)
  clear hR hb5 HRN A3 B3
  obtain ⟨qs, hqs⟩ : ∃ qs : List Int, [9, 9] = qs := ⟨_, rfl⟩
  obtain ⟨Ls0, hLs0⟩ : ∃ Ls : List (List FutX), List.replicate (min [(9 : Int), 9].length 16) [] = Ls := ⟨_, rfl⟩
  rw [hLs0] at K5
  rw [hqs] at K5
  have HO0 : Hid (Opn Ls0) := Lib.hid (by rw [← hLs0]; intro l hl x hx; obtain rfl := (List.mem_replicate.1 hl).2; cases hx)
  clear hqs hLs0 HQ
  go_wp2_with fail
  go_loopw [7] (fun i wr => ∃ (j : Nat) (Ls : List (List FutX)), j ≤ m12 ∧ i = .int .i64 j ∧ Sep w wr [fuP f qs Ls, rfP g qs Ls] ∧ Opn Ls) (fun i _ => m12 - (intOf i).toNat)
  case atStart => exact ⟨0, Ls0, Nat.zero_le _, rfl, K5.out, HO0.out⟩
  case round =>
    clear K5
    obtain ⟨j, Ls, hj, rfl, hK, hO⟩ := hrel
    have HK := Lib.hid hK
    have HO := Lib.hid hO
    clear hK hO
    have e12 := HM12.out
    by_cases hjm : j < m12
    · obtain ⟨p, hp⟩ : ∃ p, j % 2 = p := ⟨_, rfl⟩
      have hp1 : p ≤ 1 := by omega
      have ep : ((j : Int)).tmod 2 = (p : Int) := by rw [← hp]; rfl
      have HMK := Lib.hid (ppMake HK.out (p : Int) 0 (by omega))
      have HMR := Lib.hid (fun (w' : World) (h : Sep w w' [fuP f qs (mkL qs Ls p ⟨0, 0, 0, 0⟩), rfP g qs Ls]) => ppMakeR h (p : Int) 0 (by omega))
      clear hp
      go_wp2_with fail
      refine HMK.out.mono ?_
      rintro e w7 ⟨i7, y7, rfl, h7⟩
      have HM7 := Lib.hid (HMR.out w7 h7)
      clear h7
      go_wp2_with fail
      refine HM7.out.mono ?_
      rintro e w8 ⟨i8, y8, rfl, h8⟩
      have H8 := Lib.hid h8
      clear h8 ep e12
      go_wp2_with fail
      go_roundw
      case rel => exact ⟨j + 1, _, by omega, by go_num, H8.out, HO.out.made _ _⟩
      case measure => simp [intOf]; omega
    · obtain rfl : m12 = j := by omega
      go_wp2_with fail
      clear e12
      refine (pkNew_any _).mono ?_
      rintro e w6 ⟨S6, a, rfl, hkk, hS, hb6⟩
      have K6 := Lib.hid (pp_parks HK.out hkk hS hb6)
      clear hkk hS hb6 HK
      obtain ⟨b, hb⟩ : ∃ b, w6.heap.size = b := ⟨_, rfl⟩
      rw [hb] at K6
      have HBE := Lib.hid hb
      clear hb
      go_wp2_with fail
      rw [HBE.out]
      go_loopw [10] (fun i wr => ∃ (j : Nat) (Ls : List (List FutX)) (M : List (TK × Int)), j ≤ N1 ∧ i = .int .i64 j ∧ PP w wr a f g b qs Ls Ls M M [] ∧ Opn Ls ∧ MOk M ∧ M.length ≤ j) (fun i _ => N1 - (intOf i).toNat)
      case atStart => exact ⟨0, Ls, [], Nat.zero_le _, rfl, K6.out, HO.out, (fun x hx => by cases hx), Nat.le_refl _⟩
      case round =>
        clear K6 HO HBE
        obtain ⟨j, Ls, M, hj, rfl, hK, hO, hM, hML⟩ := hrel
        have HOP := Lib.hid hO
        have HMO := Lib.hid hM
        have HML := Lib.hid hML
        clear hO hM hML
        by_cases hjn : j < N1
        · have hjl : j < l1.length := by rw [HN1.out]; exact hjn
          obtain ⟨bo, off, x0, x1, x2, x3, eA, hbo, ⟨b0, b1, b2, b3⟩, t0, t1, t2, t3⟩ := act_at HA1.out hjl
          subst eA
          have hbl : Below w.heap.size w wr := Sep.bl hK
          have d0 : wr.cell? ⟨bo, off + j * 4, none⟩ = some (.int .u8 x0) := (hbl.cell (p := ⟨bo, off + j * 4, none⟩) hbo).trans t0
          have d1 : wr.cell? ⟨bo, off + j * 4 + 1, none⟩ = some (.int .u8 x1) := (hbl.cell (p := ⟨bo, off + j * 4 + 1, none⟩) hbo).trans t1
          have d2 : wr.cell? ⟨bo, off + j * 4 + 2, none⟩ = some (.int .u8 x2) := (hbl.cell (p := ⟨bo, off + j * 4 + 2, none⟩) hbo).trans t2
          have d3 : wr.cell? ⟨bo, off + j * 4 + 3, none⟩ = some (.int .i32 x3) := (hbl.cell (p := ⟨bo, off + j * 4 + 3, none⟩) hbo).trans t3
          have i1 : (0 : Int) ≤ (j : Int) ∧ (j : Int) < N1 := by omega
          obtain ⟨bx, hbxe⟩ : ∃ k, wr.heap.size = k := ⟨_, rfl⟩
          have HBXE := Lib.hid hbxe
          obtain ⟨w5, hw5⟩ : ∃ x, x = wr.alloc (.cells #[.int .u8 x0, .int .u8 x1, .int .u8 x2, .int .i32 x3] 85) := ⟨_, rfl⟩
          have K5 : Hid (PP w w5 a f g b qs Ls Ls M M [boxP bx (.cells #[.int .u8 x0, .int .u8 x1, .int .u8 x2, .int .i32 x3] 85)]) := Lib.hid (by rw [hw5, ← hbxe]; exact Sep.box hK _)
          have HX : Hid (∀ wq La Lr M Mr Y, PP w wq a f g b qs La Lr M Mr (boxP bx (.cells #[.int .u8 x0, .int .u8 x1, .int .u8 x2, .int .i32 x3] 85) :: Y) → wq.heap[bx]? = some (.cells #[.int .u8 x0, .int .u8 x1, .int .u8 x2, .int .i32 x3] 85)) := Lib.hid fun wq La Lr M Mr Y h => pp_box (n := 0) h (by simp) rfl
          have hbx := HX.out w5 _ _ _ _ _ K5.out
          have y0 : w5.cell? ⟨bx, 0, none⟩ = some (.int .u8 x0) := cell_blk hbx 0
          have y1 : w5.cell? ⟨bx, 1, none⟩ = some (.int .u8 x1) := cell_blk hbx 1
          have y2 : w5.cell? ⟨bx, 2, none⟩ = some (.int .u8 x2) := cell_blk hbx 2
          have y3 : w5.cell? ⟨bx, 3, none⟩ = some (.int .i32 x3) := cell_blk hbx 3
          have HW5 := Lib.hid hw5
          obtain ⟨idn, hidn⟩ : ∃ y, x1 % 2 * 65536 + x1 / 2 % 7 = y := ⟨_, rfl⟩
          have HIDN := Lib.hid hidn
          have hidb : -2147483648 ≤ idn ∧ idn ≤ 2147483647 := by omega
          have HMM : Hid (x0 % 6 = 0 ∨ x0 % 6 = 1 ∨ x0 % 6 = 2 ∨ x0 % 6 = 3 ∨ x0 % 6 = 4 ∨ x0 % 6 = 5) := Lib.hid (by omega)
          have hb5 : b < w5.heap.size := (pp_list K5.out).1
          have hn16 : Ls.length ≤ 16 := pp_n16 K5.out
          have HN16 := Lib.hid hn16
          clear hK hjl hbo hbl t0 t1 t2 t3 hw5 hbx hidn hbxe hn16
          go_upto_region 16 with (fail)
          rw [HBXE.out, ← HW5.out]
          clear d0 d1 d2 d3
          go_upto_region 17 with (fail)
          have eb := HIDN.out
          try rw [eb]
          clear eb
          go_upto_if 73 with (fail)
          go_cut [12] from 73 to 75 (fun p wx => ∃ id : Int, p = .int .i32 id ∧ (-2147483648 ≤ id ∧ id ≤ 2147483647) ∧ wx = w5)
          case first =>
            by_cases h240 : 240 < x1
            · have z240 : decide ((240 : Int) < x1) = true := by simpa using h240
              go_wp2_with fail
              go_meet
              exact ⟨x3, rfl, b3, rfl⟩
            · have z240 : decide ((240 : Int) < x1) = false := by simpa using h240
              go_wp2_with fail
              go_meet
              exact ⟨idn, rfl, hidb, rfl⟩
          case rest =>
            obtain ⟨id, rfl, hid, hwc⟩ := hcut
            have hwc := hwc.symm
            subst hwc
            clear HIDN hidb
            go_upto_region 19 with (fail)
            go_upto_block 4 with (fail)
            go_cut [13, 14, 15, 16, 17, 18, 19, 20] from 78 to 157 (fun _ _ _ _ _ _ _ _ wx => ∃ (Lx : List (List FutX)) (Mx : List (TK × Int)), Opn Lx ∧ MOk Mx ∧ Mx.length ≤ j + 1 ∧ PP w wx a f g b qs Lx Lx Mx Mx [boxP bx (.cells #[.int .u8 x0, .int .u8 x1, .int .u8 x2, .int .i32 x3] 85)])
            case first =>
              rcases HMM.out with em | em | em | em | em | em
              · obtain ⟨k3, hk3⟩ : ∃ y, x1 % 3 = y := ⟨_, rfl⟩
                have HK3 := Lib.hid hk3
                have hk3b : 0 ≤ k3 ∧ k3 < 3 := by omega
                obtain ⟨bt, hbt⟩ : ∃ k, w5.heap.size = k := ⟨_, rfl⟩
                have HZ6 : Hid ((w5.alloc (.cells (taskA zT nilV) 89)).heap[bt]? = some (.cells (taskA zT nilV) 89 (0, 0))) := Lib.hid (by rw [← hbt]; exact heap_alloc_new w5 _)
                obtain ⟨w6, hw6⟩ : ∃ x, x = (w5.alloc (.cells #[.int .i32 0, .int .i64 0, .int .i64 0, .slice none 0 0, .int .i32 0, .int .i32 0, .int .i32 0, .int .i32 0, .int .i64 0, .int .i64 0, .int .u32 0, .int .i64 0] 89)).setRow bt (taskA (tkW j k3) nilV) := ⟨_, rfl⟩
                have hX6 : w6.heap[bt]? = some (.cells (taskA (tkW j k3) nilV) 89 (0, 0)) := by rw [hw6]; exact row_at HZ6.out _
                have hB6 : Below w5.heap.size w5 w6 := by rw [hw6]; exact (below_alloc w5 _).trans (row_below (by omega))
                have K6 : Hid (PP w w6 a f g b qs Ls Ls M M [boxP bx (.cells #[.int .u8 x0, .int .u8 x1, .int .u8 x2, .int .i32 x3] 85), boxP bt (.cells (taskA (tkW j k3) nilV) 89)]) := Lib.hid (Sep.add (S := fun k => k = bt) K5.out hB6 (boxP.good _ _) ⟨hX6, fun _ => Iff.rfl⟩ (fun k e => by rw [e, ← hbt]; exact Nat.le_refl _))
                have hml := HML.out
                have HADD := Lib.hid (add_lit K6.out (by omega) (j : Int) k3 id)
                have HX6 := Lib.hid hX6
                have HW6 := Lib.hid hw6
                have HBT := Lib.hid hbt
                clear hk3 hX6 hB6 hw6 hbt
                have ek3 := HK3.out
                go_upto_region 26 with (first | (refine store_task rfl _ _ rfl rfl w5.heap.size (tkW j k3) nilV rfl rfl _ zT nilV (by rw [HBT.out]; exact HZ6.out) rfl ?_) | fail)
                rw [HBT.out, ← HW6.out]
                clear ek3
                go_wp2_with (first | (refine load_taskAt rfl _ rfl bt (tkW j k3) nilV rfl _ _ HX6.out ?_; simp only [taskV, taskA, tkW, zT, nilV]) | fail)
                refine HADD.out.mono ?_
                rintro e w7 ⟨rfl, h7⟩
                have hb7 := pp_box (n := 1) h7 (by simp) rfl
                have d0 : w7.cell? ⟨bt, 0, none⟩ = some (.int .i32 (j : Int)) := cell_blk hb7 0
                have d1 : w7.cell? ⟨bt, 1, none⟩ = some (.int .i64 0) := cell_blk hb7 1
                have d2 : w7.cell? ⟨bt, 2, none⟩ = some (.int .i64 0) := cell_blk hb7 2
                have d3 : w7.cell? ⟨bt, 3, none⟩ = some (.slice none 0 0) := cell_blk hb7 3
                have d4 : w7.cell? ⟨bt, 4, none⟩ = some (.int .i32 0) := cell_blk hb7 4
                have d5 : w7.cell? ⟨bt, 5, none⟩ = some (.int .i32 0) := cell_blk hb7 5
                have d6 : w7.cell? ⟨bt, 6, none⟩ = some (.int .i32 0) := cell_blk hb7 6
                have d7 : w7.cell? ⟨bt, 7, none⟩ = some (.int .i32 0) := cell_blk hb7 7
                have d8 : w7.cell? ⟨bt, 8, none⟩ = some (.int .i64 0) := cell_blk hb7 8
                have d9 : w7.cell? ⟨bt, 9, none⟩ = some (.int .i64 0) := cell_blk hb7 9
                have d10 : w7.cell? ⟨bt, 10, none⟩ = some (.int .u32 0) := cell_blk hb7 10
                have d11 : w7.cell? ⟨bt, 11, none⟩ = some (.int .i64 k3) := cell_blk hb7 11
                obtain ⟨v, q0, f0, hlb, _, L, ho, hl, hne, hcont⟩ := pp_append h7
                obtain ⟨A7, c7, rfl⟩ := ho.shape
                have HCT := Lib.hid hcont
                have HQ0 := Lib.hid q0
                have HF0 := Lib.hid f0
                have HNE := Lib.hid hne
                have HOA : Hid (w7.drew.ownsRow 0 92 13 (.slice A7 L.length c7) L.length (rowE waitA L)) := Lib.hid ho
                obtain ⟨ll, hll⟩ : ∃ n, L.length = n := ⟨_, rfl⟩
                have HLL := Lib.hid hll
                rw [hll] at HCT HQ0 HNE HOA q0
                have hll60 : ll ≤ 100 := by omega
                clear h7 hb7 hcont ho hl hne hll f0
                go_wp2_with fail
                go_region_law
                  (refine step_append_itm 81 92 _ 13 104 Try.underlying81 inf_waitR rfl (by decide) (by decide) rfl (.tmp 104) (.tmp 108) rfl 0 (.slice A7 ll c7) ll (rowE waitA L) rfl ?_ _ (waitA ((tkW j k3, nilV), id)) rfl ?_ rfl ?_ ?_ ?_ ?_
                   · exact HOA.out.alloc _
                   · exact heap_alloc_new _ _
                   · exact wait_ones rfl
                   · omega
                   · exact Nat.zero_le _
                   intro vQ wQ oQ gQ bQ
                   obtain ⟨gq, cq, hvq⟩ := own_succ oQ
                   subst hvq
                   have hbA : Below w7.heap.size w7 (w7.drew.alloc (.cells (waitA ((tkW j k3, nilV), id)) 92)) := nextB (w1 := w7.drew) ⟨rfl, rfl, rfl, Nat.le_refl _, fun _ _ => rfl⟩ (below_alloc _ _)
                   have cQ : wQ.cell? ⟨b, 0, none⟩ = some (.slice A7 ll c7) := grown_cell hbA gQ HQ0.out hlb HNE.out
                   have fQ : wQ.frozen? ⟨b, 0, none⟩ = false := grown_frozen hbA gQ HF0.out hlb HNE.out
                   have KF := Lib.hid (HCT.out _ wQ _ (tkW j k3) id hbA oQ gQ (by rcases bQ with e | e; exact .inl e; exact .inr ⟨_, e, Nat.le_refl _⟩))
                   clear oQ gQ bQ hbA)
                all_goals
                  go_wp2_with fail
                  go_meet
                  exact ⟨Ls, _, HOP.out, HMO.out.snoc _ _ _ hid, by rw [List.length_append]; have := HML.out; simp; omega, Sep.take KF.out 5⟩
              · obtain ⟨k3, hk3⟩ : ∃ y, x1 % 3 = y := ⟨_, rfl⟩
                have HK3 := Lib.hid hk3
                have hk3b : 0 ≤ k3 ∧ k3 < 3 := by omega
                obtain ⟨bt, hbt⟩ : ∃ k, w5.heap.size = k := ⟨_, rfl⟩
                have HZ6 : Hid ((w5.alloc (.cells (taskA zT nilV) 89)).heap[bt]? = some (.cells (taskA zT nilV) 89 (0, 0))) := Lib.hid (by rw [← hbt]; exact heap_alloc_new w5 _)
                obtain ⟨w6, hw6⟩ : ∃ x, x = (w5.alloc (.cells #[.int .i32 0, .int .i64 0, .int .i64 0, .slice none 0 0, .int .i32 0, .int .i32 0, .int .i32 0, .int .i32 0, .int .i64 0, .int .i64 0, .int .u32 0, .int .i64 0] 89)).setRow bt (taskA (tkW j k3) nilV) := ⟨_, rfl⟩
                have hX6 : w6.heap[bt]? = some (.cells (taskA (tkW j k3) nilV) 89 (0, 0)) := by rw [hw6]; exact row_at HZ6.out _
                have hB6 : Below w5.heap.size w5 w6 := by rw [hw6]; exact (below_alloc w5 _).trans (row_below (by omega))
                have K6 : Hid (PP w w6 a f g b qs Ls Ls M M [boxP bx (.cells #[.int .u8 x0, .int .u8 x1, .int .u8 x2, .int .i32 x3] 85), boxP bt (.cells (taskA (tkW j k3) nilV) 89)]) := Lib.hid (Sep.add (S := fun k => k = bt) K5.out hB6 (boxP.good _ _) ⟨hX6, fun _ => Iff.rfl⟩ (fun k e => by rw [e, ← hbt]; exact Nat.le_refl _))
                have hml := HML.out
                have HADD := Lib.hid (add_lit K6.out (by omega) (j : Int) k3 id)
                have HX6 := Lib.hid hX6
                have HW6 := Lib.hid hw6
                have HBT := Lib.hid hbt
                clear hk3 hX6 hB6 hw6 hbt
                have ek3 := HK3.out
                go_upto_region 26 with (first | (refine store_task rfl _ _ rfl rfl w5.heap.size (tkW j k3) nilV rfl rfl _ zT nilV (by rw [HBT.out]; exact HZ6.out) rfl ?_) | fail)
                rw [HBT.out, ← HW6.out]
                clear ek3
                go_wp2_with (first | (refine load_taskAt rfl _ rfl bt (tkW j k3) nilV rfl _ _ HX6.out ?_; simp only [taskV, taskA, tkW, zT, nilV]) | fail)
                refine HADD.out.mono ?_
                rintro e w7 ⟨rfl, h7⟩
                have hb7 := pp_box (n := 1) h7 (by simp) rfl
                have d0 : w7.cell? ⟨bt, 0, none⟩ = some (.int .i32 (j : Int)) := cell_blk hb7 0
                have d1 : w7.cell? ⟨bt, 1, none⟩ = some (.int .i64 0) := cell_blk hb7 1
                have d2 : w7.cell? ⟨bt, 2, none⟩ = some (.int .i64 0) := cell_blk hb7 2
                have d3 : w7.cell? ⟨bt, 3, none⟩ = some (.slice none 0 0) := cell_blk hb7 3
                have d4 : w7.cell? ⟨bt, 4, none⟩ = some (.int .i32 0) := cell_blk hb7 4
                have d5 : w7.cell? ⟨bt, 5, none⟩ = some (.int .i32 0) := cell_blk hb7 5
                have d6 : w7.cell? ⟨bt, 6, none⟩ = some (.int .i32 0) := cell_blk hb7 6
                have d7 : w7.cell? ⟨bt, 7, none⟩ = some (.int .i32 0) := cell_blk hb7 7
                have d8 : w7.cell? ⟨bt, 8, none⟩ = some (.int .i64 0) := cell_blk hb7 8
                have d9 : w7.cell? ⟨bt, 9, none⟩ = some (.int .i64 0) := cell_blk hb7 9
                have d10 : w7.cell? ⟨bt, 10, none⟩ = some (.int .u32 0) := cell_blk hb7 10
                have d11 : w7.cell? ⟨bt, 11, none⟩ = some (.int .i64 k3) := cell_blk hb7 11
                obtain ⟨v, q0, f0, hlb, _, L, ho, hl, hne, hcont⟩ := pp_append h7
                obtain ⟨A7, c7, rfl⟩ := ho.shape
                have HCT := Lib.hid hcont
                have HQ0 := Lib.hid q0
                have HF0 := Lib.hid f0
                have HNE := Lib.hid hne
                have HOA : Hid (w7.drew.ownsRow 0 92 13 (.slice A7 L.length c7) L.length (rowE waitA L)) := Lib.hid ho
                obtain ⟨ll, hll⟩ : ∃ n, L.length = n := ⟨_, rfl⟩
                have HLL := Lib.hid hll
                rw [hll] at HCT HQ0 HNE HOA q0
                have hll60 : ll ≤ 100 := by omega
                clear h7 hb7 hcont ho hl hne hll f0
                go_wp2_with fail
                go_region_law
                  (refine step_append_itm 81 92 _ 13 104 Try.underlying81 inf_waitR rfl (by decide) (by decide) rfl (.tmp 104) (.tmp 108) rfl 0 (.slice A7 ll c7) ll (rowE waitA L) rfl ?_ _ (waitA ((tkW j k3, nilV), id)) rfl ?_ rfl ?_ ?_ ?_ ?_
                   · exact HOA.out.alloc _
                   · exact heap_alloc_new _ _
                   · exact wait_ones rfl
                   · omega
                   · exact Nat.zero_le _
                   intro vQ wQ oQ gQ bQ
                   obtain ⟨gq, cq, hvq⟩ := own_succ oQ
                   subst hvq
                   have hbA : Below w7.heap.size w7 (w7.drew.alloc (.cells (waitA ((tkW j k3, nilV), id)) 92)) := nextB (w1 := w7.drew) ⟨rfl, rfl, rfl, Nat.le_refl _, fun _ _ => rfl⟩ (below_alloc _ _)
                   have cQ : wQ.cell? ⟨b, 0, none⟩ = some (.slice A7 ll c7) := grown_cell hbA gQ HQ0.out hlb HNE.out
                   have fQ : wQ.frozen? ⟨b, 0, none⟩ = false := grown_frozen hbA gQ HF0.out hlb HNE.out
                   have KF := Lib.hid (HCT.out _ wQ _ (tkW j k3) id hbA oQ gQ (by rcases bQ with e | e; exact .inl e; exact .inr ⟨_, e, Nat.le_refl _⟩))
                   clear oQ gQ bQ hbA)
                all_goals
                  go_wp2_with fail
                  go_meet
                  exact ⟨Ls, _, HOP.out, HMO.out.snoc _ _ _ hid, by rw [List.length_append]; have := HML.out; simp; omega, Sep.take KF.out 5⟩
              · obtain ⟨k3, hk3⟩ : ∃ y, x1 % 3 = y := ⟨_, rfl⟩
                have HK3 := Lib.hid hk3
                have hk3b : 0 ≤ k3 ∧ k3 < 3 := by omega
                obtain ⟨bt, hbt⟩ : ∃ k, w5.heap.size = k := ⟨_, rfl⟩
                have HZ6 : Hid ((w5.alloc (.cells (taskA zT nilV) 89)).heap[bt]? = some (.cells (taskA zT nilV) 89 (0, 0))) := Lib.hid (by rw [← hbt]; exact heap_alloc_new w5 _)
                obtain ⟨w6, hw6⟩ : ∃ x, x = (w5.alloc (.cells #[.int .i32 0, .int .i64 0, .int .i64 0, .slice none 0 0, .int .i32 0, .int .i32 0, .int .i32 0, .int .i32 0, .int .i64 0, .int .i64 0, .int .u32 0, .int .i64 0] 89)).setRow bt (taskA (tkW j k3) nilV) := ⟨_, rfl⟩
                have hX6 : w6.heap[bt]? = some (.cells (taskA (tkW j k3) nilV) 89 (0, 0)) := by rw [hw6]; exact row_at HZ6.out _
                have hB6 : Below w5.heap.size w5 w6 := by rw [hw6]; exact (below_alloc w5 _).trans (row_below (by omega))
                have K6 : Hid (PP w w6 a f g b qs Ls Ls M M [boxP bx (.cells #[.int .u8 x0, .int .u8 x1, .int .u8 x2, .int .i32 x3] 85), boxP bt (.cells (taskA (tkW j k3) nilV) 89)]) := Lib.hid (Sep.add (S := fun k => k = bt) K5.out hB6 (boxP.good _ _) ⟨hX6, fun _ => Iff.rfl⟩ (fun k e => by rw [e, ← hbt]; exact Nat.le_refl _))
                have hml := HML.out
                have HADD := Lib.hid (add_lit K6.out (by omega) (j : Int) k3 id)
                have HX6 := Lib.hid hX6
                have HW6 := Lib.hid hw6
                have HBT := Lib.hid hbt
                clear hk3 hX6 hB6 hw6 hbt
                have ek3 := HK3.out
                go_upto_region 26 with (first | (refine store_task rfl _ _ rfl rfl w5.heap.size (tkW j k3) nilV rfl rfl _ zT nilV (by rw [HBT.out]; exact HZ6.out) rfl ?_) | fail)
                rw [HBT.out, ← HW6.out]
                clear ek3
                go_wp2_with (first | (refine load_taskAt rfl _ rfl bt (tkW j k3) nilV rfl _ _ HX6.out ?_; simp only [taskV, taskA, tkW, zT, nilV]) | fail)
                refine HADD.out.mono ?_
                rintro e w7 ⟨rfl, h7⟩
                have hb7 := pp_box (n := 1) h7 (by simp) rfl
                have d0 : w7.cell? ⟨bt, 0, none⟩ = some (.int .i32 (j : Int)) := cell_blk hb7 0
                have d1 : w7.cell? ⟨bt, 1, none⟩ = some (.int .i64 0) := cell_blk hb7 1
                have d2 : w7.cell? ⟨bt, 2, none⟩ = some (.int .i64 0) := cell_blk hb7 2
                have d3 : w7.cell? ⟨bt, 3, none⟩ = some (.slice none 0 0) := cell_blk hb7 3
                have d4 : w7.cell? ⟨bt, 4, none⟩ = some (.int .i32 0) := cell_blk hb7 4
                have d5 : w7.cell? ⟨bt, 5, none⟩ = some (.int .i32 0) := cell_blk hb7 5
                have d6 : w7.cell? ⟨bt, 6, none⟩ = some (.int .i32 0) := cell_blk hb7 6
                have d7 : w7.cell? ⟨bt, 7, none⟩ = some (.int .i32 0) := cell_blk hb7 7
                have d8 : w7.cell? ⟨bt, 8, none⟩ = some (.int .i64 0) := cell_blk hb7 8
                have d9 : w7.cell? ⟨bt, 9, none⟩ = some (.int .i64 0) := cell_blk hb7 9
                have d10 : w7.cell? ⟨bt, 10, none⟩ = some (.int .u32 0) := cell_blk hb7 10
                have d11 : w7.cell? ⟨bt, 11, none⟩ = some (.int .i64 k3) := cell_blk hb7 11
                obtain ⟨v, q0, f0, hlb, _, L, ho, hl, hne, hcont⟩ := pp_append h7
                obtain ⟨A7, c7, rfl⟩ := ho.shape
                have HCT := Lib.hid hcont
                have HQ0 := Lib.hid q0
                have HF0 := Lib.hid f0
                have HNE := Lib.hid hne
                have HOA : Hid (w7.drew.ownsRow 0 92 13 (.slice A7 L.length c7) L.length (rowE waitA L)) := Lib.hid ho
                obtain ⟨ll, hll⟩ : ∃ n, L.length = n := ⟨_, rfl⟩
                have HLL := Lib.hid hll
                rw [hll] at HCT HQ0 HNE HOA q0
                have hll60 : ll ≤ 100 := by omega
                clear h7 hb7 hcont ho hl hne hll f0
                go_wp2_with fail
                go_region_law
                  (refine step_append_itm 81 92 _ 13 104 Try.underlying81 inf_waitR rfl (by decide) (by decide) rfl (.tmp 104) (.tmp 108) rfl 0 (.slice A7 ll c7) ll (rowE waitA L) rfl ?_ _ (waitA ((tkW j k3, nilV), id)) rfl ?_ rfl ?_ ?_ ?_ ?_
                   · exact HOA.out.alloc _
                   · exact heap_alloc_new _ _
                   · exact wait_ones rfl
                   · omega
                   · exact Nat.zero_le _
                   intro vQ wQ oQ gQ bQ
                   obtain ⟨gq, cq, hvq⟩ := own_succ oQ
                   subst hvq
                   have hbA : Below w7.heap.size w7 (w7.drew.alloc (.cells (waitA ((tkW j k3, nilV), id)) 92)) := nextB (w1 := w7.drew) ⟨rfl, rfl, rfl, Nat.le_refl _, fun _ _ => rfl⟩ (below_alloc _ _)
                   have cQ : wQ.cell? ⟨b, 0, none⟩ = some (.slice A7 ll c7) := grown_cell hbA gQ HQ0.out hlb HNE.out
                   have fQ : wQ.frozen? ⟨b, 0, none⟩ = false := grown_frozen hbA gQ HF0.out hlb HNE.out
                   have KF := Lib.hid (HCT.out _ wQ _ (tkW j k3) id hbA oQ gQ (by rcases bQ with e | e; exact .inl e; exact .inr ⟨_, e, Nat.le_refl _⟩))
                   clear oQ gQ bQ hbA)
                all_goals
                  go_wp2_with fail
                  go_meet
                  exact ⟨Ls, _, HOP.out, HMO.out.snoc _ _ _ hid, by rw [List.length_append]; have := HML.out; simp; omega, Sep.take KF.out 5⟩
              · obtain ⟨fu, hfu⟩ : ∃ y : Int, x2 % 12 - 1 = y := ⟨_, rfl⟩
                have HFU := Lib.hid hfu
                have hfub : -1 ≤ fu ∧ fu ≤ 10 := by omega
                obtain ⟨F, hF⟩ : ∃ F : Nat, (F : Int) = max fu 0 := ⟨(max fu 0).toNat, by omega⟩
                have hF2 : F ≤ 9223372036854775807 := by omega
                have hml := HML.out
                have hl5 : M.length ≤ 100000 := by omega
                have HLK := Lib.hid (ppLook K5.out HMO.out hl5 fu F hF hF2)
                have HLR := Lib.hid (fun (w' : World) (La : List (List FutX)) (Ma : List (TK × Int)) (h : PP w w' a f g b qs La Ls Ma M [boxP bx (.cells #[.int .u8 x0, .int .u8 x1, .int .u8 x2, .int .i32 x3] 85)]) => ppLookR h HMO.out hl5 fu F hF hF2)
                obtain ⟨nn, hnn⟩ : ∃ n, min F M.length = n := ⟨_, rfl⟩
                rw [hnn] at HLK HLR
                obtain ⟨k9, hk9⟩ : ∃ k, F - nn = k := ⟨_, rfl⟩
                rw [hk9] at HLK HLR
                obtain ⟨hmk, hmkl⟩ := HMO.out.look Ls nn
                have HMK := Lib.hid hmk
                have HWL : Hid ((wkP Ls (M.take nn)).length ≤ 100000 ∧ ((M.drop nn).map Prod.fst).length ≤ 100000) := Lib.hid ⟨by unfold wkP; rw [List.length_map]; exact Nat.le_trans (List.length_filter_le _ _) (by rw [List.length_take]; omega), by rw [List.length_map, List.length_drop]; omega⟩
                obtain ⟨Wk, hWk⟩ : ∃ y, wkP Ls (M.take nn) = y := ⟨_, rfl⟩
                obtain ⟨Zk, hZk⟩ : ∃ y, (M.drop nn).map Prod.fst = y := ⟨_, rfl⟩
                obtain ⟨Mk, hMk⟩ : ∃ y, syP Ls (M.take nn) = y := ⟨_, rfl⟩
                rw [hWk, hZk, hMk] at HLK
                rw [hWk, hZk, hMk] at HLR
                rw [hWk, hZk] at HWL
                rw [hMk] at HMK hmkl
                have r1 : ((k9 : Int) != (k9 : Int)) = false := bne_self_eq_false _
                have HMKL : Hid (Mk.length ≤ j + 1) := Lib.hid (by omega)
                clear hfu hF hF2 hnn hk9 hWk hZk hMk hmk hmkl hml hl5
                have efu := HFU.out
                go_upto_region 30 with (fail)
                try rw [efu]
                clear efu
                go_wp2_with fail
                refine HLK.out.mono ?_
                rintro e w7 ⟨v1, v2, L1, L2, rfl, ⟨o1, n1, e1⟩, ⟨o2, n2, e2⟩, h7⟩
                obtain ⟨A71, c71, rfl⟩ := o1.shape
                obtain ⟨A72, c72, rfl⟩ := o2.shape
                have O1 := Lib.hid o1; have O2 := Lib.hid o2
                have E1 := Lib.hid e1; have E2 := Lib.hid e2
                have HLR7 := Lib.hid (HLR.out w7 _ _ h7)
                clear h7 o1 o2 e1 e2 HLR HLK
                go_wp2_with fail
                refine HLR7.out.mono ?_
                rintro e w8 ⟨⟨v3, v4, L3, L4, rfl, ⟨o3, n3, e3⟩, ⟨o4, n4, e4⟩, h8⟩, hbl, hfr⟩
                obtain ⟨A73, c73, rfl⟩ := o3.shape
                obtain ⟨A74, c74, rfl⟩ := o4.shape
                have T1 := nost_tasks (OwnT.frm O1.out hfr (fun i hi e => by have : i = b := e; omega)) n1
                have T2 := nost_tasks (OwnT.frm O2.out hfr (fun i hi e => by have : i = b := e; omega)) n2
                have T3 := nost_tasks o3 n3
                have T4 := nost_tasks o4 n4
                have HS1 := Lib.hid (refSameAll_any T1 T3 (by rw [E1.out, e3]) (by have := congrArg List.length E1.out; rw [List.length_map] at this; have := HWL.out.1; omega))
                have HS2 := Lib.hid (fun (w' : World) (hb : Below w8.heap.size w8 w') => refSameAll_any (T2.later hb) (T4.later hb) (by rw [E2.out, e4]) (by have := congrArg List.length E2.out; rw [List.length_map] at this; have := HWL.out.2; omega))
                have H8 := Lib.hid h8
                clear h8 hbl hfr o3 o4 e3 e4 n1 n2 n3 n4 T1 T2 T3 T4 HLR7 O1 O2 E1 E2
                generalize L1.length = k71 at *
                generalize L2.length = k72 at *
                generalize L3.length = k73 at *
                generalize L4.length = k74 at *
                go_wp2_with fail
                refine HS1.out.mono ?_
                rintro e w9 ⟨rfl, hb9⟩
                have HS9 := Lib.hid (HS2.out w9 hb9)
                have HB9 := Lib.hid hb9
                clear hb9
                go_wp2_with fail
                refine HS9.out.mono ?_
                rintro e w10 ⟨rfl, hb10⟩
                have HB10 := Lib.hid hb10
                clear hb10
                go_wp2_with fail
                go_meet
                exact ⟨Ls, Mk, HOP.out, HMK.out, HMKL.out, (H8.out.below HB9.out).below HB10.out⟩
              · have HEQ := Lib.hid (HOP.out.keep HN16.out id 1)
                have HE1 := Lib.hid (ppKeep K5.out id 1 hid)
                have HE2 := Lib.hid (fun (w' : World) (La : List (List FutX)) (h : PP w w' a f g b qs La Ls M M [boxP bx (.cells #[.int .u8 x0, .int .u8 x1, .int .u8 x2, .int .i32 x3] 85)]) => ppKeepR h id 1 hid)
                rw [HEQ.out.1] at HE2
                obtain ⟨Lx, hLx⟩ : ∃ y, endL Ls id (keepF 1) = y := ⟨_, rfl⟩
                have HOX : Hid (Opn Lx) := Lib.hid (by rw [← hLx]; exact HEQ.out.2)
                rw [hLx] at HE1 HE2
                clear hLx
                go_wp2_with fail
                refine HE1.out.mono ?_
                rintro e w7 ⟨y7, rfl, h7⟩
                have H7 := Lib.hid (HE2.out w7 _ h7)
                clear h7
                go_wp2_with fail
                refine H7.out.mono ?_
                rintro e w8 ⟨y8, rfl, h8⟩
                have H8 := Lib.hid h8
                clear h8
                go_wp2_with fail
                go_meet
                exact ⟨Lx, M, HOX.out, HMO.out, by have := HML.out; omega, H8.out⟩
              · have HEQ := Lib.hid (HOP.out.brk HN16.out id 9)
                have HE1 := Lib.hid (ppBreak K5.out id 9 hid)
                have HE2 := Lib.hid (fun (w' : World) (La : List (List FutX)) (h : PP w w' a f g b qs La Ls M M [boxP bx (.cells #[.int .u8 x0, .int .u8 x1, .int .u8 x2, .int .i32 x3] 85)]) => ppBreakR h id 9 hid)
                rw [HEQ.out.1] at HE2
                obtain ⟨Lx, hLx⟩ : ∃ y, endL Ls id (breakF 9) = y := ⟨_, rfl⟩
                have HOX : Hid (Opn Lx) := Lib.hid (by rw [← hLx]; exact HEQ.out.2)
                rw [hLx] at HE1 HE2
                clear hLx
                go_wp2_with fail
                refine HE1.out.mono ?_
                rintro e w7 ⟨y7, rfl, h7⟩
                have H7 := Lib.hid (HE2.out w7 _ h7)
                clear h7
                go_wp2_with fail
                refine H7.out.mono ?_
                rintro e w8 ⟨y8, rfl, h8⟩
                have H8 := Lib.hid h8
                clear h8
                go_wp2_with fail
                go_meet
                exact ⟨Lx, M, HOX.out, HMO.out, by have := HML.out; omega, H8.out⟩
            case rest =>
              obtain ⟨Lx, Mx, hO, hM, hML, hK⟩ := hcut
              have HOL := Lib.hid hO
              have HMX := Lib.hid hM
              have hmj : Mx.length ≤ j + 1 := hML
              have HMLX := Lib.hid hML
              have HAL := Lib.hid (ppAll hK (by omega))
              obtain ⟨m, hm⟩ : ∃ n, Mx.length = n := ⟨_, rfl⟩
              rw [hm] at hmj
              have HM := Lib.hid hm
              clear hO hM hML hK hm HMM HOP HMO HML HN16
              go_wp2_with fail
              refine HAL.out.mono ?_
              rintro e w11 ⟨v, Lk, rfl, hA, he, h11⟩
              obtain ⟨A11, c11, e11⟩ := hA.own.shape
              have hlk : Lk.length = m := by have := congrArg List.length he; rw [List.length_map] at this; rw [this]; exact HM.out
              rw [hlk] at e11
              subst e11
              obtain ⟨hb11, Ar, cr, q0, f0, hr⟩ := pp_list h11
              rw [HM.out] at q0
              have HA := Lib.hid hA
              have HE := Lib.hid he
              have HR := Lib.hid hr
              have H11 := Lib.hid h11
              have HLE := Lib.hid (fun (w' : World) (h : PP w w' a f g b qs Lx Lx Mx Mx [boxP bx (.cells #[.int .u8 x0, .int .u8 x1, .int .u8 x2, .int .i32 x3] 85)]) => ppLen h)
              rw [HM.out] at HLE
              have HQL := Lib.hid (fun n => quiet_flip (HLE.out (w11.drewN n) (Sep.below h11 (below_drewN (Below.refl _ _) n))))
              have s5 : ((m : Int) != (m : Int)) = false := bne_self_eq_false _
              have HQ0 := Lib.hid q0
              clear hA he hr h11 f0 hlk HLE HAL
              go_wp2_with fail
              go_quiet ((go_at_call 49; with_reducible exact Calls.quiet_of_same (HQL.out _)))
              clear q0
              go_wp2_with fail
              go_loopw [22] (fun i wq => ∃ k : Nat, k ≤ m ∧ i = .int .i64 k ∧ Below w11.heap.size w11 wq) (fun i _ => m - (intOf i).toNat)
              case atStart => exact ⟨0, Nat.zero_le _, rfl, below_drewN (Below.refl _ _) _⟩
              case round =>
                obtain ⟨k, hk, rfl, hb⟩ := hrel
                have HB := Lib.hid hb
                by_cases hkm : k < m
                · have hkl : k < Mx.length := by rw [HM.out]; exact hkm
                  obtain ⟨gq, Bq, kq, eA, ra⟩ := all_at HA.out HE.out HMX.out hkl
                  obtain ⟨g2, eR, rr⟩ := HR.out k hkl
                  have hst := (HMX.out Mx[k] (List.getElem_mem hkl)).1
                  have hydb := (HMX.out Mx[k] (List.getElem_mem hkl)).2
                  generalize Mx[k] = z at *
                  obtain ⟨t, yd⟩ := z
                  dsimp only at ra rr hst hydb
                  subst eA
                  subst eR
                  have c0 : wr.cell? ⟨b, 0, none⟩ = some (.slice (some ⟨g2, 0, none⟩) m cr) := (hb.cell (p := ⟨b, 0, none⟩) hb11).trans HQ0.out
                  have dR := rangeAt_below ra hb
                  have qR := rangeAt_below rr hb
                  have HS := Lib.hid (fun w' (h : Below wr.heap.size wr w') => refSame_any t t (.slice Bq 0 kq) (.slice none 0 0) w' (by rw [hst]; exact ⟨Bq, kq, rfl, Nat.zero_le _, Lies.nil⟩) (by rw [hst]; exact I32V.nil _ _) (by rw [hst]; exact Nat.zero_le _))
                  rw [sameB_self] at HS
                  simp only [taskV, taskA] at HS
                  have d0 : wr.cell? ⟨gq, k * 13, none⟩ = some (.int .i32 t.id) := dR 0 _ rfl
                  have d1 : wr.cell? ⟨gq, k * 13 + 1, none⟩ = some (.int .i64 t.fn) := dR 1 _ rfl
                  have d2 : wr.cell? ⟨gq, k * 13 + 2, none⟩ = some (.int .i64 t.pc) := dR 2 _ rfl
                  have d3 : wr.cell? ⟨gq, k * 13 + 3, none⟩ = some (.slice Bq 0 kq) := dR 3 _ rfl
                  have d4 : wr.cell? ⟨gq, k * 13 + 4, none⟩ = some (.int .i32 t.v0) := dR 4 _ rfl
                  have d5 : wr.cell? ⟨gq, k * 13 + 5, none⟩ = some (.int .i32 t.v1) := dR 5 _ rfl
                  have d6 : wr.cell? ⟨gq, k * 13 + 6, none⟩ = some (.int .i32 t.v2) := dR 6 _ rfl
                  have d7 : wr.cell? ⟨gq, k * 13 + 7, none⟩ = some (.int .i32 t.v3) := dR 7 _ rfl
                  have d8 : wr.cell? ⟨gq, k * 13 + 8, none⟩ = some (.int .i64 t.lb) := dR 8 _ rfl
                  have d9 : wr.cell? ⟨gq, k * 13 + 9, none⟩ = some (.int .i64 t.cl) := dR 9 _ rfl
                  have d10 : wr.cell? ⟨gq, k * 13 + 10, none⟩ = some (.int .u32 t.pv) := dR 10 _ rfl
                  have d11 : wr.cell? ⟨gq, k * 13 + 11, none⟩ = some (.int .i64 t.wk) := dR 11 _ rfl
                  have d12 : wr.cell? ⟨gq, k * 13 + 12, none⟩ = some (.int .i32 yd) := dR 12 _ rfl
                  have q0 : wr.cell? ⟨g2, k * 13, none⟩ = some (.int .i32 t.id) := qR 0 _ rfl
                  have q1 : wr.cell? ⟨g2, k * 13 + 1, none⟩ = some (.int .i64 t.fn) := qR 1 _ rfl
                  have q2 : wr.cell? ⟨g2, k * 13 + 2, none⟩ = some (.int .i64 t.pc) := qR 2 _ rfl
                  have q3 : wr.cell? ⟨g2, k * 13 + 3, none⟩ = some (.slice none 0 0) := qR 3 _ rfl
                  have q4 : wr.cell? ⟨g2, k * 13 + 4, none⟩ = some (.int .i32 t.v0) := qR 4 _ rfl
                  have q5 : wr.cell? ⟨g2, k * 13 + 5, none⟩ = some (.int .i32 t.v1) := qR 5 _ rfl
                  have q6 : wr.cell? ⟨g2, k * 13 + 6, none⟩ = some (.int .i32 t.v2) := qR 6 _ rfl
                  have q7 : wr.cell? ⟨g2, k * 13 + 7, none⟩ = some (.int .i32 t.v3) := qR 7 _ rfl
                  have q8 : wr.cell? ⟨g2, k * 13 + 8, none⟩ = some (.int .i64 t.lb) := qR 8 _ rfl
                  have q9 : wr.cell? ⟨g2, k * 13 + 9, none⟩ = some (.int .i64 t.cl) := qR 9 _ rfl
                  have q10 : wr.cell? ⟨g2, k * 13 + 10, none⟩ = some (.int .u32 t.pv) := qR 10 _ rfl
                  have q11 : wr.cell? ⟨g2, k * 13 + 11, none⟩ = some (.int .i64 t.wk) := qR 11 _ rfl
                  have q12 : wr.cell? ⟨g2, k * 13 + 12, none⟩ = some (.int .i32 yd) := qR 12 _ rfl
                  have i2 : (0 : Int) ≤ (k : Int) ∧ (k : Int) < m := by omega
                  have s6 : (yd != yd) = false := bne_self_eq_false _
                  clear hb ra rr dR qR hst hkl
                  go_wp2_with fail
                  have HS43 : Hid (Below wr.heap.size wr wr.drew) := Lib.hid ⟨rfl, rfl, rfl, Nat.le_refl _, fun _ _ => rfl⟩
                  have HLT : Hid (gq < wr.heap.size ∧ g2 < wr.heap.size ∧ b < wr.heap.size) := Lib.hid ⟨World.block_lt_of_cell? wr _ d0, World.block_lt_of_cell? wr _ q0, World.block_lt_of_cell? wr _ c0⟩
                  refine Reg.wp_facts_sl [184, 185, 186, 187, 188, 189, 190, 191, 192, 193, 194, 195, 196, 197, 198, 199, 200, 201, 202, 203, 204, 205, 206, 207, 208, 209, 210, 211, 212, 213, 214] rfl [] [[], [], [(0, 184), (1, 185)], [(2, 186)], [(3, 187)], [], [(5, 189)], [(6, 190)], [(7, 191)], [], [(8, 192), (9, 193)], [(10, 194)], [(11, 195)], [(4, 188), (12, 196)], [(13, 197)], [], [], [(15, 199), (16, 200)], [(17, 201)], [(18, 202)], [], [(20, 204)], [(21, 205)], [(22, 206)], [], [(23, 207), (24, 208)], [(25, 209)], [(26, 210)], [(19, 203), (27, 211)], [(28, 212)], [(14, 198), (29, 213)]] [(30, 214)] (Reg.Known (pk43Val gq g2 b m k c11 cr kq Bq yd t) (fun _ _ _ => True) []) (fun _ wi => Below wr.heap.size wr wi) (by kernel_rfl) (by kernel_rfl) ?start ?steps ?finish
                  case start => exact HS43.out
                  case steps =>
                    refine Reg.Steps.zip ?_ ?_
                    · refine Reg.step_go rfl ?_
                      intro a wi ki hf hd hS hc K hK
                      have f21 : a.tmps.getD 21 undef = .slice (some ⟨gq, 0, none⟩) m c11 := hf.same 21 rfl
                      clear hf hd hc
                      have hK0 := Lib.hid hK; clear hK
                      have hS0 := Lib.hid hS; clear hS
                      go_simp
                      exact hK0.out _ _ (Reg.Known.mk_val rfl rfl) (fun _ _ h => h) hS0.out
                    refine Reg.Steps.zip ?_ ?_
                    · refine Reg.step_go rfl ?_
                      intro a wi ki hf hd hS hc K hK
                      have f22 : a.tmps.getD 22 undef = .int .i64 (k : Int) := hf.same 22 rfl
                      clear hf hd hc
                      have hK0 := Lib.hid hK; clear hK
                      have hS0 := Lib.hid hS; clear hS
                      go_simp
                      exact hK0.out _ _ (Reg.Known.mk_val rfl rfl) (fun _ _ h => h) hS0.out
                    refine Reg.Steps.zip ?_ ?_
                    · refine Reg.step_go rfl ?_
                      intro a wi ki hf hd hS hc K hK
                      have e184 : a.tmps.getD 184 undef = .slice (some ⟨gq, 0, none⟩) m c11 := hd.1.plain rfl
                      have e185 : a.tmps.getD 185 undef = .int .i64 (k : Int) := hd.2.1.plain rfl
                      clear hf hd hc
                      have hK0 := Lib.hid hK; clear hK
                      have hS0 := Lib.hid hS; clear hS
                      go_simp
                      exact hK0.out _ _ (Reg.Known.mk_val rfl rfl) (fun _ _ h => h) hS0.out
                    refine Reg.Steps.zip ?_ ?_
                    · refine Reg.step_go rfl ?_
                      intro a wi ki hf hd hS hc K hK
                      have e186 : a.tmps.getD 186 undef = .pointer (some ⟨gq, k * 13, none⟩) := hd.1.plain rfl
                      clear hf hd hc
                      have hK0 := Lib.hid hK; clear hK
                      have hS0 := Lib.hid hS; clear hS
                      go_simp
                      exact hK0.out _ _ (Reg.Known.mk_val rfl rfl) (fun _ _ h => h) hS0.out
                    refine Reg.Steps.zip ?_ ?_
                    · refine Reg.step_go rfl ?_
                      intro a wi ki hf hd hS hc K hK
                      have e187 : a.tmps.getD 187 undef = .pointer (some ⟨gq, k * 13 + 12, none⟩) := hd.1.plain rfl
                      clear hf hd hc
                      have xd12 : wi.cell? ⟨gq, k * 13 + 12, none⟩ = some (.int .i32 yd) := (hS.cell (p := ⟨gq, k * 13 + 12, none⟩) HLT.out.1).trans d12
                      have hK0 := Lib.hid hK; clear hK
                      have hS0 := Lib.hid hS; clear hS
                      go_simp
                      exact hK0.out _ _ (Reg.Known.mk_val rfl rfl) (fun _ _ h => h) hS0.out
                    refine Reg.Steps.zip ?_ ?_
                    · refine Reg.step_go rfl ?_
                      intro a wi ki hf hd hS hc K hK
                      have f9 : a.tmps.getD 9 undef = .pointer (some ⟨b, 0, none⟩) := hf.same 9 rfl
                      clear hf hd hc
                      have hK0 := Lib.hid hK; clear hK
                      have hS0 := Lib.hid hS; clear hS
                      go_simp
                      exact hK0.out _ _ (Reg.Known.mk_val rfl rfl) (fun _ _ h => h) hS0.out
                    refine Reg.Steps.zip ?_ ?_
                    · refine Reg.step_go rfl ?_
                      intro a wi ki hf hd hS hc K hK
                      have e189 : a.tmps.getD 189 undef = .pointer (some ⟨b, 0, none⟩) := hd.1.plain rfl
                      clear hf hd hc
                      have hK0 := Lib.hid hK; clear hK
                      have hS0 := Lib.hid hS; clear hS
                      go_simp
                      exact hK0.out _ _ (Reg.Known.mk_val rfl rfl) (fun _ _ h => h) hS0.out
                    refine Reg.Steps.zip ?_ ?_
                    · refine Reg.step_go rfl ?_
                      intro a wi ki hf hd hS hc K hK
                      have e190 : a.tmps.getD 190 undef = .pointer (some ⟨b, 0, none⟩) := hd.1.plain rfl
                      clear hf hd hc
                      have hK0 := Lib.hid hK; clear hK
                      have hS0 := Lib.hid hS; clear hS
                      go_simp
                      exact hK0.out _ _ (Reg.Known.mk_val rfl rfl) (fun _ _ h => h) hS0.out
                    refine Reg.Steps.zip ?_ ?_
                    · refine Reg.step_go rfl ?_
                      intro a wi ki hf hd hS hc K hK
                      have e191 : a.tmps.getD 191 undef = .pointer (some ⟨b, 0, none⟩) := hd.1.plain rfl
                      clear hf hd hc
                      have xc : wi.cell? ⟨b, 0, none⟩ = some (.slice (some ⟨g2, 0, none⟩) m cr) := (hS.cell (p := ⟨b, 0, none⟩) HLT.out.2.2).trans c0
                      have hK0 := Lib.hid hK; clear hK
                      have hS0 := Lib.hid hS; clear hS
                      go_simp
                      exact hK0.out _ _ (Reg.Known.mk_val rfl rfl) (fun _ _ h => h) hS0.out
                    refine Reg.Steps.zip ?_ ?_
                    · refine Reg.step_go rfl ?_
                      intro a wi ki hf hd hS hc K hK
                      have f22 : a.tmps.getD 22 undef = .int .i64 (k : Int) := hf.same 22 rfl
                      clear hf hd hc
                      have hK0 := Lib.hid hK; clear hK
                      have hS0 := Lib.hid hS; clear hS
                      go_simp
                      exact hK0.out _ _ (Reg.Known.mk_val rfl rfl) (fun _ _ h => h) hS0.out
                    refine Reg.Steps.zip ?_ ?_
                    · refine Reg.step_go rfl ?_
                      intro a wi ki hf hd hS hc K hK
                      have e192 : a.tmps.getD 192 undef = .slice (some ⟨g2, 0, none⟩) m cr := hd.1.plain rfl
                      have e193 : a.tmps.getD 193 undef = .int .i64 (k : Int) := hd.2.1.plain rfl
                      clear hf hd hc
                      have hK0 := Lib.hid hK; clear hK
                      have hS0 := Lib.hid hS; clear hS
                      go_simp
                      exact hK0.out _ _ (Reg.Known.mk_val rfl rfl) (fun _ _ h => h) hS0.out
                    refine Reg.Steps.zip ?_ ?_
                    · refine Reg.step_go rfl ?_
                      intro a wi ki hf hd hS hc K hK
                      have e194 : a.tmps.getD 194 undef = .pointer (some ⟨g2, k * 13, none⟩) := hd.1.plain rfl
                      clear hf hd hc
                      have hK0 := Lib.hid hK; clear hK
                      have hS0 := Lib.hid hS; clear hS
                      go_simp
                      exact hK0.out _ _ (Reg.Known.mk_val rfl rfl) (fun _ _ h => h) hS0.out
                    refine Reg.Steps.zip ?_ ?_
                    · refine Reg.step_go rfl ?_
                      intro a wi ki hf hd hS hc K hK
                      have e195 : a.tmps.getD 195 undef = .pointer (some ⟨g2, k * 13 + 12, none⟩) := hd.1.plain rfl
                      clear hf hd hc
                      have xq12 : wi.cell? ⟨g2, k * 13 + 12, none⟩ = some (.int .i32 yd) := (hS.cell (p := ⟨g2, k * 13 + 12, none⟩) HLT.out.2.1).trans q12
                      have hK0 := Lib.hid hK; clear hK
                      have hS0 := Lib.hid hS; clear hS
                      go_simp
                      exact hK0.out _ _ (Reg.Known.mk_val rfl rfl) (fun _ _ h => h) hS0.out
                    refine Reg.Steps.zip ?_ ?_
                    · refine Reg.step_go rfl ?_
                      intro a wi ki hf hd hS hc K hK
                      have e188 : a.tmps.getD 188 undef = .int .i32 yd := hd.1.plain rfl
                      have e196 : a.tmps.getD 196 undef = .int .i32 yd := hd.2.1.plain rfl
                      clear hf hd hc
                      have hK0 := Lib.hid hK; clear hK
                      have hS0 := Lib.hid hS; clear hS
                      go_simp
                      exact hK0.out _ _ (Reg.Known.mk_val rfl rfl) (fun _ _ h => h) hS0.out
                    refine Reg.Steps.zip ?_ ?_
                    · refine Reg.step_go rfl ?_
                      intro a wi ki hf hd hS hc K hK
                      have e197 : a.tmps.getD 197 undef = .bool false := hd.1.plain rfl
                      clear hf hd hc
                      have hK0 := Lib.hid hK; clear hK
                      have hS0 := Lib.hid hS; clear hS
                      go_simp
                      exact hK0.out _ _ (Reg.Known.mk_val rfl rfl) (fun _ _ h => h) hS0.out
                    refine Reg.Steps.zip ?_ ?_
                    · refine Reg.step_on rfl (fun u w h => h.plain rfl) ?_
                      intro a wi ki hf hd hS hc K hK
                      have f21 : a.tmps.getD 21 undef = .slice (some ⟨gq, 0, none⟩) m c11 := hf.same 21 rfl
                      clear hf hd hc
                      have hK0 := Lib.hid hK; clear hK
                      have hS0 := Lib.hid hS; clear hS
                      go_simp
                      exact hK0.out _ _ (Reg.Known.mk_val rfl rfl) (fun _ _ h => h) hS0.out
                    refine Reg.Steps.zip ?_ ?_
                    · refine Reg.step_on rfl (fun u w h => h.plain rfl) ?_
                      intro a wi ki hf hd hS hc K hK
                      have f22 : a.tmps.getD 22 undef = .int .i64 (k : Int) := hf.same 22 rfl
                      clear hf hd hc
                      have hK0 := Lib.hid hK; clear hK
                      have hS0 := Lib.hid hS; clear hS
                      go_simp
                      exact hK0.out _ _ (Reg.Known.mk_val rfl rfl) (fun _ _ h => h) hS0.out
                    refine Reg.Steps.zip ?_ ?_
                    · refine Reg.step_on rfl (fun u w h => h.plain rfl) ?_
                      intro a wi ki hf hd hS hc K hK
                      have e199 : a.tmps.getD 199 undef = .slice (some ⟨gq, 0, none⟩) m c11 := hd.1.plain rfl
                      have e200 : a.tmps.getD 200 undef = .int .i64 (k : Int) := hd.2.1.plain rfl
                      clear hf hd hc
                      have hK0 := Lib.hid hK; clear hK
                      have hS0 := Lib.hid hS; clear hS
                      go_simp
                      exact hK0.out _ _ (Reg.Known.mk_val rfl rfl) (fun _ _ h => h) hS0.out
                    refine Reg.Steps.zip ?_ ?_
                    · refine Reg.step_on rfl (fun u w h => h.plain rfl) ?_
                      intro a wi ki hf hd hS hc K hK
                      have e201 : a.tmps.getD 201 undef = .pointer (some ⟨gq, k * 13, none⟩) := hd.1.plain rfl
                      clear hf hd hc
                      have hK0 := Lib.hid hK; clear hK
                      have hS0 := Lib.hid hS; clear hS
                      go_simp
                      exact hK0.out _ _ (Reg.Known.mk_val rfl rfl) (fun _ _ h => h) hS0.out
                    refine Reg.Steps.zip ?_ ?_
                    · refine Reg.step_on rfl (fun u w h => h.plain rfl) ?_
                      intro a wi ki hf hd hS hc K hK
                      have e202 : a.tmps.getD 202 undef = .pointer (some ⟨gq, k * 13, none⟩) := hd.1.plain rfl
                      clear hf hd hc
                      have xd0 : wi.cell? ⟨gq, k * 13, none⟩ = some (.int .i32 t.id) := (hS.cell (p := ⟨gq, k * 13, none⟩) HLT.out.1).trans d0
                      have xd1 : wi.cell? ⟨gq, k * 13 + 1, none⟩ = some (.int .i64 t.fn) := (hS.cell (p := ⟨gq, k * 13 + 1, none⟩) HLT.out.1).trans d1
                      have xd2 : wi.cell? ⟨gq, k * 13 + 2, none⟩ = some (.int .i64 t.pc) := (hS.cell (p := ⟨gq, k * 13 + 2, none⟩) HLT.out.1).trans d2
                      have xd3 : wi.cell? ⟨gq, k * 13 + 3, none⟩ = some (.slice Bq 0 kq) := (hS.cell (p := ⟨gq, k * 13 + 3, none⟩) HLT.out.1).trans d3
                      have xd4 : wi.cell? ⟨gq, k * 13 + 4, none⟩ = some (.int .i32 t.v0) := (hS.cell (p := ⟨gq, k * 13 + 4, none⟩) HLT.out.1).trans d4
                      have xd5 : wi.cell? ⟨gq, k * 13 + 5, none⟩ = some (.int .i32 t.v1) := (hS.cell (p := ⟨gq, k * 13 + 5, none⟩) HLT.out.1).trans d5
                      have xd6 : wi.cell? ⟨gq, k * 13 + 6, none⟩ = some (.int .i32 t.v2) := (hS.cell (p := ⟨gq, k * 13 + 6, none⟩) HLT.out.1).trans d6
                      have xd7 : wi.cell? ⟨gq, k * 13 + 7, none⟩ = some (.int .i32 t.v3) := (hS.cell (p := ⟨gq, k * 13 + 7, none⟩) HLT.out.1).trans d7
                      have xd8 : wi.cell? ⟨gq, k * 13 + 8, none⟩ = some (.int .i64 t.lb) := (hS.cell (p := ⟨gq, k * 13 + 8, none⟩) HLT.out.1).trans d8
                      have xd9 : wi.cell? ⟨gq, k * 13 + 9, none⟩ = some (.int .i64 t.cl) := (hS.cell (p := ⟨gq, k * 13 + 9, none⟩) HLT.out.1).trans d9
                      have xd10 : wi.cell? ⟨gq, k * 13 + 10, none⟩ = some (.int .u32 t.pv) := (hS.cell (p := ⟨gq, k * 13 + 10, none⟩) HLT.out.1).trans d10
                      have xd11 : wi.cell? ⟨gq, k * 13 + 11, none⟩ = some (.int .i64 t.wk) := (hS.cell (p := ⟨gq, k * 13 + 11, none⟩) HLT.out.1).trans d11
                      have hK0 := Lib.hid hK; clear hK
                      have hS0 := Lib.hid hS; clear hS
                      go_simp
                      exact hK0.out _ _ (Reg.Known.mk_val rfl rfl) (fun _ _ h => h) hS0.out
                    refine Reg.Steps.zip ?_ ?_
                    · refine Reg.step_on rfl (fun u w h => h.plain rfl) ?_
                      intro a wi ki hf hd hS hc K hK
                      have f9 : a.tmps.getD 9 undef = .pointer (some ⟨b, 0, none⟩) := hf.same 9 rfl
                      clear hf hd hc
                      have hK0 := Lib.hid hK; clear hK
                      have hS0 := Lib.hid hS; clear hS
                      go_simp
                      exact hK0.out _ _ (Reg.Known.mk_val rfl rfl) (fun _ _ h => h) hS0.out
                    refine Reg.Steps.zip ?_ ?_
                    · refine Reg.step_on rfl (fun u w h => h.plain rfl) ?_
                      intro a wi ki hf hd hS hc K hK
                      have e204 : a.tmps.getD 204 undef = .pointer (some ⟨b, 0, none⟩) := hd.1.plain rfl
                      clear hf hd hc
                      have hK0 := Lib.hid hK; clear hK
                      have hS0 := Lib.hid hS; clear hS
                      go_simp
                      exact hK0.out _ _ (Reg.Known.mk_val rfl rfl) (fun _ _ h => h) hS0.out
                    refine Reg.Steps.zip ?_ ?_
                    · refine Reg.step_on rfl (fun u w h => h.plain rfl) ?_
                      intro a wi ki hf hd hS hc K hK
                      have e205 : a.tmps.getD 205 undef = .pointer (some ⟨b, 0, none⟩) := hd.1.plain rfl
                      clear hf hd hc
                      have hK0 := Lib.hid hK; clear hK
                      have hS0 := Lib.hid hS; clear hS
                      go_simp
                      exact hK0.out _ _ (Reg.Known.mk_val rfl rfl) (fun _ _ h => h) hS0.out
                    refine Reg.Steps.zip ?_ ?_
                    · refine Reg.step_on rfl (fun u w h => h.plain rfl) ?_
                      intro a wi ki hf hd hS hc K hK
                      have e206 : a.tmps.getD 206 undef = .pointer (some ⟨b, 0, none⟩) := hd.1.plain rfl
                      clear hf hd hc
                      have xc : wi.cell? ⟨b, 0, none⟩ = some (.slice (some ⟨g2, 0, none⟩) m cr) := (hS.cell (p := ⟨b, 0, none⟩) HLT.out.2.2).trans c0
                      have hK0 := Lib.hid hK; clear hK
                      have hS0 := Lib.hid hS; clear hS
                      go_simp
                      exact hK0.out _ _ (Reg.Known.mk_val rfl rfl) (fun _ _ h => h) hS0.out
                    refine Reg.Steps.zip ?_ ?_
                    · refine Reg.step_on rfl (fun u w h => h.plain rfl) ?_
                      intro a wi ki hf hd hS hc K hK
                      have f22 : a.tmps.getD 22 undef = .int .i64 (k : Int) := hf.same 22 rfl
                      clear hf hd hc
                      have hK0 := Lib.hid hK; clear hK
                      have hS0 := Lib.hid hS; clear hS
                      go_simp
                      exact hK0.out _ _ (Reg.Known.mk_val rfl rfl) (fun _ _ h => h) hS0.out
                    refine Reg.Steps.zip ?_ ?_
                    · refine Reg.step_on rfl (fun u w h => h.plain rfl) ?_
                      intro a wi ki hf hd hS hc K hK
                      have e207 : a.tmps.getD 207 undef = .slice (some ⟨g2, 0, none⟩) m cr := hd.1.plain rfl
                      have e208 : a.tmps.getD 208 undef = .int .i64 (k : Int) := hd.2.1.plain rfl
                      clear hf hd hc
                      have hK0 := Lib.hid hK; clear hK
                      have hS0 := Lib.hid hS; clear hS
                      go_simp
                      exact hK0.out _ _ (Reg.Known.mk_val rfl rfl) (fun _ _ h => h) hS0.out
                    refine Reg.Steps.zip ?_ ?_
                    · refine Reg.step_on rfl (fun u w h => h.plain rfl) ?_
                      intro a wi ki hf hd hS hc K hK
                      have e209 : a.tmps.getD 209 undef = .pointer (some ⟨g2, k * 13, none⟩) := hd.1.plain rfl
                      clear hf hd hc
                      have hK0 := Lib.hid hK; clear hK
                      have hS0 := Lib.hid hS; clear hS
                      go_simp
                      exact hK0.out _ _ (Reg.Known.mk_val rfl rfl) (fun _ _ h => h) hS0.out
                    refine Reg.Steps.zip ?_ ?_
                    · refine Reg.step_on rfl (fun u w h => h.plain rfl) ?_
                      intro a wi ki hf hd hS hc K hK
                      have e210 : a.tmps.getD 210 undef = .pointer (some ⟨g2, k * 13, none⟩) := hd.1.plain rfl
                      clear hf hd hc
                      have xq0 : wi.cell? ⟨g2, k * 13, none⟩ = some (.int .i32 t.id) := (hS.cell (p := ⟨g2, k * 13, none⟩) HLT.out.2.1).trans q0
                      have xq1 : wi.cell? ⟨g2, k * 13 + 1, none⟩ = some (.int .i64 t.fn) := (hS.cell (p := ⟨g2, k * 13 + 1, none⟩) HLT.out.2.1).trans q1
                      have xq2 : wi.cell? ⟨g2, k * 13 + 2, none⟩ = some (.int .i64 t.pc) := (hS.cell (p := ⟨g2, k * 13 + 2, none⟩) HLT.out.2.1).trans q2
                      have xq3 : wi.cell? ⟨g2, k * 13 + 3, none⟩ = some (.slice none 0 0) := (hS.cell (p := ⟨g2, k * 13 + 3, none⟩) HLT.out.2.1).trans q3
                      have xq4 : wi.cell? ⟨g2, k * 13 + 4, none⟩ = some (.int .i32 t.v0) := (hS.cell (p := ⟨g2, k * 13 + 4, none⟩) HLT.out.2.1).trans q4
                      have xq5 : wi.cell? ⟨g2, k * 13 + 5, none⟩ = some (.int .i32 t.v1) := (hS.cell (p := ⟨g2, k * 13 + 5, none⟩) HLT.out.2.1).trans q5
                      have xq6 : wi.cell? ⟨g2, k * 13 + 6, none⟩ = some (.int .i32 t.v2) := (hS.cell (p := ⟨g2, k * 13 + 6, none⟩) HLT.out.2.1).trans q6
                      have xq7 : wi.cell? ⟨g2, k * 13 + 7, none⟩ = some (.int .i32 t.v3) := (hS.cell (p := ⟨g2, k * 13 + 7, none⟩) HLT.out.2.1).trans q7
                      have xq8 : wi.cell? ⟨g2, k * 13 + 8, none⟩ = some (.int .i64 t.lb) := (hS.cell (p := ⟨g2, k * 13 + 8, none⟩) HLT.out.2.1).trans q8
                      have xq9 : wi.cell? ⟨g2, k * 13 + 9, none⟩ = some (.int .i64 t.cl) := (hS.cell (p := ⟨g2, k * 13 + 9, none⟩) HLT.out.2.1).trans q9
                      have xq10 : wi.cell? ⟨g2, k * 13 + 10, none⟩ = some (.int .u32 t.pv) := (hS.cell (p := ⟨g2, k * 13 + 10, none⟩) HLT.out.2.1).trans q10
                      have xq11 : wi.cell? ⟨g2, k * 13 + 11, none⟩ = some (.int .i64 t.wk) := (hS.cell (p := ⟨g2, k * 13 + 11, none⟩) HLT.out.2.1).trans q11
                      have hK0 := Lib.hid hK; clear hK
                      have hS0 := Lib.hid hS; clear hS
                      go_simp
                      exact hK0.out _ _ (Reg.Known.mk_val rfl rfl) (fun _ _ h => h) hS0.out
                    refine Reg.Steps.zip ?_ ?_
                    · refine Reg.step_on rfl (fun u w h => h.plain rfl) ?_
                      intro a wi ki hf hd hS hc K hK
                      have e203 : a.tmps.getD 203 undef = .agg #[.int .i32 t.id, .int .i64 t.fn, .int .i64 t.pc, .slice Bq 0 kq, .int .i32 t.v0, .int .i32 t.v1, .int .i32 t.v2, .int .i32 t.v3, .int .i64 t.lb, .int .i64 t.cl, .int .u32 t.pv, .int .i64 t.wk] := hd.1.plain rfl
                      have e211 : a.tmps.getD 211 undef = .agg #[.int .i32 t.id, .int .i64 t.fn, .int .i64 t.pc, .slice none 0 0, .int .i32 t.v0, .int .i32 t.v1, .int .i32 t.v2, .int .i32 t.v3, .int .i64 t.lb, .int .i64 t.cl, .int .u32 t.pv, .int .i64 t.wk] := hd.2.1.plain rfl
                      clear hf hd
                      have HS9 := Lib.hid hS; clear hS
                      have hK0 := Lib.hid hK; clear hK hc
                      go_simp
                      refine (HS.out wi HS9.out).mono ?_
                      rintro e wA ⟨rfl, hbA⟩
                      exact hK0.out _ _ (Reg.Known.mk_val rfl rfl) (fun _ _ h => ⟨h.plain, fun h2 => by cases h2⟩) (nextB HS9.out hbA)
                    refine Reg.Steps.zip ?_ ?_
                    · refine Reg.step_on rfl (fun u w h => h.plain rfl) ?_
                      intro a wi ki hf hd hS hc K hK
                      have e212 : a.tmps.getD 212 undef = .bool true := hd.1.plain rfl
                      clear hf hd hc
                      have hK0 := Lib.hid hK; clear hK
                      have hS0 := Lib.hid hS; clear hS
                      go_simp
                      exact hK0.out _ _ (Reg.Known.mk_val rfl rfl) (fun _ _ h => h) hS0.out
                    refine Reg.Steps.zip ?_ ?_
                    · refine Reg.step_go rfl ?_
                      intro a wi ki hf hd hS hc K hK
                      have e198 : a.tmps.getD 198 undef = .bool false := hd.1.plain rfl
                      have e213 : a.tmps.getD 213 undef = .bool false := hd.2.1.plain rfl
                      clear hf hd hc
                      have hK0 := Lib.hid hK; clear hK
                      have hS0 := Lib.hid hS; clear hS
                      go_simp
                      exact hK0.out _ _ (Reg.Known.mk_val rfl rfl) (fun _ _ h => h) hS0.out
                    exact Reg.Steps.nil
                  case finish =>
                    intro a8 w8 hf hd hS8
                    obtain ⟨u, hu⟩ : ∃ u : Nat → Value, u = fun s => a8.tmps.getD s undef := ⟨_, rfl⟩
                    have e214 : u 214 = .bool false := by rw [hu]; exact hd.1.plain rfl
                    rw [hf.eq, ← hu]
                    clear hf hu hd
                    have S8 := Lib.hid (HB.out.trans (hS8.mono HB.out.size))
                    clear hS8 HS43
                    simp (config := { maxSteps := 10000000 }) [Reg.filled, e214]
                    clear e214
                    go_wp2_with fail
                    go_roundw
                    case rel => exact ⟨k + 1, by omega, by go_num, S8.out⟩
                    case measure => simp [intOf]; omega
                · obtain rfl : m = k := by omega
                  go_wp2_with fail
                  go_roundw
                  case rel => exact ⟨j + 1, Lx, Mx, by omega, by go_num, Sep.take (Sep.below H11.out HB.out) 4, HOL.out, HMX.out, HMLX.out⟩
                  case measure => simp [intOf]; omega
        · obtain rfl : N1 = j := by omega
          have HF : Hid (Below w.heap.size w wr) := Lib.hid (Sep.bl hK)
          clear hK
          go_wp2_with fail
          go_ret
          exact ⟨rfl, HF.out⟩

/- The claim. -/

set_option maxRecDepth 100000 in
theorem lifted (os : Os) (started : os.Started) (H : Type) (enc : TypeId × Value → H) :
    ReturnsInHanded {} Try.checked os 11 .any (Rows.parkPlaysSpec.pre6 enc Try.prog Try.f11 Rows.parkPlaysRow.domain false) (Rows.parkPlaysSpec.post enc Try.prog Try.f11 false true false false) := by
  refine returnsInHanded_of_change (C := Try.checked) ownKnobs started (by kernel_rfl) Try.func11
    (ChangeSpec.witness6 (enc := enc) (C := Try.checked) false ⟨#[], #[.int .u8 0, .slice none 0 0], []⟩ 8 (by kernel_rfl) (by kernel_rfl) (by kernel_rfl) (by kernel_rfl)) ?_
  intro W base args ds gs before hval hW _ _
  refine law_contract rfl rfl (fun ds h => by match ds, h with | [d1, d2], _ => rfl) (by decide +kernel) hW ?_
  obtain ⟨p, q, hA0, _⟩ := hW
  have hA : DataW.TrodAll enc Try.prog W 0 (fun _ => true) true Try.f11.params.toList args.toList ds p := hA0
  have hval' : ∀ (j : Nat) t v, Try.f11.params[j]? = some t → args[j]? = some v → Value.okWide Try.prog W .any base t v := hval
  rw [Try.params11] at hA hval'
  obtain ⟨v0, vs0, d0, ds0, p0, q0, hargs, rfl, rfl, h0, r0⟩ := trodAll_cons hA
  obtain ⟨v1, vs1, d1, ds1, p1, q1, rfl, rfl, rfl, h1, r1⟩ := trodAll_cons r0
  obtain ⟨rfl, rfl, rfl⟩ := trodAll_nil r1
  obtain rfl : args = #[v0, v1] := by cases args; simp_all
  obtain ⟨z0, rfl, rfl, rfl, w0⟩ := open_int Try.underlying5 (hval' 0 _ v0 rfl rfl) h0
  have b0 : 0 ≤ z0 ∧ z0 ≤ 255 := by simpa [Lit.wf, IntKind.min, IntKind.max, IntKind.signed, IntKind.bits] using w0
  obtain ⟨a0, rfl⟩ : ∃ n : Nat, z0 = n := ⟨z0.toNat, by omega⟩
  obtain ⟨l1, h1, m1⟩ := open_rowsS [.u8, .u8, .u8, .i32] Try.underlying77 Try.underlying85 (by kernel_rfl) (by kernel_rfl) (by kernel_rfl) (by decide) (hval' 1 _ v1 rfl rfl) h1
  exact walk a0 v1 l1 W (by omega) h1 m1

theorem proved : Rows.ParkPlaysSaid :=
  OpenClaim.holds_of_wide 11 Try.f11 rfl rfl rfl rfl rfl rfl rfl ⟨rfl, rfl, rfl, rfl, rfl⟩ rfl rfl rfl rfl rfl (by kernel_rfl) Try.func11 (by kernel_rfl)
    (of_decide_eq_true (by kernel_rfl)) (by unfold Func.isWrapper; first | (rw [if_pos (by decide +kernel)]; kernel_rfl) | (rw [if_neg (by decide +kernel)]; exact ⟨rfl, rfl⟩))
    (fun os started H enc _ => lifted os started H enc)

end Go.Proofs.Ytboelofkbhgmfaa.parkPlays
