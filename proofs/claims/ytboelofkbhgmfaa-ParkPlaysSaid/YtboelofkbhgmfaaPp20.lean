/- A park and its futures beside the reference's. -/
import Derived.Test.YtboelofkbhgmfaaPf20
import Derived.Test.YtboelofkbhgmfaaRp20
import Derived.Test.YtboelofkbhgmfaaSep
import Derived.Test.YtboelofkbhgmfaaSal
import Derived.Test.YtboelofkbhgmfaaFpk13
namespace Go.Proofs.Ytboelofkbhgmfaa
set_option maxRecDepth 100000
open Go.RowKit

/-- The reference's park by the list of who waits. -/
def RpV (w : World) (S : Nat → Prop) (b : Nat) (M : List (TK × Int)) : Prop := ∃ v L, RpK w S b v L ∧ L.map pairW = M
def pkP (a : Nat) (M : List (TK × Int)) : HP := fun w S => PkV w S a M
def fuP (f : Nat) (qs : List Int) (Ls : List (List FutX)) : HP := fun w S => FuV w S f qs Ls
def rfP (g : Nat) (qs : List Int) (Ls : List (List FutX)) : HP := fun w S => RfFV w S g qs Ls
def rpP (b : Nat) (M : List (TK × Int)) : HP := fun w S => RpV w S b M
theorem pkP.good (a : Nat) (M : List (TK × Int)) : HGood (pkP a M) := ⟨fun h hf hd => PkV.keep h hf hd, fun h => PkV.lt h⟩
theorem fuP.good (f : Nat) (qs : List Int) (Ls : List (List FutX)) : HGood (fuP f qs Ls) := ⟨fun h hf hd => FuV.keep h hf hd, fun h => FuV.lt h⟩
theorem rfP.good (g : Nat) (qs : List Int) (Ls : List (List FutX)) : HGood (rfP g qs Ls) := ⟨fun h hf hd => RfFV.keep h hf hd, fun h => RfFV.lt h⟩
theorem rpP.good (b : Nat) (M : List (TK × Int)) : HGood (rpP b M) :=
  ⟨fun h hf hd => by obtain ⟨v, L, h, e⟩ := h; exact ⟨v, L, h.keep hf hd, e⟩, fun h => by obtain ⟨v, L, h, e⟩ := h; exact h.lt⟩
/-- All of them, and boxes. -/
def PP (w wr : World) (a f g b : Nat) (qs : List Int) (La Lr : List (List FutX)) (M Mr : List (TK × Int)) (X : List HP) : Prop := Sep w wr (fuP f qs La :: rfP g qs Lr :: pkP a M :: rpP b Mr :: X)
/-- What the reference's end of a future does. -/
def RfE (w : World) (T : Nat → Prop) (g : Nat) (qs : List Int) (Ls : List (List FutX)) (id : Int) (f : FutX → FutX) (e : Ending) (w' : World) : Prop := e = .returned (.bool (openB Ls id)) ∧ RfFV w' T g qs (endL Ls id f) ∧ Stp T T w w'
section
variable {w wr w' : World} {T : Nat → Prop} {a f g b : Nat} {qs : List Int} {La La' Lr Lr' Ls : List (List FutX)} {M Mr : List (TK × Int)} {X : List HP}
theorem rfEnd_any (h : RfFV w T g qs Ls) (id s v c : Int) (hid : -2147483648 ≤ id ∧ id ≤ 2147483647) :
    Calls Try.prog 65 #[.pointer (some ⟨g, 0, none⟩), .int .i32 id, .int .i64 s, .int .i32 v, .int .i64 c] w (RfE w T g qs Ls id (endF s v c)) := by
  obtain ⟨hB, qA, qc, tb, vs, h2⟩ := h
  refine (rEnd_any h2 hB id s v c hid).mono ?_
  rintro e w' ⟨rfl, h6, h7⟩
  exact ⟨rfl, ⟨hB.end' _, qA, qc, tb, vs, h6⟩, h7⟩
theorem rfKeep_any (h : RfFV w T g qs Ls) (id v : Int) (hid : -2147483648 ≤ id ∧ id ≤ 2147483647) :
    Calls Try.prog 33 #[.pointer (some ⟨g, 0, none⟩), .int .i32 id, .int .i32 v] w (RfE w T g qs Ls id (endF 1 v 0)) := by
  have HE := Lib.hid (rfEnd_any h id 1 v 0 hid)
  clear h
  go_enter Try.func33, Try.ntmps33
  go_wp2_with fail
  refine HE.out.mono ?_
  rintro e w' ⟨rfl, h⟩
  have H := Lib.hid h
  clear h
  obtain ⟨y, hy⟩ : ∃ y, openB Ls id = y := ⟨_, rfl⟩
  have HY := Lib.hid hy
  rw [hy]
  clear hy
  go_wp2_with fail
  go_ret
  exact ⟨congrArg (fun z => Ending.returned (.bool z)) HY.out.symm, H.out⟩
theorem rfBreak_any (h : RfFV w T g qs Ls) (id v : Int) (hid : -2147483648 ≤ id ∧ id ≤ 2147483647) :
    Calls Try.prog 35 #[.pointer (some ⟨g, 0, none⟩), .int .i32 id, .int .i64 v] w (RfE w T g qs Ls id (endF 2 0 v)) := by
  have HE := Lib.hid (rfEnd_any h id 2 0 v hid)
  clear h
  go_enter Try.func35, Try.ntmps35
  go_wp2_with fail
  refine HE.out.mono ?_
  rintro e w' ⟨rfl, h⟩
  have H := Lib.hid h
  clear h
  obtain ⟨y, hy⟩ : ∃ y, openB Ls id = y := ⟨_, rfl⟩
  have HY := Lib.hid hy
  rw [hy]
  clear hy
  go_wp2_with fail
  go_ret
  exact ⟨congrArg (fun z => Ending.returned (.bool z)) HY.out.symm, H.out⟩
/-- Something is done, of which the answer is not looked at. -/
def PPE (w : World) (a f g b : Nat) (qs : List Int) (La Lr : List (List FutX)) (M Mr : List (TK × Int)) (X : List HP) (e : Ending) (w' : World) : Prop := ∃ y, e = .returned (.bool y) ∧ PP w w' a f g b qs La Lr M Mr X
theorem ppKeep (h : PP w wr a f g b qs La Lr M Mr X) (id v : Int) (hid : -2147483648 ≤ id ∧ id ≤ 2147483647) :
    Calls Try.prog 32 #[.pointer (some ⟨f, 0, none⟩), .int .i32 id, .int .i32 v] wr (PPE w a f g b qs (endL La id (keepF v)) Lr M Mr X) := by
  obtain ⟨S, h1, _, hst⟩ := Sep.use h 0 (by simp)
  refine (fuKeep_any h1 id v hid).mono ?_
  rintro e w' ⟨rfl, T', h6, h7⟩
  exact ⟨_, rfl, hst w' T' _ (fuP.good _ _ _) h6 h7⟩
theorem ppBreak (h : PP w wr a f g b qs La Lr M Mr X) (id v : Int) (hid : -2147483648 ≤ id ∧ id ≤ 2147483647) :
    Calls Try.prog 34 #[.pointer (some ⟨f, 0, none⟩), .int .i32 id, .int .i64 v] wr (PPE w a f g b qs (endL La id (breakF v)) Lr M Mr X) := by
  obtain ⟨S, h1, _, hst⟩ := Sep.use h 0 (by simp)
  refine (fuBreak_any h1 id v hid).mono ?_
  rintro e w' ⟨rfl, T', h6, h7⟩
  exact ⟨_, rfl, hst w' T' _ (fuP.good _ _ _) h6 h7⟩
theorem ppKeepR (h : PP w wr a f g b qs La Lr M Mr X) (id v : Int) (hid : -2147483648 ≤ id ∧ id ≤ 2147483647) :
    Calls Try.prog 33 #[.pointer (some ⟨g, 0, none⟩), .int .i32 id, .int .i32 v] wr (PPE w a f g b qs La (endL Lr id (endF 1 v 0)) M Mr X) := by
  obtain ⟨S, h1, _, hst⟩ := Sep.use h 1 (by simp)
  refine (rfKeep_any h1 id v hid).mono ?_
  rintro e w' ⟨rfl, h6, h7⟩
  exact ⟨_, rfl, hst w' S _ (rfP.good _ _ _) h6 h7⟩
theorem ppBreakR (h : PP w wr a f g b qs La Lr M Mr X) (id v : Int) (hid : -2147483648 ≤ id ∧ id ≤ 2147483647) :
    Calls Try.prog 35 #[.pointer (some ⟨g, 0, none⟩), .int .i32 id, .int .i64 v] wr (PPE w a f g b qs La (endL Lr id (endF 2 0 v)) M Mr X) := by
  obtain ⟨S, h1, _, hst⟩ := Sep.use h 1 (by simp)
  refine (rfBreak_any h1 id v hid).mono ?_
  rintro e w' ⟨rfl, h6, h7⟩
  exact ⟨_, rfl, hst w' S _ (rfP.good _ _ _) h6 h7⟩
/-- A future is made. -/
def PPM (w : World) (f g : Nat) (qs : List Int) (La Lr : List (List FutX)) (Y : List HP) (e : Ending) (w' : World) : Prop := ∃ i y, e = .returned (.tuple #[.int .i32 i, .bool y]) ∧ Sep w w' (fuP f qs La :: rfP g qs Lr :: Y)
theorem ppMake {Y : List HP} (h : Sep w wr (fuP f qs La :: rfP g qs Lr :: Y)) (p lb : Int) (hp : -9223372036854775808 ≤ p ∧ p ≤ 9223372036854775807) :
    Calls Try.prog 30 #[.pointer (some ⟨f, 0, none⟩), .int .i64 p, .int .i64 lb] wr (PPM w f g qs (mkL qs La p ⟨lb, 0, 0, 0⟩) Lr Y) := by
  obtain ⟨S, h1, _, hst⟩ := Sep.use h 0 (by simp)
  refine (fuMake_any h1 p lb hp).mono ?_
  rintro e w' ⟨rfl, T', h6, h7⟩
  exact ⟨_, _, rfl, hst w' T' _ (fuP.good _ _ _) h6 h7⟩
theorem ppMakeR {Y : List HP} (h : Sep w wr (fuP f qs La :: rfP g qs Lr :: Y)) (p lb : Int) (hp : -9223372036854775808 ≤ p ∧ p ≤ 9223372036854775807) :
    Calls Try.prog 31 #[.pointer (some ⟨g, 0, none⟩), .int .i64 p, .int .i64 lb] wr (PPM w f g qs La (mkL qs Lr p ⟨lb, 0, 0, 0⟩) Y) := by
  obtain ⟨S, h1, _, hst⟩ := Sep.use h 1 (by simp)
  obtain ⟨hB, qA, qc, tb, vs, h2⟩ := h1
  refine (rMakeF_any h2 hB p lb hp).mono ?_
  rintro e w' ⟨rfl, S', vs', h6, h7⟩
  exact ⟨_, _, rfl, hst w' S' _ (rfP.good _ _ _) ⟨hB.mk' _, qA, qc, tb, vs', h6⟩ h7⟩
theorem pp_n16 {Y : List HP} (h : Sep w wr (fuP f qs La :: rfP g qs Lr :: Y)) : Lr.length ≤ 16 := by
  obtain ⟨S, h1⟩ := Sep.at h 1 (by simp)
  obtain ⟨hB, _⟩ := h1
  exact hB.n
theorem ppLen (h : PP w wr a f g b qs La Lr M Mr X) : Calls Try.prog 49 #[.pointer (some ⟨a, 0, none⟩)] wr fun e w' => e = .returned (.int .i64 M.length) ∧ wr = w' := by
  obtain ⟨S, h1, _⟩ := Sep.use h 2 (by simp)
  obtain ⟨v, L, h1, e1⟩ := h1
  have : M.length = L.length := by rw [← e1]; simp
  rw [this]; exact pkLen_any h1
/-- One more waits. -/
def PPN (w : World) (a f g b : Nat) (qs : List Int) (La Lr : List (List FutX)) (M Mr : List (TK × Int)) (X : List HP) (e : Ending) (w' : World) : Prop := e = .returned (.tuple #[]) ∧ PP w w' a f g b qs La Lr M Mr X
theorem ppAdd (h : PP w wr a f g b qs La Lr M Mr X) (hM : M.length ≤ 100000) (t : TK) (id : Int) (ht : t.st = []) :
    Calls Try.prog 44 #[.pointer (some ⟨a, 0, none⟩), taskV t nilV, .int .i32 id] wr (PPN w a f g b qs La Lr (M ++ [(t, id)]) Mr X) := by
  obtain ⟨S, h1, _, hst⟩ := Sep.use h 2 (by simp)
  obtain ⟨v, L, h1, e1⟩ := h1
  have hl : L.length ≤ 100000 := by rw [← e1] at hM; simpa using hM
  refine (pkAdd_any h1 hl t nilV id (by rw [ht]; exact I32V.nil _ _) (by rw [ht]; exact Nat.zero_le _)).mono ?_
  rintro e w' ⟨rfl, v', s', S', h6, h7⟩
  exact ⟨rfl, hst w' S' _ (pkP.good _ _) ⟨v', _, h6, by rw [List.map_append, e1]; rfl⟩ h7⟩
/-- Tasks without a stack. -/
def NoSt (L : List SlotX) : Prop := ∀ x ∈ L, x.1.st = [] ∧ ∃ A c, x.2 = .slice A 0 c
/-- What Look answers: those woken, those starved. -/
def PPL (w wr : World) (a f g b : Nat) (qs : List Int) (La Lr : List (List FutX)) (W Z : List TK) (k : Nat) (M Mr : List (TK × Int)) (X : List HP) (e : Ending) (w' : World) : Prop :=
  ∃ v1 v2 L1 L2, e = .returned (.tuple #[v1, v2, .int .i64 (k : Int)]) ∧ (OwnT w' wr.heap.size v1 L1 ∧ NoSt L1 ∧ L1.map Prod.fst = W) ∧ (OwnT w' wr.heap.size v2 L2 ∧ NoSt L2 ∧ L2.map Prod.fst = Z) ∧ PP w w' a f g b qs La Lr M Mr X
theorem nost_tasks {w : World} {base : Nat} {v : Value} {L : List SlotX} (h : OwnT w base v L) (hs : NoSt L) : TasksV w v L :=
  TasksV.of_own h fun x hx => by
    obtain ⟨e, A, c, e2⟩ := hs x hx
    rw [e, e2]
    exact ⟨⟨A, c, rfl, Nat.zero_le _, Lies.nil⟩, Nat.zero_le _⟩
theorem ppLook (h : PP w wr a f g b qs La Lr M Mr X) (hid : ∀ x ∈ M, x.1.st = [] ∧ -2147483648 ≤ x.2 ∧ x.2 ≤ 2147483647) (hM : M.length ≤ 100000) (fuel : Int) (F : Nat) (hF : (F : Int) = max fuel 0) (hF2 : F ≤ 9223372036854775807) :
    Calls Try.prog 45 #[.pointer (some ⟨a, 0, none⟩), .pointer (some ⟨f, 0, none⟩), .int .i64 fuel] wr
      (PPL w wr a f g b qs La Lr (wkP La (M.take (min F M.length))) ((M.drop (min F M.length)).map Prod.fst) (F - min F M.length) (syP La (M.take (min F M.length))) Mr X) := by
  obtain ⟨S2, h2⟩ := Sep.at h 0 (by simp)
  have h2 : FuV wr S2 f qs La := h2
  obtain ⟨S, h1, _, hst⟩ := Sep.use h 2 (by simp)
  obtain ⟨v, L, h1, e1⟩ := h1
  have hl : M.length = L.length := by rw [← e1]; simp
  rw [hl] at hM ⊢
  have hns : ∀ x ∈ L, x.1.1.st = [] ∧ ∃ A c, x.1.2 = .slice A 0 c := fun x hx => by
    have h3 := (hid (pairW x) (by rw [← e1]; exact List.mem_map_of_mem hx)).1
    have h3 : x.1.1.st = [] := h3
    obtain ⟨A, c, e, _⟩ := (h1.st x hx).1
    rw [h3] at e
    exact ⟨h3, A, c, e⟩
  refine (pkLook_any h1 h2 (fun x hx => (hid (pairW x) (by rw [← e1]; exact List.mem_map_of_mem hx)).2) hM fuel F hF hF2).mono ?_
  rintro e w' ⟨v1, v2, v3, S', rfl, o1, o2, h6, h7⟩
  refine ⟨v1, v2, _, _, rfl, ⟨o1, fun x hx => ?_, by rw [wk_eq, List.map_take, e1]⟩, ⟨o2, fun x hx => ?_, ?_⟩, hst w' S' _ (pkP.good _ _) ⟨v3, _, h6, by rw [sy_eq, List.map_take, e1]⟩ h7⟩
  · obtain ⟨y, hy, rfl⟩ := List.mem_map.1 hx
    exact hns y (List.mem_of_mem_take (List.mem_filter.1 hy).1)
  · obtain ⟨y, hy, rfl⟩ := List.mem_map.1 hx
    exact hns y (List.mem_of_mem_drop hy)
  · rw [← e1, ← List.map_drop, List.map_map, List.map_map]; rfl
theorem ppLookR (h : PP w wr a f g b qs La Lr M Mr X) (hid : ∀ x ∈ Mr, x.1.st = [] ∧ -2147483648 ≤ x.2 ∧ x.2 ≤ 2147483647) (hM : Mr.length ≤ 100000) (fuel : Int) (F : Nat) (hF : (F : Int) = max fuel 0) (hF2 : F ≤ 9223372036854775807) :
    Calls Try.prog 46 #[.pointer (some ⟨b, 0, none⟩), .pointer (some ⟨g, 0, none⟩), .int .i64 fuel] wr
      (fun e w' => PPL w wr a f g b qs La Lr (wkP Lr (Mr.take (min F Mr.length))) ((Mr.drop (min F Mr.length)).map Prod.fst) (F - min F Mr.length) M (syP Lr (Mr.take (min F Mr.length))) X e w' ∧ b < wr.heap.size ∧ Frm (One b) wr w') := by
  obtain ⟨S2, h2⟩ := Sep.at h 1 (by simp)
  have h2 : RfFV wr S2 g qs Lr := h2
  obtain ⟨S, h1, _, hst⟩ := Sep.use h 3 (by simp)
  obtain ⟨v, L, h1, e1⟩ := h1
  have hl : Mr.length = L.length := by rw [← e1]; simp
  rw [hl] at hM ⊢
  have hns : ∀ x ∈ L, x.1.1.st = [] ∧ ∃ A c, x.1.2 = .slice A 0 c := fun x hx =>
    ⟨(hid (pairW x) (by rw [← e1]; exact List.mem_map_of_mem hx)).1, none, 0, h1.nst x hx⟩
  refine (rpLook_any h1 h2 (fun x hx => (hid (pairW x) (by rw [← e1]; exact List.mem_map_of_mem hx)).2) hM fuel F hF hF2).mono ?_
  rintro e w' ⟨v1, v2, v3, S', rfl, o1, o2, h6, h7, h8⟩
  refine ⟨⟨v1, v2, _, _, rfl, ⟨o1, fun x hx => ?_, by rw [wk_eq, List.map_take, e1]⟩, ⟨o2, fun x hx => ?_, ?_⟩, hst w' S' _ (rpP.good _ _) ⟨v3, _, h6, by rw [sy_eq, List.map_take, e1]⟩ h7⟩, h1.lt b h1.bS, h8⟩
  · obtain ⟨y, hy, rfl⟩ := List.mem_map.1 hx
    exact hns y (List.mem_of_mem_take (List.mem_filter.1 hy).1)
  · obtain ⟨y, hy, rfl⟩ := List.mem_map.1 hx
    exact hns y (List.mem_of_mem_drop hy)
  · rw [← e1, ← List.map_drop, List.map_map, List.map_map]; rfl
/-- What All answers. -/
def PPA (w wr : World) (a f g b : Nat) (qs : List Int) (La Lr : List (List FutX)) (M Mr : List (TK × Int)) (X : List HP) (e : Ending) (w' : World) : Prop :=
  ∃ v Lk, e = .returned v ∧ AlP wr w' v Lk Lk ∧ Lk.map pairW = M ∧ PP w w' a f g b qs La Lr M Mr X
theorem ppAll (h : PP w wr a f g b qs La Lr M Mr X) (hM : M.length ≤ 100000) : Calls Try.prog 48 #[.pointer (some ⟨a, 0, none⟩)] wr (PPA w wr a f g b qs La Lr M Mr X) := by
  obtain ⟨S, h1, _⟩ := Sep.use h 2 (by simp)
  obtain ⟨v, L, h1, e1⟩ := h1
  have hl : L.length ≤ 100000 := by rw [← e1] at hM; simpa using hM
  refine (pkAll_any h1 hl).mono ?_
  rintro e w' ⟨v', Lk, rfl, hA⟩
  exact ⟨v', Lk, rfl, hA.self, by rw [hA.eq, e1], h.below hA.bl⟩
/-- The reference's list of who waits, as the law reads it. -/
theorem pp_list (h : PP w wr a f g b qs La Lr M Mr X) : b < wr.heap.size ∧ ∃ A c, wr.cell? ⟨b, 0, none⟩ = some (.slice A Mr.length c) ∧ wr.frozen? ⟨b, 0, none⟩ = false ∧ ∀ j (hj : j < Mr.length), ∃ g2, A = some ⟨g2, 0, none⟩ ∧ wr.rangeAt g2 (j * 13) (waitA ((Mr[j].1, nilV), Mr[j].2)).toList := by
  obtain ⟨S, h1⟩ := Sep.at h 3 (by simp)
  obtain ⟨v, L, h1, e1⟩ := h1
  obtain ⟨A, c, rfl⟩ := h1.own.shape
  have hl : Mr.length = L.length := by rw [← e1]; simp
  refine ⟨h1.lt b h1.bS, A, c, by rw [hl]; exact cell_blk h1.blk 0, frozen_blk h1.blk 0, fun j hj => ?_⟩
  have hjl : j < L.length := by omega
  obtain ⟨g2, c2, e2, _, hr⟩ := h1.range hjl
  have e3 : A = some ⟨g2, 0, none⟩ := by injection e2
  refine ⟨g2, e3, ?_⟩
  have e4 : Mr[j] = pairW L[j] := by simp [← e1]
  rw [e4]
  have e5 : ((pairW L[j]).1, nilV) = L[j].1 := by
    have := h1.nst L[j] (List.getElem_mem hjl)
    rw [← this]; rfl
  rw [e5]; exact hr
/-- The law appends to the reference's list. -/
theorem pp_append (h : PP w wr a f g b qs La Lr M Mr X) : ∃ v, wr.cell? ⟨b, 0, none⟩ = some v ∧ wr.frozen? ⟨b, 0, none⟩ = false ∧ b < wr.heap.size ∧ v.oneCell' = true ∧ (∃ L, OwnWR wr 0 v L ∧ L.length = Mr.length ∧ v.ownBlock ≠ some b ∧ ∀ (wA wQ : World) (vQ : Value) (t : TK) (id : Int), Below wr.heap.size wr wA → wQ.ownsRow 0 92 13 vQ (L.length + 1) (rowE waitA L ++ (waitA ((t, nilV), id)).toList) → wA.grownBy wQ v.ownBlock → (vQ.ownBlock = v.ownBlock ∨ ∃ k, vQ.ownBlock = some k ∧ wA.heap.size ≤ k) →
    PP w (wQ.setCell ⟨b, 0, none⟩ vQ) a f g b qs La Lr M (Mr ++ [(t, id)]) X) := by
  obtain ⟨S, h1, _, hst⟩ := Sep.use h 3 (by simp)
  obtain ⟨v, L, h1, e1⟩ := h1
  obtain ⟨A, c, e2⟩ := h1.own.shape
  refine ⟨v, cell_blk h1.blk 0, frozen_blk h1.blk 0, h1.lt b h1.bS, by rw [e2]; rfl, L, h1.own, by rw [← e1]; simp, fun e => (h1.vS b e).2 rfl, fun wA wQ vQ t id hb oQ gQ bQ => ?_⟩
  obtain ⟨S', h2, h3⟩ := h1.add (x := ((t, nilV), id)) rfl hb oQ gQ bQ
  exact hst _ S' _ (rpP.good _ _) ⟨vQ, _, h2, by rw [List.map_append, e1]; rfl⟩ h3
theorem pp_box {k : Nat} {o : Obj} {n : Nat} (h : PP w wr a f g b qs La Lr M Mr X) (hn : n < X.length) (hx : X[n] = boxP k o) : wr.heap[k]? = some o := by
  obtain ⟨S, h1⟩ := Sep.at h (n + 4) (by simpa using hn)
  have h2 : X[n] wr S := by simpa using h1
  rw [hx] at h2
  exact h2.1
end

end Go.Proofs.Ytboelofkbhgmfaa
