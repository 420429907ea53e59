/- Law 22: the records that some makes are right; what a round of the law reads. -/
import Derived.Test.YtmcphlklknfbmaaMd22
import Derived.Test.YtmcphlklknfbmaaRegion
import Derived.Test.YtmcphlklknfbmaaArgI
import Derived.Test.YtmcphlklknfbmaaMid
namespace Go.Proofs.Ytmcphlklknfbmaa
set_option maxRecDepth 100000
open Go.RowKit

theorem i64_and3 (n : Int) : bits .and .i64 n 3 = n % 4 := by
  have h7 : (BitVec.ofInt 64 3).toNat = 2 ^ 2 - 1 := by decide
  have key : (BitVec.ofInt 64 n &&& BitVec.ofInt 64 3).toNat = (n % ((2 ^ 64 : Nat) : Int)).toNat % 2 ^ 2 := by
    rw [BitVec.toNat_and, BitVec.toNat_ofInt, h7, Nat.and_two_pow_sub_one_eq_mod]
  show IntKind.i64.wrap ((BitVec.ofInt 64 n &&& BitVec.ofInt 64 3).toNat : Nat) = n % 4
  rw [key, IntKind.wrap_i64]
  omega
theorem right_all {L : List RecX} (h : rightL L = true) : ∀ k (hk : k < L.length), okR (L.take k) L[k] = true := fun k hk => by
  cases e : okR (L.take k) L[k] with
  | true => rfl
  | false => rw [rightL_no hk e] at h; cases h
theorem right_snoc {L : List RecX} {x : RecX} (h : rightL L = true) (hx : okR L x = true) : rightL (L ++ [x]) = true := by
  refine rightL_yes fun k hk => ?_
  by_cases e : k < L.length
  · rw [List.take_append_of_le_length (by omega), List.getElem_append_left e]
    exact right_all h k e
  · have hk2 : k = L.length := by simp at hk; omega
    subst hk2
    rw [List.take_left, List.getElem_append_right (Nat.le_refl _)]
    simpa using hx
/-- What holds of the records that some has made out of n rows. -/
structure SmG (n : Nat) (q : List RecX × Int) : Prop where
  len : q.1.length = n
  right : rightL q.1 = true
  rd : rdL q.1 = q.2
  lo : 0 ≤ q.2
  hi : q.2 ≤ 2 * (n : Int)
  ok : ∀ x ∈ q.1, RcOk x
theorem smG_step {n : Nat} {q : List RecX × Int} {r : List Int} (h : SmG n q) (hn : n ≤ 1000) (hr : KRow [.u8, .u8, .u8, .u8] r) : SmG (n + 1) (smStep q r) := by
  obtain ⟨z0, z1, z2, z3, rfl, b0, b1, b2, b3⟩ := row4 hr rfl
  obtain ⟨L, rd⟩ := q
  obtain ⟨h1, h2, h3, h4, h5, h6⟩ := h
  have hc := cntT_le L (z1 % 4)
  simp only at h1 h2 h3 h4 h5 h6
  refine ⟨by simp [smStep, h1], right_snoc h2 ?_, by simp only [smStep]; rw [rdL_snoc], ?_, ?_, ?_⟩
  · unfold okR
    simp only [List.getD_cons_zero, List.getD_cons_succ]
    rw [h3]
    have e1 : decide (rd + z0 % 3 < rd) = false := decide_eq_false (by omega)
    have e2 : decide (z2 % 5 < 0) = false := decide_eq_false (by omega)
    have e3 : decide (z1 % 4 < 0) = false := decide_eq_false (by omega)
    have e4 : decide (z2 < 0) = false := decide_eq_false (by omega)
    have e5 : (((cntT L (z1 % 4) : Nat) : Int) != ((cntT L (z1 % 4) : Nat) : Int)) = false := bne_self_eq_false _
    rw [e1, e2, e3, e4, e5]; rfl
  · show 0 ≤ rd + z0 % 3; omega
  · show rd + z0 % 3 ≤ 2 * ((n + 1 : Nat) : Int); omega
  · intro x hx
    have hx : x ∈ L ++ [⟨(cntT L (z1 % 4) : Int), z2 % 5, z1 % 4, z3 - 128, rd + z0 % 3, z2⟩] := hx
    rcases List.mem_append.1 hx with hx | hx
    · exact h6 x hx
    · rw [List.mem_singleton.1 hx]
      refine ⟨?_, ?_, ?_, ?_, ?_, ?_⟩ <;> (try unfold I64) <;> dsimp only <;> constructor <;> omega
theorem smG_fold : ∀ (P : List (List Int)) (n : Nat) (q : List RecX × Int), (∀ r ∈ P, KRow [.u8, .u8, .u8, .u8] r) → n + P.length ≤ 1000 → SmG n q → SmG (n + P.length) (P.foldl smStep q)
  | [], _, _, _, _, h => h
  | r :: P, n, q, hk, hn, h => by
    rw [List.foldl_cons, List.length_cons, show n + (P.length + 1) = (n + 1) + P.length from by omega]
    rw [List.length_cons] at hn
    exact smG_fold P (n + 1) _ (fun x hx => hk x (List.mem_cons_of_mem _ hx)) (by omega) (smG_step h (by omega) (hk r List.mem_cons_self))
theorem smG_of {P : List (List Int)} (hk : ∀ r ∈ P, KRow [.u8, .u8, .u8, .u8] r) (hn : P.length ≤ 1000) : SmG P.length (smL P) := by
  have h := smG_fold P 0 ([], 0) hk (by omega) ⟨rfl, rfl, rfl, by decide, by decide, fun x hx => by cases hx⟩
  rwa [Nat.zero_add] at h
/-- What the test of a round reads, whatever else has been carried out. -/
structure TzS (wr : World) (ga : Nat) (vz vt vf : Value) (Lz : List RecX) (ts few : List Int) (w : World) : Prop where
  log : ∃ S, LogV w S ga Lz
  rc : RcV w vz Lz
  ts : IntsV w w.heap.size vt ts
  few : IntsV w w.heap.size vf few
  b : Below wr.heap.size wr w
theorem TzS.later {wr w w' : World} {ga : Nat} {vz vt vf : Value} {Lz : List RecX} {ts few : List Int} (h : TzS wr ga vz vt vf Lz ts few w) (hb : Below w.heap.size w w') : TzS wr ga vz vt vf Lz ts few w' := by
  obtain ⟨⟨S, h1⟩, h2, h3, h4, h5⟩ := h
  exact ⟨⟨S, h1.below hb⟩, h2.later hb, (h3.below hb).more hb.size, (h4.below hb).more hb.size, nextB h5 hb⟩
/-- Bytes in memory, records in memory. -/
def PieceB (l : List Int) (v : Value) (w : World) : Prop := ∃ A n c, v = .slice A n c ∧ l.length = n ∧ Lies w w.heap.size A (u8s l)
theorem PieceB.below {l : List Int} {v : Value} {w w' : World} (h : PieceB l v w) (hb : Below w.heap.size w w') : PieceB l v w' := by
  obtain ⟨A, n, c, h1, h2, h3⟩ := h
  exact ⟨A, n, c, h1, h2, (h3.below hb).more hb.size⟩
def TzX (pl : List Int) (Lz : List RecX) (ts few : List Int) (i : Nat) (v : Value) (w : World) : Prop := match i with
  | 7 => PieceB pl v w
  | 10 => PieceB pl v w
  | 16 => RcV w v Lz
  | 24 => RcV w v (ofL ts Lz)
  | 27 => RcV w v (ofL ts Lz)
  | 34 => RcV w v (ofL few Lz)
  | 37 => RcV w v (ofL few Lz)
  | _ => True
theorem TzX.below {pl : List Int} {Lz : List RecX} {ts few : List Int} {i : Nat} {v : Value} {w w' : World} (h : TzX pl Lz ts few i v w) (hb : Below w.heap.size w w') : TzX pl Lz ts few i v w' := by
  unfold TzX at h ⊢
  split <;> first | exact PieceB.below h hb | exact RcV.later h hb | trivial
theorem known_tz {pl : List Int} {Lz : List RecX} {ts few : List Int} {val : Nat → Value} {i : Nat} {sp : List Nat} {v : Value} {w w' : World} (hb : Below w.heap.size w w') (h : Reg.Known val (TzX pl Lz ts few) sp i v w) : Reg.Known val (TzX pl Lz ts few) sp i v w' :=
  ⟨h.plain, fun e => (h.other e).below hb⟩
/-- A list of numbers of the call's own. -/
def OwnN (w : World) (base : Nat) (v : Value) (l : List Int) : Prop := w.ownsRow base 3 1 v l.length (i64s l)
theorem OwnN.nil (w : World) (base : Nat) : OwnN w base (.slice none 0 0) [] := World.ownsRow_nil w base _ 1
theorem OwnN.ints {w : World} {base : Nat} {v : Value} {l : List Int} (h : OwnN w base v l) : IntsV w w.heap.size v l := by
  obtain ⟨A, c, e, hn, _, _, hl, _⟩ := Lies.of_own h
  exact ⟨A, c, e, hl⟩
theorem OwnN.snoc {w : World} {base : Nat} {v : Value} {l l' : List Int} {x : Int} {n : Nat} (hn : n = l.length + 1) (h : w.ownsRow base 3 1 v n (i64s l ++ [.int .i64 x])) (e : l' = l ++ [x]) : OwnN w base v l' := by
  subst e hn
  unfold OwnN
  rw [List.length_append]
  simpa [i64s] using h
def fewL (l : List Int) : List Int := l.map (· % 4)
theorem fewL_step {l : List Int} {k : Nat} (hk : k < l.length) : fewL (l.take (k + 1)) = fewL (l.take k) ++ [l[k] % 4] := by
  unfold fewL; rw [List.take_succ_eq_append_getElem hk, List.map_append]; rfl
theorem fewL_length (l : List Int) : (fewL l).length = l.length := by simp [fewL]

/-- A list of the call's own, of n records in range, whichever. -/
def YS (w2 : World) (g n c : Nat) (wi : World) : Prop := ∃ Ly, OwnR wi w2.heap.size (.slice (some ⟨g, 0, none⟩) n c) Ly ∧ Ly.length = n ∧ (∀ x ∈ Ly, RcOk x) ∧ Below w2.heap.size w2 wi
def RecV (v : Value) : Prop := ∃ r, v = .agg (recA r) ∧ RcOk r
section
variable {w2 wi : World} {g n c : Nat} {o : Oper} {a : Act} {K : Act → World → Prop} {Q : Exit → Act → World → Prop}
theorem YS.drew (h : YS w2 g n c wi) : YS w2 g n c wi.drew := by
  obtain ⟨Ly, h1, h2, h3, h4⟩ := h
  exact ⟨Ly, h1, h2, h3, nextB h4 ⟨rfl, rfl, rfl, Nat.le_refl _, fun _ _ => rfl⟩⟩
theorem YS.load (h : YS w2 g n c wi) (i : Nat) (hi : i < n) (x : Operand) (ho : o.op = .load 59 x) (hx : a.eval x = .pointer (some ⟨g, i * 6, none⟩))
    (hK : ∀ v, RecV v → K (a.put o.dst v) wi) : o.wp Try.prog a wi K Q := by
  obtain ⟨Ly, h1, h2, h3, _⟩ := h
  have hil : i < Ly.length := by omega
  have hr : wi.rangeAt g (i * 6) (recA Ly[i]).toList := fun j u hu => by
    have e := (h1.cellF (f := j) h2 hil hu).1
    exact e
  refine wp_load_mid _ x ho g (i * 6) hx (recA Ly[i]).toList _ hr Try.underlying59 rfl info_rec ?_
  exact hK _ ⟨Ly[i], rfl, h3 _ (List.getElem_mem hil)⟩
theorem YS.store (h : YS w2 g n c wi) (hge : w2.heap.size ≤ g) (i : Nat) (hi : i < n) (x y : Operand) (ho : o.op = .store 59 x y) (hx : a.eval x = .pointer (some ⟨g, i * 6, none⟩)) (hy : RecV (a.eval y))
    (hK : ∀ w', YS w2 g n c w' → K (a.put o.dst undef) w') : o.wp Try.prog a wi K Q := by
  obtain ⟨Ly, h1, h2, h3, h4⟩ := h
  obtain ⟨r, er, hr⟩ := hy
  have hil : i < Ly.length := by omega
  obtain ⟨cur, hg⟩ : ∃ cur, wi.heap[g]? = some (.cells cur 59 (0, 0)) := by
    rcases h1.2 with ⟨h', _⟩ | ⟨g', cap', cur', h', hb, hg', _⟩
    · simp at h'
    · injection h' with h' _ _
      injection h' with h'
      injection h' with h' _ _
      subst h'
      exact ⟨_, hg'⟩
  have h5 := h1.setAt (x' := r) h2 hil hg
  refine wp_store_at 59 x y ho g (i * 6) (recA r) hx er 59 cur hg info_rec h5.2 (Array.all_eq_true_iff_forall_mem.2 (rec_one r)) ?_
  exact hK _ ⟨Ly.set i r, h5.1, by rw [List.length_set]; exact h2, rc_all_set h3 hr, h4.trans (rec_row_below hge)⟩
end

end Go.Proofs.Ytmcphlklknfbmaa
