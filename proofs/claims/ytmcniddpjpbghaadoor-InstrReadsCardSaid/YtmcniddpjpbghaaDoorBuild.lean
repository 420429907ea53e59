/- A strings.Builder of the call's own, as the bytes that it holds; what the library's variables hold; Itoa, ParseInt, Cut at a space. -/
import Derived.Test.YtmcniddpjpbghaaDoorBldr
import Derived.Test.YtmcniddpjpbghaaDoorShelf
import Derived.Test.YtmcniddpjpbghaaDoorFind
import Derived.Lib.SmallJoins
import Derived.Lib.AppendIntMem
import Derived.Lib.ParseIntB
import Derived.Lib.LaidTab
namespace Go.Proofs.YtmcniddpjpbghaaDoor
set_option maxRecDepth 100000
open Go.RowKit

/-- Block b of w is a Builder of the call's own that holds l. -/
def BB (w : World) (b : Nat) (l : List UInt8) : Prop := Lib.IsBuilderF 64 5 b b (Lib.byteCells l) w
theorem BB.new (w : World) : BB (w.alloc (.cells #[.pointer none, .slice none 0 0] 64)) w.heap.size [] := Lib.IsBuilderF.of (Lib.fresh_isBuilder _ _ w)
theorem atF_below {w w' : World} {T e B b : Nat} {p : Value} {bs : List Value} (h : Lib.BuilderAtF T e B b p bs w) (hb : Below w.heap.size w w') : Lib.BuilderAtF T e B b p bs w' := by
  have hlt := h.lt
  obtain ⟨hB, v, hc, hown, hne⟩ := h
  exact ⟨hB, v, (hb.block b hlt).trans hc, hown.kept (row := none) ⟨hb.os, hb.tape, hb.output, hb.size, fun k hk _ => hb.block k hk⟩ (by cases hv : v.ownBlock <;> simp), hne⟩
theorem BB.below {w w' : World} {b : Nat} {l : List UInt8} (h : BB w b l) (hb : Below w.heap.size w w') : BB w' b l :=
  h.elim (fun x => .inl (atF_below x hb)) (fun x => .inr (atF_below x hb))
theorem BB.lt {w : World} {b : Nat} {l : List UInt8} (h : BB w b l) : b < w.heap.size := h.elim (fun x => x.lt) (fun x => x.lt)
theorem strCells_eq (s : ByteArray) : Lib.strCells s = Lib.byteCells s.data.toList := rfl
theorem byteCells_add (l m : List UInt8) : Lib.byteCells l ++ Lib.byteCells m = Lib.byteCells (l ++ m) := by simp [Lib.byteCells]

theorem write_any {b : Nat} {l : List UInt8} (s : ByteArray) (w : World) (h : BB w b l) (hl : l.length + s.size ≤ 140737488355328) :
    Calls Tryd.prog 33 #[.pointer (some ⟨b, 0, none⟩), .string s] w fun e w' => e = .returned (.tuple #[.int .i64 s.size, .nilIface]) ∧ BB w' b (l ++ s.data.toList) ∧ Below b w w' := by
  refine (Tryd.writeString b b _ s w h (by rw [Lib.byteCells_length]; exact hl) (Nat.le_of_lt h.lt)).mono ?_
  rintro e w' ⟨rfl, h1, h2, _⟩
  rw [strCells_eq, byteCells_add] at h1
  exact ⟨rfl, .inr h1, h2⟩
theorem byte_any {b : Nat} {l : List UInt8} (c : Nat) (w : World) (h : BB w b l) (hc : c ≤ 255) (hl : l.length + 1 ≤ 140737488355328) :
    Calls Tryd.prog 35 #[.pointer (some ⟨b, 0, none⟩), .int .u8 c] w fun e w' => e = .returned .nilIface ∧ BB w' b (l ++ [UInt8.ofNat c]) ∧ Below b w w' := by
  refine (Tryd.writeByte b b _ c w h (by rw [Lib.byteCells_length]; exact hl) (Nat.le_of_lt h.lt)).mono ?_
  rintro e w' ⟨rfl, h1, h2, _⟩
  have e1 : [Value.int .u8 (c : Int)] = Lib.byteCells [UInt8.ofNat c] := by
    have : (UInt8.ofNat c).toNat = c := by simp; omega
    simp [Lib.byteCells, this]
  rw [e1, byteCells_add] at h1
  exact ⟨rfl, .inr h1, h2⟩
theorem string_any {b : Nat} {l : List UInt8} (w : World) (h : BB w b l) :
    Calls Tryd.prog 37 #[.pointer (some ⟨b, 0, none⟩)] w fun e w' => e = .returned (.string ⟨l.toArray⟩) ∧ Below b w w' := by
  refine (Tryd.Builder_String_any_k b b l w h (Nat.le_of_lt h.lt)).mono ?_
  rintro e w' ⟨rfl, _, h2, _⟩
  exact ⟨rfl, h2⟩

/-- What the library's variables and the package's hold. -/
structure VarsIn (w : World) : Prop where
  names : NamesIn w
  tab : Lib.TabIs Tryd.prog w "internal/strconv.uint64pow10" .u64 Lib.pow10Tab
  syn : ∃ tp p, w.cell? ⟨2, 0, none⟩ = some (.iface tp p)
  rng : ∃ tp p, w.cell? ⟨3, 0, none⟩ = some (.iface tp p)
theorem gTab : Tryd.prog.globalNamed "internal/strconv.uint64pow10" = some 4 := by kernel_rfl
theorem VarsIn.below {w w' : World} (h : VarsIn w) (hb : Below w.heap.size w w') : VarsIn w' := by
  obtain ⟨tp, p, h1⟩ := h.syn
  obtain ⟨tq, q, h2⟩ := h.rng
  have l1 := World.block_lt_of_cell? w _ h1
  have l2 := World.block_lt_of_cell? w _ h2
  exact ⟨h.names.below hb, Go.Joins.tab_stays gTab h.tab hb (Nat.le_refl _), ⟨tp, p, (hb.cell (p := ⟨2, 0, none⟩) l1).trans h1⟩, ⟨tq, q, (hb.cell (p := ⟨3, 0, none⟩) l2).trans h2⟩⟩
theorem VarsIn.big {w : World} (h : VarsIn w) : 0 < w.heap.size := Nat.lt_of_le_of_lt (Nat.zero_le _) h.names.1

theorem itoa_any (n : Int) (w : World) (h0 : -9223372036854775808 ≤ n) (h1 : n ≤ 9223372036854775807) (hV : VarsIn w) :
    Calls Tryd.prog 36 #[.int .i64 n] w fun e w' => e = .returned (.string ⟨(Lib.itoa n).toArray⟩) ∧ Below w.heap.size w w' := by
  refine (Tryd.strconv_Itoa n h0 h1 w hV.tab).mono ?_
  rintro e w' ⟨rfl, k, os, rfl⟩
  exact ⟨rfl, Lib.below_grow _ w (Nat.le_refl _) k os⟩

/-- What ParseInt makes of a text, whether it is a number or not. -/
def pint (l : List UInt8) : Int := match Lib.parseIntB 32 l with | .ok v => v | .syntax => 0 | .range => Lib.intSat 32 l
def PintMade (w : World) (l : List UInt8) (e : Ending) (w' : World) : Prop := ∃ v, e = .returned (.tuple #[.int .i64 (pint l), v]) ∧ (v = .nilIface ∨ ∃ t p, v = .iface t p) ∧ Below w.heap.size w w'
theorem bytesWorld_below5 (w : World) (t : ByteArray) : Below w.heap.size w (Lib.bytesWorld w 5 t) := Lib.bytesWorld_below w 5 t
theorem parseInt_any (s : ByteArray) (w : World) (hs : s.size ≤ 281474976710656) (hV : VarsIn w) :
    Calls Tryd.prog 44 #[.string s, .int .i64 10, .int .i64 32] w (PintMade w s.data.toList) := by
  obtain ⟨tp, p, h1⟩ := hV.syn
  obtain ⟨tq, q, h2⟩ := hV.rng
  cases h : Lib.parseIntB 32 s.data.toList with
  | ok v =>
    refine (Tryd.strconv_ParseInt_10_at32_ok s (by omega) v h w).mono ?_
    rintro e w' ⟨rfl, hw⟩
    refine ⟨_, by rw [pint, h], .inl rfl, ?_⟩
    rcases hw with rfl | ⟨t, rfl⟩
    · exact Below.refl _ _
    · exact bytesWorld_below5 w t
  | «syntax» =>
    refine (Tryd.strconv_ParseInt_10_at32_syntax s hs h _ w h1 (.inr ⟨_, _, rfl⟩)).mono ?_
    rintro e w' ⟨N, rfl, _, _, hb⟩
    exact ⟨_, by rw [pint, h], .inr ⟨_, _, rfl⟩, hb⟩
  | range =>
    refine (Tryd.strconv_ParseInt_10_at32_range s hs h _ w h2 (.inr ⟨_, _, rfl⟩)).mono ?_
    rintro e w' ⟨N, rfl, _, _, hb⟩
    exact ⟨_, by rw [pint, h], .inr ⟨_, _, rfl⟩, hb⟩

end Go.Proofs.YtmcniddpjpbghaaDoor
