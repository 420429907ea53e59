/- strings.Cut at a space: what is before the first space, what is behind it. -/
import Derived.Test.YtmcniddpjpbghaaDoorBuild
import Derived.Lib.Strings
import Derived.Laws.Strings3
import Derived.Deep.QuietTactic
import Derived.BigQuiet
namespace Go.Proofs.YtmcniddpjpbghaaDoor
set_option maxRecDepth 100000
open Go.RowKit

def preL (l : List UInt8) : List UInt8 := l.takeWhile fun c => c != 32
def sufL (l : List UInt8) : List UInt8 := l.drop ((preL l).length + 1)
theorem preL_le (l : List UInt8) : (preL l).length ≤ l.length := (List.takeWhile_prefix _).length_le
theorem preL_take (l : List UInt8) : preL l = l.take (preL l).length := by
  have := (List.takeWhile_prefix (l := l) fun c => c != 32)
  exact List.prefix_iff_eq_take.1 this
theorem index_pre : ∀ l : List UInt8, Lib.indexByte l 32 = if (preL l).length < l.length then ((preL l).length : Int) else -1
  | [] => rfl
  | b :: l => by
    have ih := index_pre l
    unfold Lib.indexByte
    by_cases hb : b = 32
    · subst hb; simp [preL]
    · have e : preL (b :: l) = b :: preL l := by simp [preL, hb]
      rw [e]
      rw [if_neg (by simpa using hb), ih]
      have hl := preL_le l
      simp only [List.length_cons]
      by_cases h : (preL l).length < l.length
      · have h1 : (((preL l).length : Int) == -1) = false := by rw [beq_eq_false_iff_ne]; omega
        rw [if_pos h, h1, if_neg (by decide), if_pos (by omega)]
        omega
      · rw [if_neg h]
        have h2 : ¬ (preL l).length + 1 < l.length + 1 := by omega
        rw [if_neg h2]; rfl
theorem pre_extract (s : ByteArray) : (⟨(preL s.data.toList).toArray⟩ : ByteArray) = s.extract 0 (preL s.data.toList).length := by
  rw [Lib.extract_eq]
  have := preL_take s.data.toList
  simpa using this
theorem suf_extract (s : ByteArray) : (⟨(sufL s.data.toList).toArray⟩ : ByteArray) = s.extract ((preL s.data.toList).length + 1) s.size := by
  rw [Lib.extract_eq, List.take_of_length_le (by rw [List.length_drop, ← Lib.size_eq]; exact Nat.le_refl _)]; rfl

set_option maxHeartbeats 2000000 in
theorem slCut_any (s : ByteArray) (w : World) (hs : s.size ≤ 281474976710656) : Calls Tryd.prog 69 #[.string s, .string ⟨#[32]⟩] w fun e w' =>
    e = .returned (.tuple #[.string ⟨(preL s.data.toList).toArray⟩, .string ⟨(sufL s.data.toList).toArray⟩, .bool (decide ((preL s.data.toList).length < s.data.toList.length))]) ∧ Below w.heap.size w w' := by
  have hix := index_pre s.data.toList
  have hle := preL_le s.data.toList
  have hsz : s.data.toList.length = s.size := (Lib.size_eq s).symm
  rw [hsz] at hix hle ⊢
  have hp := pre_extract s
  have hq := suf_extract s
  obtain ⟨i, hi⟩ : ∃ i, (preL s.data.toList).length = i := ⟨_, rfl⟩
  rw [hi] at hix hle hp hq ⊢
  obtain ⟨n, hn⟩ : ∃ n, s.size = n := ⟨_, rfl⟩
  rw [hn] at hix hle hq ⊢
  by_cases h : i < n
  · rw [if_pos h] at hix
    obtain ⟨d, hd⟩ : ∃ d, decide (i < n) = d := ⟨_, rfl⟩
    have hd2 : d = true := by rw [← hd]; simpa using h
    rw [hp, hq, hd, hd2]
    have c1 : (0 : Int) ≤ (i : Int) := by omega
    have c2 : (i : Int) ≤ (s.size : Int) := by omega
    have c3 : (0 : Int) ≤ (i : Int) + 1 := by omega
    have c4 : (i : Int) + 1 ≤ (s.size : Int) := by omega
    have c5 : i ≤ s.size := by omega
    have c6 : i + 1 ≤ s.size := by omega
    have c7 : wrap64 ((i : Int) + 1) = (i : Int) + 1 := by unfold wrap64; omega
    clear hp hq hd hd2 hi hsz hle
    go_enter Tryd.func69, Tryd.ntmps69
    go_wp2_with (go_at_call 88; refine (Tryd.stringslite_Index_one s 32 _).mono ?_; rintro e w' ⟨rfl, rfl⟩; rw [hix])
    go_quiet (fail)
    go_wp2
    go_ret3
    exact ⟨rfl, below_drewN (Below.refl _ _) _⟩
  · rw [if_neg h] at hix
    have e : i = n := by omega
    have e1 : s.extract 0 i = s := by rw [e, ← hn, Lib.extract_eq, List.drop_zero, List.take_of_length_le (by rw [← Lib.size_eq]; omega)]
    have e2 : s.extract (i + 1) n = ⟨#[]⟩ := by rw [Lib.extract_eq, show n - (i + 1) = 0 by omega]; rfl
    have hd2 : decide (i < n) = false := by simpa using h
    rw [hp, hq, hd2, e1, e2]
    clear hp hq hd2 hi hsz hle e1 e2
    go_enter Tryd.func69, Tryd.ntmps69
    go_wp2_with (go_at_call 88; refine (Tryd.stringslite_Index_one s 32 _).mono ?_; rintro e w' ⟨rfl, rfl⟩; rw [hix])
    go_ret3
    exact ⟨rfl, Below.refl _ _⟩

theorem cut_any (s : ByteArray) (w : World) (hs : s.size ≤ 281474976710656) : Calls Tryd.prog 42 #[.string s, .string ⟨#[32]⟩] w fun e w' =>
    e = .returned (.tuple #[.string ⟨(preL s.data.toList).toArray⟩, .string ⟨(sufL s.data.toList).toArray⟩, .bool (decide ((preL s.data.toList).length < s.data.toList.length))]) ∧ Below w.heap.size w w' := by
  have HC := Lib.hid (slCut_any s w hs)
  obtain ⟨p, hp⟩ : ∃ p : ByteArray, ⟨(preL s.data.toList).toArray⟩ = p := ⟨_, rfl⟩
  obtain ⟨q, hq⟩ : ∃ q : ByteArray, ⟨(sufL s.data.toList).toArray⟩ = q := ⟨_, rfl⟩
  obtain ⟨b, hb⟩ : ∃ b, decide ((preL s.data.toList).length < s.data.toList.length) = b := ⟨_, rfl⟩
  rw [hp, hq, hb] at HC ⊢
  clear hp hq hb
  go_enter Tryd.func42, Tryd.ntmps42
  go_wp2_with fail
  refine HC.out.mono ?_
  rintro e w' ⟨rfl, hb⟩
  go_wp2_with fail
  go_ret3
  exact ⟨rfl, hb⟩

end Go.Proofs.YtmcniddpjpbghaaDoor
