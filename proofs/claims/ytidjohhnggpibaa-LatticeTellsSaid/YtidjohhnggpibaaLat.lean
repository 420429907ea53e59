/- What a lattice is, as plain functions of a table; the laws of its joins and meets. -/
import Derived.Test.YtidjohhnggpibaaProps2
import Derived.Test.YtidjohhnggpibaaMake
namespace Go.Proofs.Ytidjohhnggpibaa
open Go.RowKit

theorem TabV.later {w w' : World} {v : Value} {T : List (List Bool)} (h : TabV w w.heap.size v T) (hb : Below w.heap.size w w') : TabV w' w'.heap.size v T := (h.below hb).more hb.size
theorem IntsV.later {w w' : World} {v : Value} {l : List Int} (h : IntsV w w.heap.size v l) (hb : Below w.heap.size w w') : IntsV w' w'.heap.size v l := (h.below hb).more hb.size
theorem nextB {w w1 w2 : World} (h : Below w.heap.size w w1) (k : Below w1.heap.size w1 w2) : Below w.heap.size w w2 := h.trans (k.mono h.size)

/-- The relation turned round. -/
def flipZ (Z : Nat → Nat → Bool) : Nat → Nat → Bool := fun x y => Z y x
/-- The first bound of a and b that goes to all bounds. -/
def jnO (n : Nat) (Z : Nat → Nat → Bool) (a b : Nat) : Option Nat := firstZ Z (upK n Z a b)
def jnN (n : Nat) (Z : Nat → Nat → Bool) (a b : Nat) : Nat := (jnO n Z a b).getD 0
def pairsB (n : Nat) (Z : Nat → Nat → Bool) : Bool := allB n fun a => allB n fun b => (jnO n Z a b).isSome && (jnO n (flipZ Z) a b).isSome
def latB (T : List (List Bool)) : Bool := reflB T && antiB T && transB T && pairsB T.length (atT T)

/-- An order on the numbers below n in which any two have a least bound. -/
structure Jn (n : Nat) (Z : Nat → Nat → Bool) : Prop where
  refl : ∀ a, a < n → Z a a = true
  anti : ∀ a b, a < n → b < n → Z a b = true → Z b a = true → a = b
  trans : ∀ a b c, a < n → b < n → c < n → Z a b = true → Z b c = true → Z a c = true
  has : ∀ a b, a < n → b < n → (jnO n Z a b).isSome = true

theorem first_some {Z : Nat → Nat → Bool} {l : List Nat} {c : Nat} (h : firstZ Z l = some c) : c ∈ l ∧ ∀ b ∈ l, Z c b = true := by
  unfold firstZ at h
  refine ⟨List.mem_of_find?_eq_some h, ?_⟩
  have := List.find?_some h
  simpa [List.all_eq_true] using this
theorem first_of {Z : Nat → Nat → Bool} {l : List Nat} {c : Nat} (hc : c ∈ l) (h : ∀ b ∈ l, Z c b = true) (ha : ∀ x ∈ l, ∀ y ∈ l, Z x y = true → Z y x = true → x = y) : firstZ Z l = some c := by
  have hs : (firstZ Z l).isSome = true := by
    unfold firstZ
    rw [List.find?_isSome]
    exact ⟨c, hc, by simpa [List.all_eq_true] using h⟩
  obtain ⟨d, hd⟩ := Option.isSome_iff_exists.1 hs
  obtain ⟨h1, h2⟩ := first_some hd
  rw [hd, ha d h1 c hc (h2 c hc) (h d h1)]
theorem mem_upK {n a b c : Nat} {Z : Nat → Nat → Bool} : c ∈ upK n Z a b ↔ c < n ∧ Z a c = true ∧ Z b c = true := by
  unfold upK
  simp [List.mem_filter]

section
variable {n : Nat} {Z : Nat → Nat → Bool}

theorem Jn.some (h : Jn n Z) {a b : Nat} (ha : a < n) (hb : b < n) : jnO n Z a b = .some (jnN n Z a b) := by
  obtain ⟨c, hc⟩ := Option.isSome_iff_exists.1 (h.has a b ha hb)
  simp [jnN, hc]
theorem Jn.spec (h : Jn n Z) {a b : Nat} (ha : a < n) (hb : b < n) :
    jnN n Z a b < n ∧ Z a (jnN n Z a b) = true ∧ Z b (jnN n Z a b) = true ∧ ∀ c, c < n → Z a c = true → Z b c = true → Z (jnN n Z a b) c = true := by
  obtain ⟨h1, h2⟩ := first_some (h.some ha hb)
  obtain ⟨h3, h4, h5⟩ := mem_upK.1 h1
  exact ⟨h3, h4, h5, fun c hc h6 h7 => h2 c (mem_upK.2 ⟨hc, h6, h7⟩)⟩
theorem Jn.lt (h : Jn n Z) {a b : Nat} (ha : a < n) (hb : b < n) : jnN n Z a b < n := (h.spec ha hb).1
theorem Jn.left (h : Jn n Z) {a b : Nat} (ha : a < n) (hb : b < n) : Z a (jnN n Z a b) = true := (h.spec ha hb).2.1
theorem Jn.right (h : Jn n Z) {a b : Nat} (ha : a < n) (hb : b < n) : Z b (jnN n Z a b) = true := (h.spec ha hb).2.2.1
theorem Jn.least (h : Jn n Z) {a b c : Nat} (ha : a < n) (hb : b < n) (hc : c < n) (h1 : Z a c = true) (h2 : Z b c = true) : Z (jnN n Z a b) c = true := (h.spec ha hb).2.2.2 c hc h1 h2
theorem Jn.eq (h : Jn n Z) {a b c : Nat} (ha : a < n) (hb : b < n) (hc : c < n) (h1 : Z a c = true) (h2 : Z b c = true) (h3 : ∀ d, d < n → Z a d = true → Z b d = true → Z c d = true) : jnN n Z a b = c :=
  h.anti _ _ (h.lt ha hb) hc (h.least ha hb hc h1 h2) (h3 _ (h.lt ha hb) (h.left ha hb) (h.right ha hb))
theorem Jn.comm (h : Jn n Z) {a b : Nat} (ha : a < n) (hb : b < n) : jnN n Z a b = jnN n Z b a :=
  h.eq ha hb (h.lt hb ha) (h.right hb ha) (h.left hb ha) fun _ hd h1 h2 => h.least hb ha hd h2 h1
theorem Jn.idem (h : Jn n Z) {a : Nat} (ha : a < n) : jnN n Z a a = a := h.eq ha ha ha (h.refl a ha) (h.refl a ha) fun _ _ h1 _ => h1
theorem Jn.assoc (h : Jn n Z) {a b c : Nat} (ha : a < n) (hb : b < n) (hc : c < n) : jnN n Z (jnN n Z a b) c = jnN n Z a (jnN n Z b c) := by
  have hab := h.lt ha hb
  have hbc := h.lt hb hc
  have hx := h.lt ha hbc
  refine h.eq hab hc hx (h.least ha hb hx (h.left ha hbc) (h.trans _ _ _ hb hbc hx (h.left hb hc) (h.right ha hbc))) (h.trans _ _ _ hc hbc hx (h.right hb hc) (h.right ha hbc)) fun d hd h1 h2 => ?_
  have h3 := h.trans _ _ _ ha hab hd (h.left ha hb) h1
  have h4 := h.trans _ _ _ hb hab hd (h.right ha hb) h1
  exact h.least ha hbc hd h3 (h.least hb hc hd h4 h2)
theorem Jn.le_iff (h : Jn n Z) {a b : Nat} (ha : a < n) (hb : b < n) : Z a b = decide (jnN n Z a b = b) := by
  rw [Bool.eq_iff_iff, decide_eq_true_iff]
  refine ⟨fun hz => h.eq ha hb hb hz (h.refl b hb) fun _ _ _ h2 => h2, fun e => ?_⟩
  have := h.left ha hb
  rwa [e] at this
theorem Jn.absorb (h : Jn n Z) (k : Jn n (flipZ Z)) {a b : Nat} (ha : a < n) (hb : b < n) : jnN n Z a (jnN n (flipZ Z) a b) = a :=
  h.eq ha (k.lt ha hb) ha (h.refl a ha) (k.left ha hb) fun _ _ h1 _ => h1
theorem flip_flip (Z : Nat → Nat → Bool) : flipZ (flipZ Z) = Z := rfl
/-- What flows to all. -/
theorem Jn.low (h : Jn n Z) {c : Nat} (hc : c < n) (hl : ∀ x, x < n → Z c x = true) : firstZ Z (List.range n) = .some c :=
  first_of (by simpa using hc) (fun b hb => hl b (by simpa using hb)) fun x hx y hy h1 h2 => h.anti x y (by simpa using hx) (by simpa using hy) h1 h2
end

theorem reflB_iff {T : List (List Bool)} : reflB T = true ↔ sqB T = true ∧ ∀ a, a < T.length → atT T a a = true := by simp [reflB, reflZ, allB_iff]
theorem antiB_iff {T : List (List Bool)} : antiB T = true ↔ sqB T = true ∧ ∀ a, a < T.length → ∀ b, b < a → (atT T a b && atT T b a) = false := by
  simp only [antiB, antiZ, allB_iff, Bool.and_eq_true, Bool.not_eq_true']
theorem transB_iff {T : List (List Bool)} : transB T = true ↔ sqB T = true ∧ ∀ a, a < T.length → ∀ b, b < T.length → ∀ c, c < T.length → atT T a b = true → atT T b c = true → atT T a c = true := by
  simp only [transB, transZ, allB_iff, Bool.and_eq_true]
  refine and_congr Iff.rfl ⟨fun h a ha b hb c hc h1 h2 => ?_, fun h a ha b hb c hc => ?_⟩
  · have := h a ha b hb c hc
    simpa [h1, h2] using this
  · have := h a ha b hb c hc
    cases h1 : atT T a b <;> cases h2 : atT T b c <;> simp_all
theorem latB_iff {T : List (List Bool)} : latB T = true ↔ reflB T = true ∧ antiB T = true ∧ transB T = true ∧ pairsB T.length (atT T) = true := by
  simp [latB, and_assoc]
theorem lat_sq {T : List (List Bool)} (h : latB T = true) : sqB T = true := (reflB_iff.1 (latB_iff.1 h).1).1
theorem lat_len {T : List (List Bool)} (h : latB T = true) : 1 ≤ T.length ∧ T.length ≤ 16 := ⟨(sqB_iff.1 (lat_sq h)).1, (sqB_iff.1 (lat_sq h)).2.1⟩
theorem anti_all {T : List (List Bool)} (h : antiB T = true) : ∀ a b, a < T.length → b < T.length → atT T a b = true → atT T b a = true → a = b := fun a b ha hb h1 h2 => by
  have hh := (antiB_iff.1 h).2
  rcases Nat.lt_trichotomy a b with hl | hl | hl
  · have := hh b hb a hl; rw [h1, h2] at this; cases this
  · exact hl
  · have := hh a ha b hl; rw [h1, h2] at this; cases this
theorem lat_jn {T : List (List Bool)} (h : latB T = true) : Jn T.length (atT T) := by
  obtain ⟨h1, h2, h3, h4⟩ := latB_iff.1 h
  refine ⟨(reflB_iff.1 h1).2, anti_all h2, fun a b c ha hb hc => (transB_iff.1 h3).2 a ha b hb c hc, fun a b ha hb => ?_⟩
  have := allB_iff.1 (allB_iff.1 h4 a ha) b hb
  simp only [Bool.and_eq_true] at this
  exact this.1
theorem lat_mt {T : List (List Bool)} (h : latB T = true) : Jn T.length (flipZ (atT T)) := by
  obtain ⟨h1, h2, h3, h4⟩ := latB_iff.1 h
  refine ⟨(reflB_iff.1 h1).2, fun a b ha hb k1 k2 => anti_all h2 a b ha hb k2 k1, fun a b c ha hb hc k1 k2 => (transB_iff.1 h3).2 c hc b hb a ha k2 k1, fun a b ha hb => ?_⟩
  have := allB_iff.1 (allB_iff.1 h4 a ha) b hb
  simp only [Bool.and_eq_true] at this
  exact this.2

/-- Least of Upper, Greatest of Lower. -/
theorem upper_ok {n a b : Nat} {Z : Nat → Nat → Bool} {T : List (List Bool)} (hs : sqB T = true) (hn : T.length = n) : allIn T (nats (upK n Z a b)) = true :=
  allIn_iff.2 ⟨hn ▸ nats_ok fun _ hx => upK_lt hx, hs⟩
theorem in_pair {T : List (List Bool)} {a b : Nat} (hs : sqB T = true) (ha : a < T.length) (hb : b < T.length) : allIn T [(a : Int), (b : Int)] = true := by
  refine allIn_iff.2 ⟨?_, hs⟩
  simp [okL]; omega
theorem join_eq {T : List (List Bool)} {a b : Nat} (hs : sqB T = true) (ha : a < T.length) (hb : b < T.length) : leastT T (upperT T a b) = jnO T.length (atT T) a b := by
  rw [upper_yes (in_pair hs ha hb), least_yes (upper_ok hs rfl)]; rfl
theorem meet_eq {T : List (List Bool)} {a b : Nat} (hs : sqB T = true) (ha : a < T.length) (hb : b < T.length) : greatestT T (lowerT T a b) = jnO T.length (flipZ (atT T)) a b := by
  rw [lower_yes (in_pair hs ha hb), greatest_yes (upper_ok hs rfl)]; rfl
def orNone (o : Option Nat) : Int := match o with | some c => (c : Int) | none => -1
/-- The answers of Join and Meet. -/
def joinZ (T : List (List Bool)) (a b : Int) : Int := orNone (leastT T (upperT T a b))
def meetZ (T : List (List Bool)) (a b : Int) : Int := orNone (greatestT T (lowerT T a b))
def flowsT (T : List (List Bool)) (a b : Int) : Bool := inT T a && inT T b && atT T a.toNat b.toNat
def belowT (T : List (List Bool)) (a : Int) : List Nat := (List.range T.length).filter fun b => flowsT T b a
def botT (T : List (List Bool)) : Nat := (leastT T (nats (List.range T.length))).getD 0
def topT (T : List (List Bool)) : Nat := (greatestT T (nats (List.range T.length))).getD 0
theorem first_nil (Z : Nat → Nat → Bool) : firstZ Z [] = none := rfl
theorem joinZ_no {T : List (List Bool)} {a b : Int} (h : allIn T [a, b] = false) : joinZ T a b = -1 := by
  unfold joinZ
  rw [upperT_no h]
  unfold leastT
  split <;> rfl
theorem meetZ_no {T : List (List Bool)} {a b : Int} (h : allIn T [a, b] = false) : meetZ T a b = -1 := by
  unfold meetZ
  rw [lowerT_no h]
  unfold greatestT
  split <;> rfl
theorem joinZ_yes {T : List (List Bool)} {a b : Nat} (h : latB T = true) (ha : a < T.length) (hb : b < T.length) : joinZ T a b = (jnN T.length (atT T) a b : Nat) := by
  unfold joinZ
  rw [join_eq (lat_sq h) ha hb, (lat_jn h).some ha hb]; rfl
theorem meetZ_yes {T : List (List Bool)} {a b : Nat} (h : latB T = true) (ha : a < T.length) (hb : b < T.length) : meetZ T a b = (jnN T.length (flipZ (atT T)) a b : Nat) := by
  unfold meetZ
  rw [meet_eq (lat_sq h) ha hb, (lat_mt h).some ha hb]; rfl
theorem range_ok {T : List (List Bool)} (hs : sqB T = true) : allIn T (nats (List.range T.length)) = true := allIn_iff.2 ⟨nats_ok fun x hx => by simpa using hx, hs⟩
theorem bot_of {T : List (List Bool)} {c : Nat} (h : latB T = true) (hc : c < T.length) (hl : ∀ x, x < T.length → atT T c x = true) : botT T = c := by
  unfold botT
  rw [least_yes (range_ok (lat_sq h)), (lat_jn h).low hc hl]; rfl
theorem top_of {T : List (List Bool)} {c : Nat} (h : latB T = true) (hc : c < T.length) (hl : ∀ x, x < T.length → atT T x c = true) : topT T = c := by
  unfold topT
  rw [greatest_yes (range_ok (lat_sq h))]
  have := (lat_mt h).low hc hl
  unfold flipZ at this
  rw [this]; rfl

end Go.Proofs.Ytidjohhnggpibaa
