/- A statement whose order of evaluation is open, by facts: for each operation one says what is known of its value, whatever else has been carried out; then the order does not matter. -/
import Derived.RegionTactic
import Derived.NoCompiler
import Derived.WalkKit
namespace Go.Proofs.Ytmcphlklknfbmaa.Reg
set_option maxRecDepth 100000
open Go

def bound (e : Edge) : Bool := Region.binds .any e
def dsts (l : List Oper) : List Nat := l.filterMap (·.dst)

/-- Operation i waits for operation j. -/
def waitsFor (o : Oper) (j : Nat) : Bool := o.after.any fun e => bound e && e.on == j

def okOne (l : List Oper) (o : Oper) (i : Nat) (ds : List (Nat × Nat)) : Bool :=
  (o.after.all fun e => !bound e || decide (e.on < i)) &&
  (match o.guard with
   | none => true
   | some (j, _) => waitsFor o j && ((l[j]?).bind (·.dst)).isSome) &&
  ds.all fun p => waitsFor o p.1 && ((l[p.1]?).bind (·.dst)) == some p.2

def okAll (l : List Oper) : Nat → List (Oper × List (Nat × Nat)) → Bool
  | _, [] => true
  | i, (o, ds) :: r => okOne l o i ds && okAll l (i + 1) r

def okChain (l : List Oper) : List Nat → Bool
  | [] => true
  | [c] => decide (c < l.length)
  | c :: d :: r => decide (c < l.length) && decide (c < d) && (match l[d]? with | some o => waitsFor o c | none => false) && okChain l (d :: r)

def nodup : List Nat → Bool
  | [] => true
  | x :: r => !r.contains x && nodup r

def ok (l : List Oper) (deps : List (List (Nat × Nat))) (chain : List Nat) (fin : List (Nat × Nat)) (n : Nat) : Bool :=
  decide (deps.length = l.length) && okAll l 0 (l.zip deps) && okChain l chain && nodup (dsts l) && (dsts l).all (fun d => decide (d < n)) &&
  fin.all fun p => ((l[p.1]?).bind (·.dst)) == some p.2

/-- The frame outside the slots that the statement writes. -/
structure Frm (t0 : Act) (ds : List Nat) (a : Act) : Prop where
  defers : a.defers = t0.defers
  size : a.tmps.size = t0.tmps.size
  same : ∀ s, ds.contains s = false → a.tmps.getD s undef = t0.tmps.getD s undef

def Facts (V : Nat → Value → World → Prop) (t : Array Value) (w : World) : List (Nat × Nat) → Prop
  | [] => True
  | (j, d) :: r => V j (t.getD d undef) w ∧ Facts V t w r

/-- What is asked of one operation. -/
def Step (P : Program) (Q : Exit → Act → World → Prop) (t0 : Act) (sl : List Nat) (V : Nat → Value → World → Prop) (S : Nat → World → Prop) (chain : List Nat) (i : Nat) (o : Oper) (ds : List (Nat × Nat)) : Prop :=
  ∀ (a : Act) (w : World) (k : Nat), Frm t0 sl a → Facts V a.tmps w ds → S k w → (∀ c, chain[c]? = some i → k = c) →
    match o.guard with
    | none => ∀ K : Act → World → Prop, (∀ v w', V i v w' → (∀ j u, V j u w → V j u w') → S (if chain.contains i then k + 1 else k) w' → K (a.put o.dst v) w') → Oper.wp P o a w K Q
    | some (j, want) => ∃ b : Bool, (∀ u, V j u w → u = .bool b) ∧
        if b == want then ∀ K : Act → World → Prop, (∀ v w', V i v w' → (∀ j u, V j u w → V j u w') → S (if chain.contains i then k + 1 else k) w' → K (a.put o.dst v) w') → Oper.wp P o a w K Q
        else V i undef w ∧ chain.contains i = false

def Steps (P : Program) (Q : Exit → Act → World → Prop) (t0 : Act) (sl : List Nat) (V : Nat → Value → World → Prop) (S : Nat → World → Prop) (chain : List Nat) : Nat → List (Oper × List (Nat × Nat)) → Prop
  | _, [] => True
  | i, (o, ds) :: r => Step P Q t0 sl V S chain i o ds ∧ Steps P Q t0 sl V S chain (i + 1) r

/-- How many of the chain are behind. -/
def phase (chain : List Nat) (listed : Array Bool) : Nat := (chain.filter fun c => listed.getD c false).length

structure Inv (l : List Oper) (chain : List Nat) (t0 : Act) (V : Nat → Value → World → Prop) (S : Nat → World → Prop) (listed : Array Bool) (a : Act) (w : World) : Prop where
  frm : Frm t0 (dsts l) a
  size : listed.size = l.length
  closed : ∀ (j : Nat) (o : Oper), l[j]? = some o → listed.getD j false = true → ∀ e ∈ o.after, bound e = true → listed.getD e.on false = true
  facts : ∀ (j : Nat) (o : Oper) (d : Nat), l[j]? = some o → o.dst = some d → listed.getD j false = true → V j (a.tmps.getD d undef) w
  st : S (phase chain listed) w

section
variable {l : List Oper} {deps : List (List (Nat × Nat))} {chain : List Nat}

theorem okAll_at : ∀ (q : List (Oper × List (Nat × Nat))) (i : Nat), okAll l i q = true → ∀ j p, q[j]? = some p → okOne l p.1 (i + j) p.2 = true := by
  intro q
  induction q with
  | nil => intro i _ j p h; simp at h
  | cons x r ih =>
    intro i h j p hp
    simp only [okAll, Bool.and_eq_true] at h
    cases j with
    | zero => simp at hp; subst hp; exact h.1
    | succ j =>
      have := ih (i + 1) h.2 j p (by simpa using hp)
      rwa [show i + 1 + j = i + (j + 1) from by omega] at this

theorem steps_at {P : Program} {Q : Exit → Act → World → Prop} {t0 : Act} {sl : List Nat} {V : Nat → Value → World → Prop} {S : Nat → World → Prop} :
    ∀ (q : List (Oper × List (Nat × Nat))) (i : Nat), Steps P Q t0 sl V S chain i q → ∀ j p, q[j]? = some p → Step P Q t0 sl V S chain (i + j) p.1 p.2 := by
  intro q
  induction q with
  | nil => intro i _ j p h; simp at h
  | cons x r ih =>
    intro i h j p hp
    cases j with
    | zero => simp at hp; subst hp; exact h.1
    | succ j =>
      have := ih (i + 1) h.2 j p (by simpa using hp)
      rwa [show i + 1 + j = i + (j + 1) from by omega] at this

theorem waitsFor_iff {o : Oper} {j : Nat} : waitsFor o j = true ↔ ∃ e ∈ o.after, bound e = true ∧ e.on = j := by
  simp only [waitsFor, Array.any_eq_true', Bool.and_eq_true, beq_iff_eq]

theorem getD_set {listed : Array Bool} {i j : Nat} (hi : i < listed.size) : (listed.setIfInBounds i true).getD j false = if i = j then true else listed.getD j false := by
  simp only [Array.getD_eq_getD_getElem?, Array.getElem?_setIfInBounds]
  by_cases h : i = j
  · subst h; simp [hi]
  · simp [h]

theorem nodup_mem : ∀ (q : List Oper), nodup (dsts q) = true → ∀ (i j : Nat) (oi oj : Oper) (d : Nat), q[i]? = some oi → q[j]? = some oj → oi.dst = some d → oj.dst = some d → i = j := by
  intro q
  induction q with
  | nil => intro _ i j oi oj d h; simp at h
  | cons x r ih =>
    intro h i j oi oj d hi hj di dj
    have hr : nodup (dsts r) = true := by
      unfold dsts at h ⊢
      simp only [List.filterMap_cons] at h
      split at h
      · exact h
      · simp only [nodup, Bool.and_eq_true] at h; exact h.2
    have hx : ∀ d, x.dst = some d → ∀ (k : Nat) (o : Oper), r[k]? = some o → o.dst = some d → False := by
      intro d hd k o hk ho
      unfold dsts at h
      simp only [List.filterMap_cons, hd, nodup, Bool.and_eq_true, Bool.not_eq_true', List.contains_eq_mem, decide_eq_false_iff_not] at h
      exact h.1 (List.mem_filterMap.2 ⟨o, List.mem_of_getElem? hk, ho⟩)
    cases i with
    | zero =>
      simp at hi; subst hi
      cases j with
      | zero => rfl
      | succ j => exact (hx d di j oj (by simpa using hj) dj).elim
    | succ i =>
      cases j with
      | zero => simp at hj; subst hj; exact (hx d dj i oi (by simpa using hi) di).elim
      | succ j => rw [ih hr i j oi oj d (by simpa using hi) (by simpa using hj) di dj]

theorem chain_next : ∀ (q : List Nat), okChain l q = true → ∀ n x y, q[n]? = some x → q[n + 1]? = some y → x < y ∧ ∃ o, l[y]? = some o ∧ waitsFor o x = true := by
  intro q
  induction q with
  | nil => intro _ n x y h; simp at h
  | cons c r ih =>
    intro h n x y hx hy
    cases r with
    | nil => simp at hy
    | cons d r =>
      simp only [okChain, Bool.and_eq_true, decide_eq_true_eq] at h
      obtain ⟨⟨⟨_, h2⟩, h3⟩, h4⟩ := h
      cases n with
      | zero =>
        simp at hx hy; subst hx hy
        refine ⟨h2, ?_⟩
        cases ho : l[d]? with
        | none => rw [ho] at h3; cases h3
        | some o => rw [ho] at h3; exact ⟨o, rfl, h3⟩
      | succ n => exact ih h4 n x y (by simpa using hx) (by simpa using hy)

theorem chain_lt {q : List Nat} (h : okChain l q = true) : ∀ m n x y, q[n]? = some x → q[n + 1 + m]? = some y → x < y := by
  intro m
  induction m with
  | zero => intro n x y hx hy; exact (chain_next q h n x y hx hy).1
  | succ m ih =>
    intro n x y hx hy
    have hlen : n + 1 + m < q.length := by
      have := (List.getElem?_eq_some_iff.1 hy).1; omega
    have hz : q[n + 1 + m]? = some q[n + 1 + m] := List.getElem?_eq_getElem hlen
    have h1 := ih n x _ hx hz
    have h2 := (chain_next q h (n + 1 + m) _ y hz hy).1
    omega

theorem filter_len : ∀ (q : List Nat) (p : Nat → Bool) (c : Nat), (∀ n x, q[n]? = some x → p x = decide (n < c)) → c ≤ q.length → (q.filter p).length = c := by
  intro q
  induction q with
  | nil => intro p c _ h; simp at h; simp [h]
  | cons x r ih =>
    intro p c hp hc
    have h0 := hp 0 x rfl
    cases c with
    | zero =>
      rw [List.filter_cons, h0]
      have := ih p 0 (fun n y hy => by have := hp (n + 1) y (by simpa using hy); simpa using this) (Nat.zero_le _)
      simpa using this
    | succ c =>
      rw [List.filter_cons, h0]
      have := ih p c (fun n y hy => by have := hp (n + 1) y (by simpa using hy); simpa using this) (by simpa using hc)
      simpa using this

theorem phase_other {listed : Array Bool} {i : Nat} (hi : i < listed.size) (hc : chain.contains i = false) : phase chain (listed.setIfInBounds i true) = phase chain listed := by
  unfold phase
  congr 1
  refine List.filter_congr fun c hcm => ?_
  rw [getD_set hi, if_neg]
  rintro rfl
  simp at hc
  exact hc hcm

def Closed (l : List Oper) (listed : Array Bool) : Prop :=
  ∀ (j : Nat) (o : Oper), l[j]? = some o → listed.getD j false = true → ∀ e ∈ o.after, bound e = true → listed.getD e.on false = true

theorem chain_down {listed : Array Bool} (hk : okChain l chain = true) (hcl : Closed l listed) : ∀ (m n x y : Nat), chain[n]? = some x → chain[n + m]? = some y → listed.getD y false = true → listed.getD x false = true := by
  intro m
  induction m with
  | zero => intro n x y hx hy h; rw [Nat.add_zero, hx] at hy; injection hy with hy; subst hy; exact h
  | succ m ih =>
    intro n x y hx hy h
    have hlen : n + m < chain.length := by
      have := (List.getElem?_eq_some_iff.1 hy).1; omega
    have hz : chain[n + m]? = some chain[n + m] := List.getElem?_eq_getElem hlen
    obtain ⟨_, o, ho, hw⟩ := chain_next chain hk (n + m) _ y hz hy
    obtain ⟨e, he, hb, hon⟩ := waitsFor_iff.1 hw
    exact ih n x _ hx hz (by rw [← hon]; exact hcl y o ho h e he hb)

theorem phase_chain {listed : Array Bool} {i c : Nat} {o : Oper} (hk : okChain l chain = true) (hcl : Closed l listed) (hi : i < listed.size) (ho : l[i]? = some o) (hni : listed.getD i false = false)
    (hd : ∀ e ∈ o.after, bound e = true → listed.getD e.on false = true) (hc : chain[c]? = some i) :
    phase chain listed = c ∧ phase chain (listed.setIfInBounds i true) = c + 1 := by
  have hlen : c < chain.length := (List.getElem?_eq_some_iff.1 hc).1
  have hbefore : ∀ n x, chain[n]? = some x → n < c → listed.getD x false = true := by
    intro n x hx hn
    obtain ⟨b, rfl⟩ : ∃ b, c = b + 1 := ⟨c - 1, by omega⟩
    have hz : chain[b]? = some chain[b] := List.getElem?_eq_getElem (by omega)
    obtain ⟨_, o', ho', hw⟩ := chain_next chain hk b _ i hz hc
    rw [ho] at ho'; injection ho' with ho'; subst ho'
    obtain ⟨e, he, hb, hon⟩ := waitsFor_iff.1 hw
    have hl := hd e he hb
    rw [hon] at hl
    obtain ⟨m, rfl⟩ : ∃ m, b = n + m := ⟨b - n, by omega⟩
    exact chain_down hk hcl m n x _ hx hz hl
  have hafter : ∀ n x, chain[n]? = some x → c ≤ n → listed.getD x false = false := by
    intro n x hx hn
    obtain ⟨m, rfl⟩ : ∃ m, n = c + m := ⟨n - c, by omega⟩
    cases hx2 : listed.getD x false with
    | false => rfl
    | true => rw [chain_down hk hcl m c i x hc hx hx2] at hni; cases hni
  refine ⟨filter_len chain _ c (fun n x hx => ?_) (by omega), filter_len chain _ (c + 1) (fun n x hx => ?_) (by omega)⟩
  · rcases Nat.lt_or_ge n c with h | h
    · rw [hbefore n x hx h]; simp [h]
    · rw [hafter n x hx h]; simp; omega
  · rw [getD_set hi]
    rcases Nat.lt_trichotomy n c with h | h | h
    · rw [hbefore n x hx h]; simp; omega
    · subst h; rw [hc] at hx; injection hx with hx; simp [hx]
    · have hne : i ≠ x := by
        have := chain_lt hk (n - c - 1) c i x hc (by rw [show c + 1 + (n - c - 1) = n from by omega]; exact hx)
        omega
      rw [if_neg hne, hafter n x hx (by omega)]; simp; omega

def left (listed : Array Bool) : Nat := listed.toList.count false

theorem left_set {listed : Array Bool} {i : Nat} (hi : i < listed.size) (hf : listed.getD i false = false) : left (listed.setIfInBounds i true) + 1 = left listed := by
  unfold left
  have h1 : listed.toList[i]'(by simpa using hi) = false := by
    simp [Array.getD_eq_getD_getElem?, hi] at hf; simpa using hf
  have hpos : 0 < listed.toList.count false := List.count_pos_iff.2 (by rw [← h1]; exact List.getElem_mem _)
  rw [Array.toList_setIfInBounds, List.count_set (by simpa using hi), h1]
  rw [if_pos (show (false == false) = true from rfl), if_neg (show ¬ (true == false) = true from by decide)]
  omega

theorem left_zero {listed : Array Bool} (h : left listed = 0) : ∀ i, i < listed.size → listed.getD i false = true := by
  intro i hi
  unfold left at h
  have h1 := List.count_eq_zero.1 h
  cases hb : listed.getD i false with
  | true => rfl
  | false =>
    refine (h1 ?_).elim
    have e : listed.toList[i]'(by simpa using hi) = false := by
      simp [Array.getD_eq_getD_getElem?, hi] at hb; simpa using hb
    rw [← e]; exact List.getElem_mem _

theorem ready_iff {listed : Array Bool} {i : Nat} (h : i ∈ Region.ready .any l.toArray listed) : ∃ o, l[i]? = some o ∧ listed.getD i true = false ∧ ∀ e ∈ o.after, bound e = true → listed.getD e.on false = true := by
  unfold Region.ready at h
  rw [List.mem_filter] at h
  obtain ⟨h1, h2⟩ := h
  have hi : i < l.length := by simpa using h1
  simp only [Bool.and_eq_true, Bool.not_eq_true', List.getElem?_toArray] at h2
  refine ⟨l[i], List.getElem?_eq_getElem hi, h2.1, ?_⟩
  have h3 := h2.2
  rw [List.getElem?_eq_getElem hi] at h3
  simp only [Option.map_some, Option.getD_some, Array.all_eq_true', Bool.or_eq_true, Bool.not_eq_true'] at h3
  intro e he hb
  rcases h3 e he with h | h
  · unfold bound at hb; rw [hb] at h; cases h
  · exact h

theorem ready_mk {listed : Array Bool} {i : Nat} {o : Oper} (ho : l[i]? = some o) (hl : listed.getD i true = false) (hd : ∀ e ∈ o.after, bound e = true → listed.getD e.on false = true) : i ∈ Region.ready .any l.toArray listed := by
  unfold Region.ready
  rw [List.mem_filter]
  refine ⟨by simpa using (List.getElem?_eq_some_iff.1 ho).1, ?_⟩
  simp only [Bool.and_eq_true, Bool.not_eq_true', List.getElem?_toArray, ho, Option.map_some, Option.getD_some, Array.all_eq_true', Bool.or_eq_true]
  refine ⟨hl, fun e he => ?_⟩
  cases hb : Region.binds .any e with
  | false => exact .inl rfl
  | true => exact .inr (hd e he hb)

theorem put_same {a : Act} {d : Nat} {v : Value} (hd : d < a.tmps.size) : (a.put (some d) v).tmps.getD d undef = v := by
  simp [Act.put, Array.getD_eq_getD_getElem?, hd]
theorem put_other {a : Act} {d s : Nat} {v : Value} (h : d ≠ s) : (a.put (some d) v).tmps.getD s undef = a.tmps.getD s undef := by
  simp [Act.put, Array.getD_eq_getD_getElem?, h]

theorem facts_of {V : Nat → Value → World → Prop} {t : Array Value} {w : World} : ∀ (ds : List (Nat × Nat)), (∀ p ∈ ds, V p.1 (t.getD p.2 undef) w) → Facts V t w ds
  | [], _ => trivial
  | (j, d) :: r, h => ⟨h (j, d) (by simp), facts_of r fun p hp => h p (by simp [hp])⟩

/-- One more operation behind: what was known is known, and what its step says. -/
theorem Inv.put {t0 : Act} {V : Nat → Value → World → Prop} {S : Nat → World → Prop} {listed : Array Bool} {a : Act} {w w' : World} {i : Nat} {o : Oper} {v : Value}
    (h : Inv l chain t0 V S listed a w) (hnd : nodup (dsts l) = true) (hdn : ∀ d ∈ dsts l, d < t0.tmps.size) (ho : l[i]? = some o)
    (hd : ∀ e ∈ o.after, bound e = true → listed.getD e.on false = true)
    (hv : V i v w') (hst : ∀ j u, V j u w → V j u w') (hS : S (phase chain (listed.setIfInBounds i true)) w') : Inv l chain t0 V S (listed.setIfInBounds i true) (a.put o.dst v) w' := by
  have hi : i < listed.size := by rw [h.size]; exact (List.getElem?_eq_some_iff.1 ho).1
  refine ⟨⟨?_, ?_, ?_⟩, by simpa using h.size, ?_, ?_, hS⟩
  · cases hdst : o.dst with
    | none => exact h.frm.defers
    | some d => exact h.frm.defers
  · cases hdst : o.dst with
    | none => exact h.frm.size
    | some d => simpa [Act.put] using h.frm.size
  · intro s hs
    cases hdst : o.dst with
    | none => exact h.frm.same s hs
    | some d =>
      rw [put_other]
      · exact h.frm.same s hs
      · rintro rfl
        have : d ∈ dsts l := List.mem_filterMap.2 ⟨o, List.mem_of_getElem? ho, hdst⟩
        simp at hs
        exact hs this
  · intro j oj hj hl e he hb
    rw [getD_set hi] at hl ⊢
    by_cases hij : i = j
    · subst hij
      rw [ho] at hj; injection hj with hj; subst hj
      split
      · rfl
      · exact hd e he hb
    · rw [if_neg hij] at hl
      split
      · rfl
      · exact h.closed j oj hj hl e he hb
  · intro j oj d hj hdj hl
    rw [getD_set hi] at hl
    by_cases hij : i = j
    · subst hij
      rw [ho] at hj; injection hj with hj; subst hj
      rw [hdj, put_same]
      · exact hv
      · rw [h.frm.size]; exact hdn d (List.mem_filterMap.2 ⟨o, List.mem_of_getElem? ho, hdj⟩)
    · rw [if_neg hij] at hl
      have hf := h.facts j oj d hj hdj hl
      cases hdst : o.dst with
      | none => exact hst j _ hf
      | some d' =>
        rw [put_other]
        · exact hst j _ hf
        · rintro rfl
          exact hij (nodup_mem l hnd i j o oj d' ho hj hdst hdj)

variable {P : Program} {Q : Exit → Act → World → Prop}

theorem wpAny_facts {t0 : Act} {V : Nat → Value → World → Prop} {S : Nat → World → Prop} {fin : List (Nat × Nat)}
    (hok : ok l deps chain fin t0.tmps.size = true)
    (hs : Steps P Q t0 (dsts l) V S chain 0 (l.zip deps))
    (hend : ∀ a w, Frm t0 (dsts l) a → Facts V a.tmps w fin → S chain.length w → Q .normal a w) :
    ∀ (fuel : Nat) (listed : Array Bool) (a : Act) (w : World), left listed ≤ fuel → Inv l chain t0 V S listed a w → wpAny P .any l.toArray Q fuel listed a w := by
  simp only [ok, Bool.and_eq_true, decide_eq_true_eq] at hok
  obtain ⟨⟨⟨⟨⟨hlen, hall⟩, hch⟩, hnd⟩, hdn⟩, hfin⟩ := hok
  have hdn' : ∀ d ∈ dsts l, d < t0.tmps.size := fun d hd => by simpa using List.all_eq_true.1 hdn d hd
  have hzip : ∀ i o, l[i]? = some o → ∃ ds, (l.zip deps)[i]? = some (o, ds) := fun i o ho => by
    have hi := (List.getElem?_eq_some_iff.1 ho).1
    have hd : deps[i]? = some deps[i] := List.getElem?_eq_getElem (by omega)
    exact ⟨deps[i], by rw [List.getElem?_zip_eq_some]; exact ⟨ho, hd⟩⟩
  have hone : ∀ i o ds, (l.zip deps)[i]? = some (o, ds) → okOne l o i ds = true := fun i o ds h => by
    have := okAll_at (l := l) (l.zip deps) 0 hall i (o, ds) h
    simpa using this
  have hdone : ∀ (listed : Array Bool) (a : Act) (w : World), Inv l chain t0 V S listed a w → (∀ i, i < l.length → listed.getD i false = true) → Q .normal a w := by
    intro listed a w hI hl
    refine hend a w hI.frm (facts_of fin fun p hp => ?_) ?_
    · have h1 := List.all_eq_true.1 hfin p hp
      simp only [beq_iff_eq] at h1
      obtain ⟨o, ho, hdst⟩ := Option.bind_eq_some_iff.1 h1
      exact hI.facts p.1 o p.2 ho hdst (hl p.1 (List.getElem?_eq_some_iff.1 ho).1)
    · have hp : phase chain listed = chain.length := by
        refine filter_len chain _ _ (fun n x hx => ?_) (Nat.le_refl _)
        have hn := (List.getElem?_eq_some_iff.1 hx).1
        have hx' : x < l.length := by
          rcases Nat.eq_zero_or_pos n with h0 | h0
          · subst h0
            cases hc : chain with
            | nil => rw [hc] at hx; simp at hx
            | cons y r =>
              rw [hc] at hx hch
              simp at hx; subst hx
              cases r with
              | nil => simpa [okChain] using hch
              | cons z r => simp only [okChain, Bool.and_eq_true, decide_eq_true_eq] at hch; exact hch.1.1.1
          · obtain ⟨m, rfl⟩ : ∃ m, n = m + 1 := ⟨n - 1, by omega⟩
            have hm : chain[m]? = some chain[m] := List.getElem?_eq_getElem (by omega)
            obtain ⟨_, o, ho, _⟩ := chain_next chain hch m _ x hm hx
            exact (List.getElem?_eq_some_iff.1 ho).1
        rw [hl x hx']; simp [hn]
      rw [← hp]; exact hI.st
  intro fuel
  induction fuel with
  | zero =>
    intro listed a w hf hI
    have hl := left_zero (listed := listed) (by omega)
    rw [hI.size] at hl
    refine ⟨?_, hdone listed a w hI hl⟩
    refine List.eq_nil_iff_forall_not_mem.2 fun i hi => ?_
    obtain ⟨o, ho, hn, _⟩ := ready_iff hi
    have hil := (List.getElem?_eq_some_iff.1 ho).1
    have h1 := hl i hil
    simp [Array.getD_eq_getD_getElem?, hI.size, hil] at hn h1
    rw [h1] at hn; cases hn
  | succ fuel ih =>
    intro listed a w hf hI
    refine ⟨fun hr => ?_, fun i hi => ?_⟩
    · refine hdone listed a w hI fun i => ?_
      induction i using Nat.strongRecOn with
      | _ i ihi =>
        intro hil
        cases hb : listed.getD i false with
        | true => rfl
        | false =>
          have ho : l[i]? = some l[i] := List.getElem?_eq_getElem hil
          obtain ⟨ds, hz⟩ := hzip i _ ho
          have h1 := hone i _ ds hz
          simp only [okOne, Bool.and_eq_true] at h1
          have hbk := h1.1.1
          have hm : i ∈ Region.ready .any l.toArray listed := by
            refine ready_mk ho ?_ fun e he hbe => ?_
            · simp [Array.getD_eq_getD_getElem?, hI.size, hil] at hb ⊢; exact hb
            · have h2 := Array.all_eq_true'.1 hbk e he
              simp only [hbe, Bool.not_true, Bool.false_or, decide_eq_true_eq] at h2
              exact ihi e.on h2 (by omega)
          rw [hr] at hm; cases hm
    · obtain ⟨o, ho, hn, hd⟩ := ready_iff hi
      have hil := (List.getElem?_eq_some_iff.1 ho).1
      have his : i < listed.size := by rw [hI.size]; exact hil
      have hnf : listed.getD i false = false := by
        simp [Array.getD_eq_getD_getElem?, his] at hn ⊢; exact hn
      obtain ⟨ds, hz⟩ := hzip i o ho
      have h1 := hone i o ds hz
      simp only [okOne, Bool.and_eq_true] at h1
      have hstep := steps_at (l.zip deps) 0 hs i (o, ds) hz
      rw [Nat.zero_add] at hstep
      have hcl : Closed l listed := hI.closed
      have hk : ∀ c, chain[c]? = some i → phase chain listed = c := fun c hc => (phase_chain hch hcl his ho hnf hd hc).1
      have hk2 : phase chain (listed.setIfInBounds i true) = if chain.contains i then phase chain listed + 1 else phase chain listed := by
        split
        · rename_i hc
          simp at hc
          obtain ⟨c, hc⟩ := List.getElem?_of_mem hc
          obtain ⟨e1, e2⟩ := phase_chain hch hcl his ho hnf hd hc
          rw [e1, e2]
        · rename_i hc
          exact phase_other his (by simpa using hc)
      have hfacts : Facts V a.tmps w ds := facts_of ds fun p hp => by
        have h2 := List.all_eq_true.1 h1.2 p hp
        simp only [Bool.and_eq_true, beq_iff_eq] at h2
        obtain ⟨oj, hoj, hdst⟩ := Option.bind_eq_some_iff.1 h2.2
        obtain ⟨e, he, hb, hon⟩ := waitsFor_iff.1 h2.1
        exact hI.facts p.1 oj p.2 hoj hdst (by rw [← hon]; exact hd e he hb)
      have hst := hstep a w (phase chain listed) hI.frm hfacts hI.st hk
      refine wpOp_step (o := o) (by simpa using ho) fun K' hK' => ?_
      have go : ∀ v w', V i v w' → (∀ j u, V j u w → V j u w') → S (if chain.contains i then phase chain listed + 1 else phase chain listed) w' → K' (a.put o.dst v) w' := fun v w' hv hsb hS =>
        hK' _ _ (ih _ _ _ (by have := left_set his hnf; omega) (hI.put hnd hdn' ho hd hv hsb (by rw [hk2]; exact hS)))
      cases hg : o.guard with
      | none =>
        rw [if_pos (by simp [Region.wanted, hg])]
        simp only [hg] at hst
        exact hst K' go
      | some g =>
        obtain ⟨j, want⟩ := g
        simp only [hg] at hst h1
        obtain ⟨b, hb, hst⟩ := hst
        have h2 := h1.1.2
        simp only [Bool.and_eq_true] at h2
        obtain ⟨e, he, hbe, hon⟩ := waitsFor_iff.1 h2.1
        have hlj : listed.getD j false = true := by rw [← hon]; exact hd e he hbe
        obtain ⟨oj, hoj, hdj⟩ : ∃ oj, l[j]? = some oj ∧ oj.dst.isSome = true := by
          cases hoj : l[j]? with
          | none => rw [hoj] at h2; simp at h2
          | some oj => rw [hoj] at h2; exact ⟨oj, rfl, by simpa using h2.2⟩
        obtain ⟨d, hdd⟩ := Option.isSome_iff_exists.1 hdj
        have hu := hb _ (hI.facts j oj d hoj hdd hlj)
        have hds : d < a.tmps.size := by rw [hI.frm.size]; exact hdn' d (List.mem_filterMap.2 ⟨oj, List.mem_of_getElem? hoj, hdd⟩)
        have hy : yielded l.toArray a.tmps j = some b := by
          have e1 : a.tmps[d]? = some (.bool b) := by
            rw [Array.getElem?_eq_getElem hds]
            simp [Array.getD_eq_getD_getElem?, hds] at hu
            rw [hu]
          simp [yielded, hoj, hdd, e1]
        have hw : Region.wanted o (yielded l.toArray a.tmps) = (b == want) := by
          simp [Region.wanted, hg, hy]
        rw [hw]
        cases hbw : b == want with
        | true =>
          rw [if_pos rfl]
          simp only [hbw, if_true] at hst
          exact hst K' go
        | false =>
          rw [if_neg (by simp)]
          simp only [hbw, Bool.false_eq_true, if_false] at hst
          exact go undef w hst.1 (fun _ _ h => h) (by rw [hst.2]; exact hI.st)

theorem phase_none (chain : List Nat) (n : Nat) : phase chain (Array.replicate n false) = 0 := by
  unfold phase
  rw [List.length_eq_zero_iff, List.filter_eq_nil_iff]
  intro c _
  simp [Array.getD_eq_getD_getElem?, Array.getElem?_replicate]
  split <;> simp

/-- A STATEMENT WHOSE ORDER IS OPEN, BY FACTS. -/
theorem wp_facts {id : Nat} {t0 : Act} {w0 : World} (chain : List Nat) (deps : List (List (Nat × Nat))) (fin : List (Nat × Nat)) (V : Nat → Value → World → Prop) (S : Nat → World → Prop)
    (hm : P.follows .mixedOrders = true) (hok : ok l deps chain fin t0.tmps.size = true) (h0 : S 0 w0.drew)
    (hs : Steps P Q t0 (dsts l) V S chain 0 (l.zip deps))
    (hend : ∀ a w, Frm t0 (dsts l) a → Facts V a.tmps w fin → S chain.length w → Q .normal a w) : (Code.region id l.toArray true).wp P Q t0 w0 := by
  refine wp_region_any hm (wpAny_facts hok hs hend _ _ _ _ ?_ ⟨⟨rfl, rfl, fun _ _ => rfl⟩, by simp, ?_, ?_, by rw [phase_none]; exact h0⟩)
  · unfold left; rw [Array.toList_replicate]; exact Nat.le_trans List.count_le_length (by simp)
  · intro j o hj hl; simp [Array.getD_eq_getD_getElem?, Array.getElem?_replicate] at hl; split at hl <;> simp at hl
  · intro j o d hj hd hl; simp [Array.getD_eq_getD_getElem?, Array.getElem?_replicate] at hl; split at hl <;> simp at hl

/-- The same, the slots that it writes given as a list, the operations taken one by one. -/
theorem wp_facts_sl {id : Nat} {t0 : Act} {w0 : World} (sl : List Nat) (hsl : dsts l = sl) (chain : List Nat) (deps : List (List (Nat × Nat))) (fin : List (Nat × Nat)) (V : Nat → Value → World → Prop) (S : Nat → World → Prop)
    (hm : P.follows .mixedOrders = true) (hok : ok l deps chain fin t0.tmps.size = true) (h0 : S 0 w0.drew)
    (hs : Steps P Q t0 sl V S chain 0 (l.zip deps))
    (hend : ∀ a w, Frm t0 sl a → Facts V a.tmps w fin → S chain.length w → Q .normal a w) : (Code.region id l.toArray true).wp P Q t0 w0 := by
  subst hsl
  exact wp_facts chain deps fin V S hm hok h0 hs hend

theorem Steps.cons {t0 : Act} {sl : List Nat} {V : Nat → Value → World → Prop} {S : Nat → World → Prop} {i : Nat} {o : Oper} {ds : List (Nat × Nat)} {r : List (Oper × List (Nat × Nat))}
    (h : Step P Q t0 sl V S chain i o ds) (hr : Steps P Q t0 sl V S chain (i + 1) r) : Steps P Q t0 sl V S chain i ((o, ds) :: r) := ⟨h, hr⟩
theorem Steps.zip {t0 : Act} {sl : List Nat} {V : Nat → Value → World → Prop} {S : Nat → World → Prop} {i : Nat} {o : Oper} {ds : List (Nat × Nat)} {r : List Oper} {rd : List (List (Nat × Nat))}
    (h : Step P Q t0 sl V S chain i o ds) (hr : Steps P Q t0 sl V S chain (i + 1) (r.zip rd)) : Steps P Q t0 sl V S chain i ((o :: r).zip (ds :: rd)) := ⟨h, hr⟩
theorem Steps.nil {t0 : Act} {sl : List Nat} {V : Nat → Value → World → Prop} {S : Nat → World → Prop} {i : Nat} : Steps P Q t0 sl V S chain i (([] : List Oper).zip ([] : List (List (Nat × Nat)))) := trivial

/-- What is known: the value itself, or for some operations something of it. -/
structure Known (val : Nat → Value) (X : Nat → Value → World → Prop) (sp : List Nat) (i : Nat) (v : Value) (w : World) : Prop where
  plain : sp.contains i = false → v = val i
  other : sp.contains i = true → X i v w
theorem Known.mk_val {val : Nat → Value} {X : Nat → Value → World → Prop} {sp : List Nat} {i : Nat} {v : Value} {w : World} (hc : sp.contains i = false) (h : v = val i) : Known val X sp i v w :=
  ⟨fun _ => h, fun h2 => by rw [hc] at h2; cases h2⟩
theorem Known.mk_other {val : Nat → Value} {X : Nat → Value → World → Prop} {sp : List Nat} {i : Nat} {v : Value} {w : World} (hc : sp.contains i = true) (h : X i v w) : Known val X sp i v w :=
  ⟨(fun h2 => by rw [hc] at h2; cases h2), fun _ => h⟩

/-- A step that has no guard; one whose guard says yes; one whose guard says no. -/
theorem step_go {t0 : Act} {sl : List Nat} {V : Nat → Value → World → Prop} {S : Nat → World → Prop} {i : Nat} {o : Oper} {ds : List (Nat × Nat)} (hg : o.guard = none)
    (h : ∀ (a : Act) (w : World) (k : Nat), Frm t0 sl a → Facts V a.tmps w ds → S k w → (∀ c, chain[c]? = some i → k = c) →
      ∀ K : Act → World → Prop, (∀ v w', V i v w' → (∀ j u, V j u w → V j u w') → S (if chain.contains i then k + 1 else k) w' → K (a.put o.dst v) w') → Oper.wp P o a w K Q) : Step P Q t0 sl V S chain i o ds := by
  intro a w k hf hd hS hc
  simp only [hg]
  exact h a w k hf hd hS hc
theorem step_on {t0 : Act} {sl : List Nat} {V : Nat → Value → World → Prop} {S : Nat → World → Prop} {i : Nat} {o : Oper} {ds : List (Nat × Nat)} {j : Nat} {want : Bool} (hg : o.guard = some (j, want)) (hb : ∀ u w, V j u w → u = .bool want)
    (h : ∀ (a : Act) (w : World) (k : Nat), Frm t0 sl a → Facts V a.tmps w ds → S k w → (∀ c, chain[c]? = some i → k = c) →
      ∀ K : Act → World → Prop, (∀ v w', V i v w' → (∀ j u, V j u w → V j u w') → S (if chain.contains i then k + 1 else k) w' → K (a.put o.dst v) w') → Oper.wp P o a w K Q) : Step P Q t0 sl V S chain i o ds := by
  intro a w k hf hd hS hc
  simp only [hg]
  refine ⟨want, fun u => hb u w, ?_⟩
  rw [if_pos (by simp)]
  exact h a w k hf hd hS hc
theorem step_off {t0 : Act} {sl : List Nat} {V : Nat → Value → World → Prop} {S : Nat → World → Prop} {i : Nat} {o : Oper} {ds : List (Nat × Nat)} {j : Nat} {want : Bool} (hg : o.guard = some (j, want)) (hb : ∀ u w, V j u w → u = .bool !want)
    (h : ∀ w, V i undef w) (hc2 : chain.contains i = false) : Step P Q t0 sl V S chain i o ds := by
  intro a w k hf hd hS hc
  simp only [hg]
  refine ⟨!want, fun u => hb u w, ?_⟩
  rw [if_neg (by cases want <;> simp)]
  exact ⟨h w, hc2⟩

/-- The frame behind the statement: the slots that it writes hold whatever u says. -/
def filled (t : Array Value) (ds : List Nat) (u : Nat → Value) : Array Value := t.mapIdx fun s v => if ds.contains s then u s else v

theorem Frm.eq {t0 a : Act} {ds : List Nat} (h : Frm t0 ds a) : a = { tmps := filled t0.tmps ds fun s => a.tmps.getD s undef, defers := t0.defers } := by
  have e : a.tmps = filled t0.tmps ds fun s => a.tmps.getD s undef := by
    apply Array.ext
    · simp [filled, h.size]
    · intro s h1 h2
      simp only [filled, Array.getElem_mapIdx]
      have hs := h.same s
      have ha : a.tmps.getD s undef = a.tmps[s] := by simp [Array.getD_eq_getD_getElem?, h1]
      have ht : t0.tmps.getD s undef = t0.tmps[s]'(by rw [← h.size]; exact h1) := by
        have : s < t0.tmps.size := by rw [← h.size]; exact h1
        simp [Array.getD_eq_getD_getElem?, this]
      by_cases hc : ds.contains s = true
      · rw [if_pos hc]; exact ha.symm
      · rw [if_neg hc, ← ha, hs (by simpa using hc), ht]
  have hd := h.defers
  cases a
  simp only at e hd
  rw [← hd, ← e]
end

end Go.Proofs.Ytmcphlklknfbmaa.Reg
