/- Steps that wait for others, as lists: who may be, their order, who is ready, who is skipped. Plain facts alone. -/
namespace Go.Proofs.Ytodgkjmkjahkiaa

/-! numbers below a bound -/
def allR (f : Nat → Bool) : Nat → Bool
  | 0 => true
  | n + 1 => allR f n && f n
theorem allR_iff {f : Nat → Bool} : ∀ {n : Nat}, allR f n = true ↔ ∀ i, i < n → f i = true
  | 0 => ⟨fun _ i hi => absurd hi (Nat.not_lt_zero i), fun _ => rfl⟩
  | n + 1 => by
    simp only [allR, Bool.and_eq_true, allR_iff (n := n)]
    constructor
    · intro h i hi
      rcases Nat.lt_or_ge i n with h1 | h1
      · exact h.1 i h1
      · obtain rfl : i = n := by omega
        exact h.2
    · intro h
      exact ⟨fun i hi => h i (by omega), h n (by omega)⟩
theorem allR_no {f : Nat → Bool} {n i : Nat} (hi : i < n) (h : f i = false) : allR f n = false := by
  cases e : allR f n with
  | false => rfl
  | true => rw [allR_iff.1 e i hi] at h; cases h
theorem allR_cong {f g : Nat → Bool} {n : Nat} (h : ∀ i, i < n → f i = g i) : allR f n = allR g n := by
  cases e : allR g n with
  | true => exact allR_iff.2 fun i hi => (h i hi).trans (allR_iff.1 e i hi)
  | false =>
    cases e2 : allR f n with
    | false => rfl
    | true =>
      have := allR_iff.2 fun i hi => (h i hi).symm.trans (allR_iff.1 e2 i hi)
      rw [this] at e
      cases e
def leastR (f : Nat → Bool) : Nat → Option Nat
  | 0 => none
  | n + 1 => match leastR f n with
    | some i => some i
    | none => if f n then some n else none
theorem leastR_none {f : Nat → Bool} : ∀ {n : Nat}, leastR f n = none ↔ ∀ i, i < n → f i = false
  | 0 => ⟨fun _ i hi => absurd hi (Nat.not_lt_zero i), fun _ => rfl⟩
  | n + 1 => by
    have ih := leastR_none (f := f) (n := n)
    unfold leastR
    cases e : leastR f n with
    | some j =>
      simp only [reduceCtorEq, false_iff]
      intro h
      have := ih.2 fun i hi => h i (by omega)
      rw [this] at e
      cases e
    | none =>
      have h0 := ih.1 e
      cases e2 : f n with
      | true =>
        simp only [if_true, reduceCtorEq, false_iff]
        intro h
        rw [h n (by omega)] at e2
        cases e2
      | false =>
        simp only [Bool.false_eq_true, if_false, true_iff]
        intro i hi
        rcases Nat.lt_or_ge i n with h1 | h1
        · exact h0 i h1
        · obtain rfl : i = n := by omega
          exact e2
theorem leastR_spec {f : Nat → Bool} : ∀ {n i : Nat}, leastR f n = some i → i < n ∧ f i = true
  | n + 1, i, h => by
    unfold leastR at h
    cases e : leastR f n with
    | some j =>
      rw [e] at h
      simp only [Option.some.injEq] at h
      subst h
      have := leastR_spec e
      exact ⟨by omega, this.2⟩
    | none =>
      rw [e] at h
      cases e2 : f n with
      | true =>
        rw [e2] at h
        simp at h
        subst h
        exact ⟨by omega, e2⟩
      | false =>
        rw [e2] at h
        simp at h
theorem leastR_some {f : Nat → Bool} : ∀ {n i : Nat}, i < n → f i = true → (∀ j, j < i → f j = false) → leastR f n = some i
  | n + 1, i, hi, h1, h2 => by
    unfold leastR
    rcases Nat.lt_or_ge i n with h | h
    · rw [leastR_some h h1 h2]
    · obtain rfl : i = n := by omega
      rw [leastR_none.2 h2, h1]
      rfl
def filtR (f : Nat → Bool) : Nat → List Int
  | 0 => []
  | n + 1 => if f n then filtR f n ++ [(n : Int)] else filtR f n
theorem mem_filtR {f : Nat → Bool} {x : Int} : ∀ {n : Nat}, x ∈ filtR f n ↔ ∃ i, i < n ∧ f i = true ∧ x = i
  | 0 => by simp [filtR]
  | n + 1 => by
    have ih := mem_filtR (f := f) (x := x) (n := n)
    unfold filtR
    cases e : f n with
    | true =>
      simp only [if_true, List.mem_append, List.mem_singleton, ih]
      constructor
      · rintro (⟨i, h1, h2, h3⟩ | h)
        · exact ⟨i, by omega, h2, h3⟩
        · exact ⟨n, by omega, e, h⟩
      · rintro ⟨i, h1, h2, h3⟩
        rcases Nat.lt_or_ge i n with h | h
        · exact .inl ⟨i, h, h2, h3⟩
        · obtain rfl : i = n := by omega
          exact .inr h3
    | false =>
      simp only [Bool.false_eq_true, if_false, ih]
      constructor
      · rintro ⟨i, h1, h2, h3⟩
        exact ⟨i, by omega, h2, h3⟩
      · rintro ⟨i, h1, h2, h3⟩
        rcases Nat.lt_or_ge i n with h | h
        · exact ⟨i, h, h2, h3⟩
        · obtain rfl : i = n := by omega
          rw [e] at h2
          cases h2
theorem filtR_le {f : Nat → Bool} : ∀ {n : Nat}, (filtR f n).length ≤ n
  | 0 => Nat.le_refl _
  | n + 1 => by
    have ih := filtR_le (f := f) (n := n)
    unfold filtR
    cases f n <;> simp <;> omega
def cntR (f : Nat → Bool) : Nat → Nat
  | 0 => 0
  | n + 1 => cntR f n + if f n then 1 else 0
theorem cntR_le {f : Nat → Bool} : ∀ {n : Nat}, cntR f n ≤ n
  | 0 => Nat.le_refl _
  | n + 1 => by
    have ih := cntR_le (f := f) (n := n)
    unfold cntR
    cases f n <;> simp <;> omega
theorem cntR_mono {f g : Nat → Bool} : ∀ {n : Nat}, (∀ i, i < n → f i = true → g i = true) → cntR f n ≤ cntR g n
  | 0, _ => Nat.le_refl _
  | n + 1, h => by
    have ih := cntR_mono (f := f) (g := g) (n := n) fun i hi => h i (by omega)
    have hn := h n (by omega)
    unfold cntR
    cases e : f n <;> cases e2 : g n <;> simp <;> first | omega | (rw [hn e] at e2; cases e2)
theorem cntR_lt {f g : Nat → Bool} {j : Nat} : ∀ {n : Nat}, (∀ i, i < n → f i = true → g i = true) → j < n → g j = true → f j = false → cntR f n < cntR g n
  | n + 1, h, hj, h1, h2 => by
    have hn := h n (by omega)
    rcases Nat.lt_or_ge j n with h3 | h3
    · have ih := cntR_lt (f := f) (g := g) (n := n) (fun i hi => h i (by omega)) h3 h1 h2
      unfold cntR
      cases e : f n <;> cases e2 : g n <;> simp <;> first | omega | (rw [hn e] at e2; cases e2)
    · obtain rfl : j = n := by omega
      have ih := cntR_mono (f := f) (g := g) (n := j) fun i hi => h i (by omega)
      unfold cntR
      rw [h1, h2]
      simp
      omega
theorem cntR_zero {f : Nat → Bool} : ∀ {n : Nat}, cntR f n = 0 → ∀ i, i < n → f i = false
  | n + 1, h, i, hi => by
    unfold cntR at h
    rcases Nat.lt_or_ge i n with h1 | h1
    · exact cntR_zero (by omega) i h1
    · obtain rfl : i = n := by omega
      cases e : f i with
      | false => rfl
      | true => rw [e] at h; simp at h

/-! steps -/
structure Ed where
  s : Int
  k : Int
structure St where
  r : Int
  p : Int
  d : Int
  m : Int
  es : List Ed
def edA (es : List Ed) (k : Nat) : Ed := es.getD k ⟨0, 0⟩
def stA (l : List St) (i : Nat) : St := l.getD i ⟨0, 0, 0, 0, []⟩
def codeA (cs : List Int) (s : Int) : Int := cs.getD s.toNat 0
def hasB (o : List Int) (x : Int) : Bool := o.contains x
theorem hasB_iff {o : List Int} {x : Int} : hasB o x = true ↔ x ∈ o := by unfold hasB; simp
theorem edA_mem {es : List Ed} {k : Nat} (h : k < es.length) : edA es k ∈ es := by
  unfold edA
  rw [List.getD_eq_getElem?_getD, List.getElem?_eq_getElem h]
  exact List.getElem_mem h
theorem allE {es : List Ed} {f : Ed → Bool} : allR (fun k => f (edA es k)) es.length = true ↔ ∀ e, e ∈ es → f e = true := by
  rw [allR_iff]
  constructor
  · intro h e he
    obtain ⟨k, hk, rfl⟩ := List.getElem_of_mem he
    have := h k hk
    unfold edA at this
    rwa [List.getD_eq_getElem?_getD, List.getElem?_eq_getElem hk] at this
  · intro h k hk
    exact h _ (edA_mem hk)

def isW (n a b : Int) : Bool := decide (a ≤ n) && decide (n ≤ b)
theorem isW_iff {n a b : Int} : isW n a b = true ↔ a ≤ n ∧ n ≤ b := by unfold isW; simp
def sizesB (s : St) : Bool := isW s.r 1 32 && isW s.p 1 256 && isW s.d 0 1 && isW s.m 1 1073741824
def namesB (es : List Ed) (n : Nat) (s : Int) : Bool := !allR (fun k => !((edA es k).s == s)) n
def edgeB (es : List Ed) (a n : Int) (i : Nat) : Bool := isW (edA es i).s 0 (n - 1) && !((edA es i).s == a) && isW (edA es i).k 0 2 && !namesB es i (edA es i).s
def edgesB (es : List Ed) (a n : Int) : Bool := allR (edgeB es a n) es.length
def mayB (l : List St) : Bool := isW l.length 1 16 && allR (fun i => sizesB (stA l i) && edgesB (stA l i).es i l.length) l.length
def canB (l : List St) (o : List Int) (i : Nat) : Bool := !hasB o i && allR (fun k => hasB o (edA (stA l i).es k).s) (stA l i).es.length
def nextB (l : List St) (o : List Int) : Option Nat := leastR (canB l o) l.length
def placesF (l : List St) : Nat → List Int → List Int
  | 0, o => o
  | n + 1, o => match nextB l o with
    | none => o
    | some i => placesF l n (o ++ [(i : Int)])
def placesB (l : List St) : List Int := placesF l l.length []
/-- What is wrong with steps. -/
def checkB (l : List St) : Int := if mayB l then if (placesB l).length < l.length then 15 else 0 else 1
def orderB (l : List St) : List Int := if checkB l = 0 then placesB l else []

/-- Each stands once, behind those that its edges name. -/
def Good (l : List St) (o : List Int) : Prop := ∀ (i : Nat) (x : Int), o[i]? = some x → (0 ≤ x ∧ x < l.length) ∧ x ∉ o.take i ∧ ∀ e, e ∈ (stA l x.toNat).es → e.s ∈ o.take i
theorem Good.nil {l : List St} : Good l [] := fun i x h => by simp at h
theorem Good.push {l : List St} {o : List Int} (h : Good l o) {i : Nat} (hi : i < l.length) (hc : canB l o i = true) : Good l (o ++ [(i : Int)]) := by
  intro j x hx
  rcases Nat.lt_or_ge j o.length with h1 | h1
  · rw [List.getElem?_append_left h1] at hx
    have := h j x hx
    rwa [List.take_append_of_le_length (by omega)]
  · rw [List.getElem?_append_right h1] at hx
    have hj : j = o.length := by
      rcases Nat.lt_or_ge j (o.length + 1) with h2 | h2
      · omega
      · rw [List.getElem?_eq_none (by simp; omega)] at hx
        cases hx
    subst hj
    simp at hx
    subst hx
    unfold canB at hc
    simp only [Bool.and_eq_true, Bool.not_eq_true'] at hc
    have ht : List.take o.length (o ++ [(i : Int)]) = o := by simp
    rw [ht]
    refine ⟨⟨by omega, by omega⟩, ?_, fun e he => ?_⟩
    · intro hm
      rw [hasB_iff.2 hm] at hc
      cases hc.1
    · rw [Int.toNat_natCast] at he
      exact hasB_iff.1 ((allE (f := fun e => hasB o e.s)).1 hc.2 e he)
theorem Good.placesF {l : List St} : ∀ {n : Nat} {o : List Int}, Good l o → Good l (placesF l n o)
  | 0, _, h => h
  | n + 1, o, h => by
    unfold Ytodgkjmkjahkiaa.placesF
    cases e : nextB l o with
    | none => exact h
    | some i =>
      have := leastR_spec e
      exact Good.placesF (h.push this.1 this.2)
theorem Good.places (l : List St) : Good l (placesB l) := Good.placesF Good.nil
theorem Good.nodup {l : List St} {o : List Int} (h : Good l o) : o.Nodup := by
  rw [List.nodup_iff_pairwise_ne, List.pairwise_iff_getElem]
  intro i j hi hj hij he
  have := (h j o[j] (List.getElem?_eq_getElem hj)).2.1
  exact this (by rw [← he]; exact List.mem_take_iff_getElem.2 ⟨i, by omega, rfl⟩)
theorem Good.lt {l : List St} {o : List Int} (h : Good l o) {x : Int} (hx : x ∈ o) : 0 ≤ x ∧ x < l.length := by
  obtain ⟨i, hi, rfl⟩ := List.getElem_of_mem hx
  exact (h i _ (List.getElem?_eq_getElem hi)).1
theorem len_le : ∀ (n : Nat) (o : List Int), o.Nodup → (∀ x, x ∈ o → 0 ≤ x ∧ x < n) → o.length ≤ n
  | 0, o, _, h => by
    cases o with
    | nil => exact Nat.le_refl _
    | cons x o => have := h x (by simp); omega
  | n + 1, o, hd, h => by
    have := len_le n (o.erase (n : Int)) (hd.erase _) (fun x hx => by
      have h1 := (List.Nodup.mem_erase_iff hd).1 hx
      have := h x h1.2
      omega)
    by_cases hm : (n : Int) ∈ o
    · have e := List.length_erase_of_mem hm
      omega
    · rw [List.erase_of_not_mem hm] at this
      omega
theorem Good.le {l : List St} {o : List Int} (h : Good l o) : o.length ≤ l.length := len_le _ _ h.nodup fun _ hx => h.lt hx
theorem Good.all {l : List St} {o : List Int} (h : Good l o) (hl : o.length = l.length) {i : Nat} (hi : i < l.length) : (i : Int) ∈ o := by
  by_cases hm : (i : Int) ∈ o
  · exact hm
  · have := len_le l.length ((i : Int) :: o) (by simp [hm, h.nodup]) (fun x hx => by
      rcases List.mem_cons.1 hx with rfl | hx
      · omega
      · exact h.lt hx)
    simp at this
    omega
theorem check_ok {l : List St} (h : checkB l = 0) : mayB l = true ∧ (placesB l).length = l.length := by
  unfold checkB at h
  have hg := (Good.places l).le
  cases e : mayB l with
  | false => rw [e] at h; simp at h
  | true =>
    rw [e] at h
    simp only [if_true] at h
    split at h
    · cases h
    · exact ⟨rfl, by omega⟩

/-! codes -/
def holdsB (e : Ed) (cs : List Int) : Bool :=
  if e.k = 0 then codeA cs e.s == 0 else if e.k = 2 then (!(codeA cs e.s == -1) && !(codeA cs e.s == 0) && !(codeA cs e.s == 256)) else !(codeA cs e.s == -1)
def failsB (e : Ed) (cs : List Int) : Bool := !(codeA cs e.s == -1) && !holdsB e cs
def ckB (l : List St) (cs : List Int) : Int := if checkB l = 0 then (if cs.length = l.length then (if allR (fun i => isW (codeA cs i) (-1) 256) cs.length then 0 else 5) else 5) else checkB l
def rdB (l : List St) (cs : List Int) (i : Nat) : Bool := codeA cs i == -1 && allR (fun k => holdsB (edA (stA l i).es k) cs) (stA l i).es.length
def readyB (l : List St) (cs : List Int) : List Int := filtR (rdB l cs) l.length
def doomB (l : List St) (cs : List Int) (p : Int) : Bool := codeA cs p == -1 && !allR (fun k => !failsB (edA (stA l p.toNat).es k) cs) (stA l p.toNat).es.length
def step1 (l : List St) (cs : List Int) (p : Int) : List Int := if doomB l cs p then cs.set p.toNat 256 else cs
def setl (l : List St) (cs : List Int) (o : List Int) : List Int := o.foldl (step1 l) cs
def settleB (l : List St) (cs : List Int) : List Int := setl l cs (placesB l)
theorem setl_push {l : List St} {cs o : List Int} {p : Int} : setl l cs (o ++ [p]) = step1 l (setl l cs o) p := by
  unfold setl
  rw [List.foldl_append]
  rfl
theorem holds_cong {e : Ed} {F G : List Int} (h : codeA F e.s = codeA G e.s) : holdsB e F = holdsB e G := by unfold holdsB; rw [h]
theorem fails_cong {e : Ed} {F G : List Int} (h : codeA F e.s = codeA G e.s) : failsB e F = failsB e G := by unfold failsB; rw [h, holds_cong h]
theorem holds_open {e : Ed} {cs : List Int} (h : holdsB e cs = true) : codeA cs e.s ≠ -1 := by
  intro h2
  unfold holdsB at h
  rw [h2] at h
  split at h
  · simp at h
  · split at h <;> simp at h
theorem code_set {cs : List Int} {p q : Int} {v : Int} (hp : 0 ≤ p) (hq : 0 ≤ q) (hl : p < cs.length) : codeA (cs.set p.toNat v) q = if p = q then v else codeA cs q := by
  unfold codeA
  rw [List.getD_eq_getElem?_getD, List.getD_eq_getElem?_getD, List.getElem?_set]
  by_cases h : p = q
  · subst h
    simp [(by omega : p.toNat < cs.length)]
  · rw [if_neg (by omega), if_neg h]
theorem step1_len {l : List St} {cs : List Int} {p : Int} : (step1 l cs p).length = cs.length := by
  unfold step1
  split <;> simp
theorem setl_len {l : List St} : ∀ {o cs : List Int}, (setl l cs o).length = cs.length
  | [], _ => rfl
  | p :: o, cs => by
    show (setl l (step1 l cs p) o).length = _
    rw [setl_len, step1_len]
/-- One edge of a step fails. -/
def anyF (l : List St) (F : List Int) (p : Int) : Prop := ∃ e, e ∈ (stA l p.toNat).es ∧ failsB e F = true
theorem anyF_iff {l : List St} {F : List Int} {p : Int} : allR (fun k => !failsB (edA (stA l p.toNat).es k) F) (stA l p.toNat).es.length = false ↔ anyF l F p := by
  rw [← Bool.not_eq_true, allE (f := fun e => !failsB e F)]
  unfold anyF
  constructor
  · intro h
    apply Classical.byContradiction
    intro h2
    apply h
    intro e he
    cases e2 : failsB e F with
    | false => rfl
    | true => exact absurd ⟨e, he, e2⟩ h2
  · rintro ⟨e, he, h⟩ h2
    have := h2 e he
    rw [h] at this
    cases this
theorem doom_iff {l : List St} {F : List Int} {p : Int} : doomB l F p = true ↔ codeA F p = -1 ∧ anyF l F p := by
  unfold doomB
  rw [← anyF_iff]
  simp
theorem step1_code {l : List St} {cs : List Int} {p q : Int} (hp : 0 ≤ p) (hq : 0 ≤ q) (hl : p < cs.length) :
    (p = q ∧ codeA cs p = -1 ∧ anyF l cs p ∧ codeA (step1 l cs p) q = 256) ∨ ((p = q → codeA cs p = -1 → ¬ anyF l cs p) ∧ codeA (step1 l cs p) q = codeA cs q) := by
  unfold step1
  cases e : doomB l cs p with
  | true =>
    have h := doom_iff.1 e
    simp only [if_true]
    rw [code_set hp hq hl]
    by_cases hpq : p = q
    · rw [if_pos hpq]
      exact .inl ⟨hpq, h.1, h.2, rfl⟩
    · rw [if_neg hpq]
      exact .inr ⟨fun h => absurd h hpq, rfl⟩
  | false =>
    simp only [Bool.false_eq_true, if_false]
    refine .inr ⟨fun _ h1 h2 => ?_, by first | rfl | trivial⟩
    rw [doom_iff.2 ⟨h1, h2⟩] at e
    cases e
/-- What codes are when all is settled. -/
def Form (l : List St) (cs F : List Int) (p : Int) : Prop := (codeA cs p ≠ -1 → codeA F p = codeA cs p) ∧ (codeA cs p = -1 → anyF l F p → codeA F p = 256) ∧ (codeA cs p = -1 → ¬ anyF l F p → codeA F p = -1)
def Fix (l : List St) (cs F : List Int) : Prop := F.length = cs.length ∧ ∀ p : Int, 0 ≤ p → p < l.length → Form l cs F p
theorem anyF_cong {l : List St} {F G : List Int} {p : Int} (h : ∀ e, e ∈ (stA l p.toNat).es → codeA F e.s = codeA G e.s) : anyF l F p ↔ anyF l G p := by
  unfold anyF
  constructor
  · rintro ⟨e, he, h1⟩
    exact ⟨e, he, (fails_cong (h e he)).symm.trans h1⟩
  · rintro ⟨e, he, h1⟩
    exact ⟨e, he, (fails_cong (h e he)).trans h1⟩
theorem form_same {l : List St} {cs F G : List Int} {p : Int} (hF : Form l cs F p) (hG : Form l cs G p) (h : anyF l F p ↔ anyF l G p) : codeA F p = codeA G p := by
  by_cases h1 : codeA cs p = -1
  · by_cases h2 : anyF l F p
    · rw [hF.2.1 h1 h2, hG.2.1 h1 (h.1 h2)]
    · rw [hF.2.2 h1 h2, hG.2.2 h1 (fun h3 => h2 (h.2 h3))]
  · rw [hF.1 h1, hG.1 h1]
theorem code_ext {F G : List Int} {n : Nat} (hF : F.length = n) (hG : G.length = n) (h : ∀ p : Int, 0 ≤ p → p < n → codeA F p = codeA G p) : F = G := by
  apply List.ext_getElem (by omega)
  intro i h1 h2
  have := h i (by omega) (by omega)
  unfold codeA at this
  rw [Int.toNat_natCast, List.getD_eq_getElem?_getD, List.getD_eq_getElem?_getD, List.getElem?_eq_getElem h1, List.getElem?_eq_getElem h2] at this
  exact this
/-- Settled in one way alone. -/
theorem fix_one {l : List St} {o cs F G : List Int} (hg : Good l o) (hl : o.length = l.length) (hc : cs.length = l.length) (hF : Fix l cs F) (hG : Fix l cs G) : F = G := by
  have key : ∀ (n i : Nat), i < n → ∀ x : Int, o[i]? = some x → codeA F x = codeA G x := by
    intro n
    induction n with
    | zero => intro i hi; omega
    | succ n ih =>
      intro i hi x hx
      obtain ⟨h1, h2, h3⟩ := hg i x hx
      refine form_same (hF.2 x h1.1 h1.2) (hG.2 x h1.1 h1.2) (anyF_cong fun e he => ?_)
      obtain ⟨j, hj, hje⟩ := List.mem_take_iff_getElem.1 (h3 e he)
      exact ih j (by omega) e.s (by rw [← hje]; exact List.getElem?_eq_getElem _)
  refine code_ext (n := l.length) (hF.1.trans hc) (hG.1.trans hc) fun p h1 h2 => ?_
  have hm := hg.all hl (i := p.toNat) (by omega)
  rw [Int.toNat_of_nonneg h1] at hm
  obtain ⟨i, hi, he⟩ := List.getElem_of_mem hm
  exact key (i + 1) i (by omega) p (by rw [← he]; exact List.getElem?_eq_getElem hi)
/-- Settled up to a place of the order. -/
structure Part (l : List St) (cs a F : List Int) : Prop where
  len : F.length = cs.length
  out : ∀ q : Int, 0 ≤ q → q < l.length → q ∉ a → codeA F q = codeA cs q
  inn : ∀ q : Int, q ∈ a → Form l cs F q
theorem Part.go {l : List St} {cs : List Int} (hc : cs.length = l.length) {o : List Int} (hg : Good l o) : ∀ n, n ≤ o.length → Part l cs (o.take n) (setl l cs (o.take n))
  | 0, _ => ⟨by simp [setl], fun q _ _ _ => by simp [setl], fun q h => by simp at h⟩
  | n + 1, hn => by
    have ih := Part.go hc hg n (by omega)
    have hx : o[n]? = some (o[n]) := List.getElem?_eq_getElem (by omega)
    obtain ⟨h1, h2, h3⟩ := hg n _ hx
    have ht : o.take (n + 1) = o.take n ++ [o[n]] := by rw [List.take_add_one, hx]; rfl
    have hp := h1.1
    have hpl : o[n] < (setl l cs (o.take n)).length := by rw [setl_len]; omega
    have away : ∀ q : Int, 0 ≤ q → q ≠ o[n] → codeA (step1 l (setl l cs (o.take n)) o[n]) q = codeA (setl l cs (o.take n)) q := by
      intro q hq hne
      rcases step1_code (l := l) (q := q) hp hq hpl with ⟨e, _⟩ | ⟨_, e⟩
      · exact absurd e.symm hne
      · exact e
    have edges : ∀ q : Int, q ∈ o.take (n + 1) → ∀ e, e ∈ (stA l q.toNat).es → 0 ≤ e.s ∧ e.s ≠ o[n] := by
      intro q hq e he
      obtain ⟨j, hj, rfl⟩ := List.mem_take_iff_getElem.1 hq
      have hjl : j < o.length := by omega
      have := (hg j o[j] (List.getElem?_eq_getElem hjl)).2.2 e he
      have hm : e.s ∈ o.take n := (List.take_subset_take_left o (by omega : j ≤ n)) this
      refine ⟨(hg.lt (List.mem_of_mem_take hm)).1, fun he2 => h2 (by rw [← he2]; exact hm)⟩
    rw [ht, setl_push, ← ht]
    refine ⟨by rw [step1_len]; exact ih.len, fun q hq hql hno => ?_, fun q hq => ?_⟩
    · rw [ht, List.mem_append, List.mem_singleton, not_or] at hno
      rw [away q hq hno.2]
      exact ih.out q hq hql hno.1
    · have same : anyF l (step1 l (setl l cs (o.take n)) o[n]) q ↔ anyF l (setl l cs (o.take n)) q :=
        anyF_cong fun e he => away e.s (edges q hq e he).1 (edges q hq e he).2
      have hq' := hq
      rw [ht, List.mem_append, List.mem_singleton] at hq'
      rcases hq' with hm | rfl
      · have hq0 := hg.lt (List.mem_of_mem_take hm)
        have hne : q ≠ o[n] := fun e => h2 (by rw [← e]; exact hm)
        have := ih.inn q hm
        unfold Form at this ⊢
        rw [same, away q hq0.1 hne]
        exact this
      · have ho := ih.out o[n] h1.1 h1.2 h2
        unfold Form
        rw [same]
        rcases step1_code (l := l) (q := o[n]) hp hp hpl with ⟨_, e1, e2, e3⟩ | ⟨e1, e2⟩
        · rw [ho] at e1
          exact ⟨fun h => absurd e1 h, fun _ _ => e3, fun _ h => absurd e2 h⟩
        · rw [e2, ho]
          exact ⟨fun _ => rfl, fun h1 h2 => absurd h2 (e1 rfl (ho.trans h1)), fun h1 _ => h1⟩
theorem settle_fix {l : List St} {cs : List Int} (hl : (placesB l).length = l.length) (hc : cs.length = l.length) : Fix l cs (settleB l cs) := by
  have h := Part.go hc (Good.places l) (placesB l).length (Nat.le_refl _)
  rw [List.take_length] at h
  refine ⟨h.len, fun p h1 h2 => h.inn p ?_⟩
  have hm := (Good.places l).all hl (i := p.toNat) (by omega)
  rwa [Int.toNat_of_nonneg h1] at hm
end Go.Proofs.Ytodgkjmkjahkiaa
