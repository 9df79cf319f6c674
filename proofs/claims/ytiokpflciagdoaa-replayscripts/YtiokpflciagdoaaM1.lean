/- Maps to numbers, as lists of keys and numbers, whatever the order: plain facts. -/
import Derived.Maps.OwnOps
import Derived.Maps.OwnSet
import Derived.Maps.Views
import Derived.Maps.RangeWalk
namespace Go.Proofs.Ytiokpflciagdoaa
open Go.Maps

section
variable {α : Type} [DecidableEq α] (kf : α → Lit)
def ent (p : α × Int) : Lit × DataW Unit := (kf p.1, .lit (.int .i64 p.2))
/-- The map reads as these keys and numbers. -/
def Tells (D : DataW Unit) (L : List (α × Int)) : Prop := ∃ es, D = .map es ∧ es.Perm (L.map (ent kf))
/-- Keys are keys, and differ. -/
structure KeyFn : Prop where
  key : ∀ a, WideAt.IsKeyLit (kf a)
  inj : ∀ a b, kf a = kf b → a = b
end
section
variable {α : Type} [DecidableEq α]
def Apart (L : List (α × Int)) : Prop := L.Pairwise fun p q => p.1 ≠ q.1
def hasL (L : List (α × Int)) (a : α) : Bool := L.any fun p => decide (p.1 = a)
def getL (L : List (α × Int)) (a : α) : Option Int := (L.find? fun p => decide (p.1 = a)).map (·.2)
def setL (L : List (α × Int)) (a : α) (u : Int) : List (α × Int) := L.map fun p => if p.1 = a then (a, u) else p
theorem getL_isSome (L : List (α × Int)) (a : α) : (getL L a).isSome = hasL L a := by
  unfold getL hasL
  rw [Option.isSome_map]
  induction L with
  | nil => rfl
  | cons p r ih =>
    by_cases h : p.1 = a
    · simp [h]
    · simp [h, ih]
theorem getL_none {L : List (α × Int)} {a : α} (h : hasL L a = false) : getL L a = none := by
  have := getL_isSome L a
  rw [h] at this
  simpa using this
theorem getL_mem {L : List (α × Int)} {a : α} {u : Int} (h : getL L a = some u) : (a, u) ∈ L := by
  unfold getL at h
  rw [Option.map_eq_some_iff] at h
  obtain ⟨p, hp, rfl⟩ := h
  have h1 := List.find?_some hp
  have h2 := List.mem_of_find?_eq_some hp
  simp only [decide_eq_true_eq] at h1
  rw [← h1]
  exact h2
theorem hasL_iff {L : List (α × Int)} {a : α} : hasL L a = true ↔ ∃ u, (a, u) ∈ L := by
  unfold hasL
  rw [List.any_eq_true]
  constructor
  · rintro ⟨p, hp, h⟩
    simp only [decide_eq_true_eq] at h
    exact ⟨p.2, by rw [← h]; exact hp⟩
  · rintro ⟨u, hu⟩
    exact ⟨_, hu, by simp⟩
theorem getL_of_mem {L : List (α × Int)} (hL : Apart L) {a : α} {u : Int} (h : (a, u) ∈ L) : getL L a = some u := by
  have h1 : (getL L a).isSome = true := by rw [getL_isSome]; exact hasL_iff.2 ⟨u, h⟩
  obtain ⟨u', hu⟩ := Option.isSome_iff_exists.1 h1
  have h2 := getL_mem hu
  rw [hu]
  congr 1
  induction L with
  | nil => cases h
  | cons p r ih =>
    obtain ⟨p1, p2⟩ := List.pairwise_cons.1 hL
    rcases List.mem_cons.1 h with e | e
    · rcases List.mem_cons.1 h2 with e' | e'
      · rw [← e] at e'
        exact (Prod.mk.inj e').2
      · exact absurd (by rw [← e]) (p1 _ e')
    · rcases List.mem_cons.1 h2 with e' | e'
      · exact absurd (by rw [← e']) (p1 _ e)
      · by_cases hpa : p.1 = a
        · exact absurd hpa (p1 _ e)
        · refine ih p2 e ?_ ?_ e'
          · rw [getL_isSome]; exact hasL_iff.2 ⟨u, e⟩
          · unfold getL at hu ⊢
            simpa [hpa] using hu
theorem filter_out {L : List (α × Int)} {a : α} (h : hasL L a = false) : L.filter (fun p => !decide (p.1 = a)) = L := by
  refine List.filter_eq_self.2 (fun p hp => ?_)
  have := List.any_eq_false.1 h p hp
  simpa using this
theorem setL_out {L : List (α × Int)} {a : α} {u : Int} (h : hasL L a = false) : setL L a u = L := by
  unfold setL
  conv => rhs; rw [← List.map_id L]
  refine List.map_congr_left (fun p hp => ?_)
  have := List.any_eq_false.1 h p hp
  rw [if_neg (by simpa using this)]
  rfl
theorem setL_perm {L : List (α × Int)} (hL : Apart L) {a : α} (u : Int) (h : hasL L a = true) : ((a, u) :: L.filter (fun p => !decide (p.1 = a))).Perm (setL L a u) := by
  induction L with
  | nil => cases h
  | cons p r ih =>
    obtain ⟨p1, p2⟩ := List.pairwise_cons.1 hL
    by_cases hpa : p.1 = a
    · have hr : hasL r a = false := by
        rw [Bool.eq_false_iff]
        intro h'
        obtain ⟨v, hv⟩ := hasL_iff.1 h'
        exact p1 _ hv hpa
      have e1 : (p :: r).filter (fun p => !decide (p.1 = a)) = r := by
        rw [List.filter_cons_of_neg (by simp [hpa]), filter_out hr]
      have e2 : setL (p :: r) a u = (a, u) :: r := by
        show (if p.1 = a then (a, u) else p) :: setL r a u = _
        rw [if_pos hpa, setL_out hr]
      rw [e1, e2]
    · have hr : hasL r a = true := by
        unfold hasL at h ⊢
        simpa [hpa] using h
      have e1 : (p :: r).filter (fun p => !decide (p.1 = a)) = p :: r.filter (fun p => !decide (p.1 = a)) := by
        rw [List.filter_cons_of_pos (by simp [hpa])]
      have e2 : setL (p :: r) a u = p :: setL r a u := by
        show (if p.1 = a then (a, u) else p) :: setL r a u = _
        rw [if_neg hpa]
      rw [e1, e2]
      exact (List.Perm.swap _ _ _).trans ((ih p2 hr).cons p)
theorem setL_length (L : List (α × Int)) (a : α) (u : Int) : (setL L a u).length = L.length := by simp [setL]
end

section
variable {α : Type} {kf : α → Lit} {D : DataW Unit} {L : List (α × Int)}
theorem tells_none : Tells kf (.map []) [] := ⟨[], rfl, List.Perm.refl _⟩
theorem Tells.size (h : Tells kf D L) : Maps.size D = L.length := by
  obtain ⟨es, rfl, hp⟩ := h
  rw [Maps.size_eq, hp.length_eq, List.length_map]
theorem same_kf [DecidableEq α] (K : KeyFn kf) (a b : α) : (kf a).sameKey (kf b) = decide (a = b) := by
  by_cases h : a = b
  · subst h; rw [WideAt.sameKey_self (K.key a)]; simp
  · rw [sameKey_ne (fun e => h (K.inj a b e))]; simp [h]
theorem Tells.has [DecidableEq α] (K : KeyFn kf) (h : Tells kf D L) (a : α) : Maps.has D (kf a) = hasL L a := by
  obtain ⟨es, rfl, hp⟩ := h
  rw [Maps.has_eq, Bool.eq_iff_iff, List.any_eq_true, hasL_iff]
  constructor
  · rintro ⟨p, h1, h2⟩
    obtain ⟨q, hq, rfl⟩ := List.mem_map.1 (hp.mem_iff.1 h1)
    have h3 : (kf q.1).sameKey (kf a) = true := h2
    rw [same_kf K] at h3
    simp only [decide_eq_true_eq] at h3
    exact ⟨q.2, by rw [← h3]; exact hq⟩
  · rintro ⟨u, hu⟩
    exact ⟨ent kf (a, u), hp.mem_iff.2 (List.mem_map.2 ⟨_, hu, rfl⟩), WideAt.sameKey_self (K.key a)⟩
theorem Tells.apart (h : Tells kf D L) {es : List (Lit × DataW Unit)} (hD : D = .map es) (hes : es.Pairwise fun p q => p.1 ≠ q.1) : Apart L := by
  obtain ⟨es', rfl, hp⟩ := h
  cases hD
  have h1 := (hp.pairwise_iff (R := fun p q : Lit × DataW Unit => p.1 ≠ q.1) (fun {_ _} hne => Ne.symm hne)).1 hes
  rw [List.pairwise_map] at h1
  exact h1.imp_of_mem fun _ _ hne e => hne (by show kf _ = kf _; rw [e])
theorem Tells.at_ [DecidableEq α] (K : KeyFn kf) (h : Tells kf D L) (hes : Tidy D) (a : α) : D.atKey (kf a) (.lit (.int .i64 0)) = .lit (.int .i64 ((getL L a).getD 0)) := by
  cases hg : getL L a with
  | none =>
    have h1 : hasL L a = false := by rw [← getL_isSome, hg]; rfl
    exact atKey_of_not_has (by rw [h.has K]; exact h1) _
  | some u =>
    obtain ⟨es, rfl, hp⟩ := h
    obtain ⟨es', e', hes⟩ := hes
    cases e'
    have hm : (kf a, DataW.lit (.int .i64 u)) ∈ es := hp.mem_iff.2 (List.mem_map.2 ⟨_, getL_mem hg, rfl⟩)
    exact WideAt.atKey_mem _ (K.key a) hes hm
theorem Tells.put_perm [DecidableEq α] (K : KeyFn kf) (h : Tells kf D L) (a : α) (u : Int) : ∃ es, D.put (kf a) (.lit (.int .i64 u)) = .map es ∧ es.Perm (((a, u) :: L.filter (fun p => !decide (p.1 = a))).map (ent kf)) := by
  obtain ⟨es, rfl, hp⟩ := h
  refine ⟨_, rfl, ?_⟩
  refine (WideShapes.insert_perm _ _).trans ?_
  rw [List.map_cons]
  refine List.Perm.cons _ ?_
  refine (hp.filter _).trans ?_
  rw [List.filter_map]
  have e : ((fun p : Lit × DataW Unit => !p.1.sameKey (kf a)) ∘ ent kf) = fun p : α × Int => !decide (p.1 = a) := by
    funext p
    show (!(kf p.1).sameKey (kf a)) = _
    rw [same_kf K]
  rw [e]
theorem Tells.put [DecidableEq α] (K : KeyFn kf) (h : Tells kf D L) {a : α} (u : Int) (ha : hasL L a = false) : Tells kf (D.put (kf a) (.lit (.int .i64 u))) (L ++ [(a, u)]) := by
  obtain ⟨es, e, hp⟩ := h.put_perm K a u
  refine ⟨es, e, hp.trans ?_⟩
  rw [filter_out ha]
  exact (List.perm_append_singleton _ _).symm.map _
theorem Tells.set [DecidableEq α] (K : KeyFn kf) (h : Tells kf D L) (hL : Apart L) {a : α} (u : Int) (ha : hasL L a = true) : Tells kf (D.put (kf a) (.lit (.int .i64 u))) (setL L a u) := by
  obtain ⟨es, e, hp⟩ := h.put_perm K a u
  exact ⟨es, e, hp.trans ((setL_perm hL u ha).map _)⟩

/-- What a datum's number is. -/
def numD : DataW Unit → Int
  | .lit (.int _ n) => n
  | _ => 0
/-- Those entries that are not over, or are still to come. -/
def Fs (es0 : List (Lit × DataW Unit)) (now : Int) (left : Lit → Bool) : DataW Unit := .map (es0.filter fun p => decide (now < numD p.2) || left p.1)
variable {es0 : List (Lit × DataW Unit)} {left : Lit → Bool} {now : Int}
theorem Fs_start (hkeys : ∀ p ∈ es0, WideAt.IsKeyLit p.1) : Fs es0 now (Maps.has (.map es0)) = .map es0 := by
  unfold Fs
  rw [List.filter_eq_self.2 (fun p hp => by
    have : Maps.has (DataW.map es0) p.1 = true := List.any_eq_true.2 ⟨p, hp, WideAt.sameKey_self (hkeys p hp)⟩
    simp [this])]
theorem Fs_end (hl : ∀ kl, left kl = false) : Fs es0 now left = .map (es0.filter fun p => decide (now < numD p.2)) := by
  unfold Fs
  congr 1
  exact List.filter_congr (fun p _ => by simp [hl])
theorem at_came (hap : es0.Pairwise (fun p q => p.1 ≠ q.1)) {kl : Lit} (hk : WideAt.IsKeyLit kl) (hlk : left kl = true) {d : DataW Unit} (hat : ∀ zd, (Fs es0 now left).atKey kl zd = d) : ∀ p ∈ es0, p.1 = kl → p.2 = d := by
  intro p hp hpk
  have hm : (kl, p.2) ∈ es0.filter fun p => decide (now < numD p.2) || left p.1 := List.mem_filter.2 ⟨by rw [← hpk]; exact hp, by simp [hlk]⟩
  exact (WideAt.atKey_mem .nil hk (hap.filter _) hm).symm.trans (hat .nil)
theorem Fs_struck (hap : es0.Pairwise (fun p q => p.1 ≠ q.1)) {kl : Lit} (hk : WideAt.IsKeyLit kl) (hlk : left kl = true) {c : Int} (hc0 : c ≤ now) (hat : ∀ zd, (Fs es0 now left).atKey kl zd = .lit (.int .i64 c)) : (Fs es0 now left).del kl = Fs es0 now (fun z => left z && !z.sameKey kl) := by
  have hc := at_came hap hk hlk hat
  show DataW.map ((es0.filter fun p => decide (now < numD p.2) || left p.1).filter fun p => !p.1.sameKey kl) = _
  unfold Fs
  rw [List.filter_filter]
  congr 1
  refine List.filter_congr (fun p hp => ?_)
  cases hs : p.1.sameKey kl
  · simp [hs]
  · have : ¬ now < c := by omega
    simp [hs, hc p hp (WideAt.sameKey_eq hs), numD, this]
theorem Fs_stays (hap : es0.Pairwise (fun p q => p.1 ≠ q.1)) {kl : Lit} (hk : WideAt.IsKeyLit kl) (hlk : left kl = true) {c : Int} (hc0 : now < c) (hat : ∀ zd, (Fs es0 now left).atKey kl zd = .lit (.int .i64 c)) : Fs es0 now left = Fs es0 now (fun z => left z && !z.sameKey kl) := by
  have hc := at_came hap hk hlk hat
  unfold Fs
  congr 1
  refine List.filter_congr (fun p hp => ?_)
  cases hs : p.1.sameKey kl
  · simp [hs]
  · simp [hs, hc p hp (WideAt.sameKey_eq hs), numD, hc0]
/-- What lasts. -/
def keep (now : Int) (L : List (α × Int)) : List (α × Int) := L.filter fun p => decide (now < p.2)
theorem Tells.keep {es0 : List (Lit × DataW Unit)} (h : Tells kf (.map es0) L) (now : Int) : Tells kf (.map (es0.filter fun p => decide (now < numD p.2))) (keep now L) := by
  obtain ⟨es, e, hp⟩ := h
  cases e
  refine ⟨_, rfl, (hp.filter _).trans ?_⟩
  rw [List.filter_map]
  exact List.Perm.refl _
/-- The bound on how many entries there are is how many there are. -/
theorem tight {P : Program} {k : TypeId} {R : Value → Option (DataW Unit × List MemPlace)} {w : World} {b n : Nat} (h : w.ownsMap P k R b n D) (hT : Tells kf D L) : w.ownsMap P k R b L.length D := by
  have hs := hT.size
  obtain ⟨es, clock, hb, F, _, hD⟩ := h
  refine ⟨es, clock, hb, F, ?_, hD⟩
  rw [← hs, hD]
  simp [Maps.size, length_sorted]
end
end Go.Proofs.Ytiokpflciagdoaa
