/- Plain facts on what is taken back. -/
import Derived.Test.YtiokpflciagdoaaR0
namespace Go.Proofs.Ytiokpflciagdoaa
open Go.RowKit Go.Maps

section
variable {α : Type} [DecidableEq α]
theorem getL_setL {T : List (α × Int)} {a b : α} {u : Int} : getL (setL T a u) b = if b = a then (if hasL T a then some u else none) else getL T b := by
  induction T with
  | nil => by_cases h : b = a <;> simp [getL, setL, hasL, h]
  | cons p r ih =>
    have e1 : setL (p :: r) a u = (if p.1 = a then (a, u) else p) :: setL r a u := rfl
    rw [e1]
    by_cases hpa : p.1 = a
    · rw [if_pos hpa]
      by_cases hba : b = a
      · subst hba
        simp [getL, hasL, hpa]
      · have h1 : ¬ a = b := fun e => hba e.symm
        have h2 : ¬ p.1 = b := fun e => hba (by rw [← e, hpa])
        have e2 : getL ((a, u) :: setL r a u) b = getL (setL r a u) b := by simp [getL, h1]
        have e3 : getL (p :: r) b = getL r b := by simp [getL, h2]
        rw [e2, e3, ih, if_neg hba, if_neg hba]
    · rw [if_neg hpa]
      have e4 : hasL (p :: r) a = hasL r a := by simp [hasL, hpa]
      rw [e4]
      by_cases hpb : p.1 = b
      · have hba : ¬ b = a := fun e => hpa (by rw [hpb, e])
        rw [if_neg hba]
        simp [getL, hpb]
      · have e2 : getL (p :: setL r a u) b = getL (setL r a u) b := by simp [getL, hpb]
        have e3 : getL (p :: r) b = getL r b := by simp [getL, hpb]
        rw [e2, e3, ih]
theorem getL_append {T : List (α × Int)} {a b : α} {u : Int} (h : hasL T a = false) : getL (T ++ [(a, u)]) b = if b = a then some u else getL T b := by
  by_cases hba : b = a
  · subst hba
    rw [if_pos rfl]
    unfold getL
    rw [List.find?_append]
    have : T.find? (fun p => decide (p.1 = b)) = none := by
      have h2 := getL_none h
      unfold getL at h2
      simpa using h2
    rw [this]
    simp
  · rw [if_neg hba]
    unfold getL
    rw [List.find?_append]
    have : [(a, u)].find? (fun p => decide (p.1 = b)) = none := by
      have h1 : ¬ a = b := fun e => hba e.symm
      simp [h1]
    rw [this]
    simp
end
theorem revB_get (T : List (Jb × Int)) (j : Jb) (e : Int) : revB T j e = match getL T j with | some g => decide (e ≤ g) | none => false := by
  unfold revB
  cases hg : getL T j with
  | none =>
    have : hasL T j = false := by rw [← getL_isSome, hg]; rfl
    rw [this]
    rfl
  | some g =>
    have : hasL T j = true := by rw [← getL_isSome, hg]; rfl
    rw [this]
    rfl
/-- What is taken back stays so. -/
theorem revB_stays {T : List (Jb × Int)} {j : Jb} {e : Int} (h : revB T j e = true) (j' : Jb) (e' : Int) : revB (revOf T j' e').2 j e = true := by
  unfold revOf
  split
  · exact h
  · rw [revB_get] at h ⊢
    cases hg' : getL T j' with
    | some g' =>
      have hh : hasL T j' = true := by rw [← getL_isSome, hg']; rfl
      show (match getL (setL T j' (max g' e')) j with | some g => decide (e ≤ g) | none => false) = true
      rw [getL_setL]
      by_cases hj : j = j'
      · subst hj
        rw [hg'] at h
        rw [if_pos rfl, hh]
        simp only [decide_eq_true_eq] at h
        show decide (e ≤ max g' e') = true
        simp only [decide_eq_true_eq]
        omega
      · rw [if_neg hj]
        exact h
    | none =>
      have hh : hasL T j' = false := by rw [← getL_isSome, hg']; rfl
      show (match getL (if 64 ≤ T.length then ((6 : Int), T) else (0, T ++ [(j', e')])).2 j with | some g => decide (e ≤ g) | none => false) = true
      by_cases h64 : 64 ≤ T.length
      · rw [if_pos h64]
        exact h
      · rw [if_neg h64]
        show (match getL (T ++ [(j', e')]) j with | some g => decide (e ≤ g) | none => false) = true
        rw [getL_append hh]
        by_cases hj : j = j'
        · subst hj
          rw [hg'] at h
          cases h
        · rw [if_neg hj]
          exact h
/-- One job, taken back first. -/
theorem revB_first {j : Jb} {e ep : Int} (h : (revOf [] j ep).1 = 0) (he : e ≤ ep) : revB (revOf [] j ep).2 j e = true := by
  unfold revOf at h ⊢
  split at h
  · cases h
  · rename_i hb
    rw [if_neg hb]
    show revB (if 64 ≤ ([] : List (Jb × Int)).length then ((6 : Int), []) else (0, [] ++ [(j, ep)])).2 j e = true
    rw [if_neg (by simp)]
    simp [revB, hasL, getL, he]
/-- What is taken back is not used. -/
theorem useOf_back {ok : Bool} {most : Int} {L : List (Pl × Int)} {T : List (Jb × Int)} {x : Pl} {u now : Int} (h : revB T x.jb x.e = true) : useOf ok most L T x u now = (if ok = false then 1 else if u ≤ now then 8 else 11, L) := by
  unfold useOf
  by_cases h1 : ok = false
  · rw [if_pos h1, if_pos h1]
  · rw [if_neg h1, if_neg h1]
    by_cases h2 : u ≤ now
    · rw [if_pos h2, if_pos h2]
    · rw [if_neg h2, if_neg h2, if_pos h]
section
variable {w V : World} {g p bk bt : Nat} {cs : Array Value} {most : Int} {L : List (Pl × Int)} {T : List (Jb × Int)}
theorem Rm.revoked (st : Rm w V g p bk bt cs most L T) (x : Cr) (hx : CrAt w x) :
    Calls Try.prog 16 #[.pointer (some ⟨p, 0, none⟩), .agg #[.int .i64 x.j, .int .i64 x.e, .int .i64 x.s, .int .i64 x.f, .int .i64 x.u, .slice x.A x.n x.cap, .int .i64 x.c]] V fun e w' => e = .returned (.bool (revB T (x.pl hx.pk).jb x.e)) ∧ Rm w w' g p bk bt cs most L T :=
  (revoked_any st.cache (x.pl hx.pk).jb x.e x.s x.f x.u x.A x.n x.cap x.c).mono fun _ _ ⟨he, hb⟩ => ⟨he, st.next hb⟩
theorem Rm.used (st : Rm w V g p bk bt cs most L T) (x : Cr) (hx : CrAt w x) (now : Int) :
    Calls Try.prog 14 #[.pointer (some ⟨p, 0, none⟩), .agg #[.int .i64 x.j, .int .i64 x.e, .int .i64 x.s, .int .i64 x.f, .int .i64 x.u, .slice x.A x.n x.cap, .int .i64 x.c], .int .i64 now] V fun e w' => e = .returned (.bool (usedB L (x.pl hx.pk) now)) ∧ Rm w w' g p bk bt cs most L T :=
  (used_any st.cache (x.pl hx.pk) x.f x.u x.A x.n x.cap x.c now).mono fun _ _ ⟨he, hb⟩ => ⟨he, st.next hb⟩
end
end Go.Proofs.Ytiokpflciagdoaa
