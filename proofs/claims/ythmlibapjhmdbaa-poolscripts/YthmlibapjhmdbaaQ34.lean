/- Cores that are apart, as plain facts. -/
import Derived.Test.YthmlibapjhmdbaaQ24
import Derived.Test.YthmlibapjhmdbaaQ20
namespace Go.Proofs.Ythmlibapjhmdbaa
open Go.RowKit Go.Shelf Go.Maps

theorem has_land {a b : List Nat} (ha : Mk.W4 a) (hb : Mk.W4 b) {d : Nat} (hd : d < 256) : Mk.hasB (zw Nat.land a b) d = (Mk.hasB a d && Mk.hasB b d) := by
  unfold Mk.hasB
  rw [zw_nth ha.1 hb.1 (by omega)]
  exact Nat.testBit_and _ _ _
theorem land_W4 {a b : List Nat} (ha : Mk.W4 a) (hb : Mk.W4 b) : Mk.W4 (zw Nat.land a b) := by
  refine ⟨zw_len ha.1 hb.1, fun i => ?_⟩
  by_cases hi : i < 4
  · rw [zw_nth ha.1 hb.1 hi]; exact Nat.and_lt_two_pow _ (hb.2 i)
  · rw [Mk.nth_getElem?, List.getElem?_eq_none (by rw [zw_len ha.1 hb.1]; omega)]; exact Nat.two_pow_pos 64
/-- Nobody has what somebody else has, and all is of these. -/
structure Apt (A : List Nat) (g : Int → Option Sh) : Prop where
  apart : ∀ n m c d, n ≠ m → g n = some c → g m = some d → ∀ x, x < 256 → Mk.hasB c.m x = true → Mk.hasB d.m x = false
  in_ : ∀ n c, g n = some c → ∀ x, x < 256 → Mk.hasB c.m x = true → Mk.hasB A x = true
theorem Apt.none (A : List Nat) : Apt A (fun _ => Option.none) := ⟨fun _ _ _ _ _ h => (by cases h), fun _ _ h => (by cases h)⟩
theorem Apt.put {A : List Nat} {g : Int → Option Sh} (h : Apt A g) (n : Int) {c : Sh} (hc : ∀ x, x < 256 → Mk.hasB c.m x = true → Mk.hasB (freeM A g) x = true) : Apt A (fun m => if m = n then some c else g m) := by
  refine ⟨fun i j a b hij ha hb x hx hax => ?_, fun i a ha x hx hax => ?_⟩
  · by_cases e1 : i = n
    · have e2 : ¬ j = n := fun e => hij (e1.trans e.symm)
      simp only [if_pos e1] at ha
      simp only [if_neg e2] at hb
      cases ha
      exact ((freeM_has A g hx).1 (hc x hx hax)).2 j b hb
    · simp only [if_neg e1] at ha
      by_cases e2 : j = n
      · simp only [if_pos e2] at hb
        cases hb
        cases hq : Mk.hasB c.m x with
        | false => rfl
        | true =>
          have := ((freeM_has A g hx).1 (hc x hx hq)).2 i a ha
          rw [hax] at this
          cases this
      · simp only [if_neg e2] at hb
        exact h.apart i j a b hij ha hb x hx hax
  · by_cases e1 : i = n
    · simp only [if_pos e1] at ha
      cases ha
      exact ((freeM_has A g hx).1 (hc x hx hax)).1
    · simp only [if_neg e1] at ha
      exact h.in_ i a ha x hx hax
theorem Apt.less {A : List Nat} {g f : Int → Option Sh} (h : Apt A g) (hf : ∀ n c, f n = some c → ∃ d, g n = some d ∧ d.m = c.m) : Apt A f := by
  refine ⟨fun i j a b hij ha hb x hx hax => ?_, fun i a ha x hx hax => ?_⟩
  · obtain ⟨a', h1, h2⟩ := hf i a ha
    obtain ⟨b', h3, h4⟩ := hf j b hb
    rw [← h4]
    exact h.apart i j a' b' hij h1 h3 x hx (by rw [h2]; exact hax)
  · obtain ⟨a', h1, h2⟩ := hf i a ha
    exact h.in_ i a' h1 x hx (by rw [h2]; exact hax)
theorem Apt.del {A : List Nat} {g : Int → Option Sh} (h : Apt A g) (n : Int) : Apt A (fun m => if m = n then Option.none else g m) :=
  h.less fun i c hc => by
    by_cases e : i = n
    · simp only [if_pos e] at hc; cases hc
    · simp only [if_neg e] at hc; exact ⟨c, hc, rfl⟩
theorem Apt.commit {A : List Nat} {g : Int → Option Sh} (h : Apt A g) {n : Int} {c : Sh} (hc : g n = some c) : Apt A (fun m => if m = n then some ⟨c.m, true, c.ok⟩ else g m) :=
  h.less fun i d hd => by
    by_cases e : i = n
    · simp only [if_pos e] at hd; cases hd; exact ⟨c, by rw [e]; exact hc, rfl⟩
    · simp only [if_neg e] at hd; exact ⟨d, hd, rfl⟩
/-- What is free, with the cores of the first owners. -/
def accM (A : List Nat) (g : Int → Option Sh) (L : List Int) (j : Nat) : List Nat := Mk.ofL ((List.range 256).filter fun x => Mk.hasB A x && (L.drop j).all fun n => !Mk.hasB ((g n).getD Sh.none).m x)
theorem flt (p : Nat → Bool) : ∀ x ∈ (List.range 256).filter p, x < 256 := fun x hx => by simpa using (List.mem_filter.1 hx).1
theorem accM_W4 (A : List Nat) (g : Int → Option Sh) (L : List Int) (j : Nat) : Mk.W4 (accM A g L j) := Mk.ofL_W4 (flt _)
theorem accM_has (A : List Nat) (g : Int → Option Sh) (L : List Int) (j : Nat) {x : Nat} (hx : x < 256) : Mk.hasB (accM A g L j) x = (Mk.hasB A x && (L.drop j).all fun n => !Mk.hasB ((g n).getD Sh.none).m x) := by
  unfold accM
  rw [Mk.has_ofL (flt _), Bool.eq_iff_iff, decide_eq_true_eq, List.mem_filter, List.mem_range]
  exact ⟨fun h => h.2, fun h => ⟨hx, h⟩⟩
theorem accM_zero {A : List Nat} {g : Int → Option Sh} {L : List Int} {k : Nat} (h : Own g L k) : accM A g L 0 = freeM A g :=
  Mk.ext (accM_W4 A g L 0) (freeM_W4 A g) fun x hx => by
    rw [Bool.eq_iff_iff, accM_has A g L 0 hx, freeM_has A g hx, Bool.and_eq_true, List.all_eq_true, List.drop_zero]
    refine and_congr Iff.rfl ⟨fun ha n sh hn => ?_, fun ha n hn => ?_⟩
    · have := ha n ((h.has n).2 (by rw [hn]; rfl))
      rw [hn] at this
      simpa using this
    · have hs := (h.has n).1 hn
      obtain ⟨sh, e⟩ := Option.isSome_iff_exists.1 hs
      have := ha n sh e
      rw [e]
      simpa using this
theorem accM_end {A : List Nat} (hA : Mk.W4 A) (g : Int → Option Sh) (L : List Int) : accM A g L L.length = A :=
  Mk.ext (accM_W4 A g L _) hA fun x hx => by rw [accM_has A g L _ hx]; simp
theorem acc_drop {L : List Int} {j : Nat} {n : Int} (h : L[j]? = some n) : L.drop j = n :: L.drop (j + 1) := by
  obtain ⟨hj, rfl⟩ := List.getElem?_eq_some_iff.1 h
  exact List.drop_eq_getElem_cons hj
theorem accM_and {A : List Nat} {g : Int → Option Sh} {L : List Int} {j : Nat} {n : Int} (h : L[j]? = some n) : zw Nat.land ((g n).getD Sh.none).m (accM A g L j) = Mk.zero :=
  Mk.ext (land_W4 ((g n).getD Sh.none).ok (accM_W4 A g L j)) Mk.W4.zero fun x hx => by
    rw [has_land ((g n).getD Sh.none).ok (accM_W4 A g L j) hx, accM_has A g L j hx, acc_drop h, Mk.has_zero, List.all_cons]
    cases Mk.hasB ((g n).getD Sh.none).m x <;> simp
theorem accM_or {A : List Nat} {g : Int → Option Sh} {L : List Int} {k : Nat} (ho : Own g L k) (ha : Apt A g) {j : Nat} {n : Int} (h : L[j]? = some n) : zw Nat.lor (accM A g L j) ((g n).getD Sh.none).m = accM A g L (j + 1) :=
  Mk.ext (lor_W4 (accM_W4 A g L j) ((g n).getD Sh.none).ok) (accM_W4 A g L (j + 1)) fun x hx => by
    rw [has_orN (accM_W4 A g L j) ((g n).getD Sh.none).ok hx, accM_has A g L j hx, accM_has A g L (j + 1) hx, acc_drop h]
    cases hm : Mk.hasB ((g n).getD Sh.none).m x with
    | false => simp [hm]
    | true =>
      obtain ⟨sh, e⟩ := Option.isSome_iff_exists.1 ((ho.has n).1 (List.mem_of_getElem? h))
      rw [e] at hm
      have hA := ha.in_ n sh e x hx hm
      have hall : ((L.drop (j + 1)).all fun n => !Mk.hasB ((g n).getD Sh.none).m x) = true := by
        rw [List.all_eq_true]
        intro i hi
        have hne : n ≠ i := by
          have := ho.up.sublist (List.drop_sublist j L)
          rw [acc_drop h] at this
          have := (List.pairwise_cons.1 this).1 i hi
          omega
        cases hgi : g i with
        | none => simp [Sh.none, Mk.has_zero]
        | some c => simpa using ha.apart n i sh c hne e hgi x hx hm
      rw [hA, hall]
      simp
theorem own_has_some {g : Int → Option Sh} {L : List Int} {k : Nat} (ho : Own g L k) {j : Nat} {n : Int} (h : L[j]? = some n) : ((g n).getD Sh.none).m ≠ Mk.zero := by
  obtain ⟨sh, e⟩ := Option.isSome_iff_exists.1 ((ho.has n).1 (List.mem_of_getElem? h))
  rw [e]
  exact ho.some_ n sh e
/-- What is free, once somebody is given cores that were free. -/
theorem freeM_put {A : List Nat} {g : Int → Option Sh} {n : Int} {c : Sh} (hn : (g n).isSome = false) : freeM A (fun m => if m = n then some c else g m) = zw andN (freeM A g) c.m :=
  Mk.ext (freeM_W4 A _) (andN_W4 (freeM_W4 A g) c.ok) fun x hx => by
    rw [Bool.eq_iff_iff, freeM_has A _ hx, has_andN (freeM_W4 A g) c.ok hx, Bool.and_eq_true, freeM_has A g hx]
    constructor
    · rintro ⟨h1, h2⟩
      refine ⟨⟨h1, fun m sh hm => ?_⟩, ?_⟩
      · by_cases e : m = n
        · subst e; rw [hm] at hn; cases hn
        · exact h2 m sh (by rw [if_neg e]; exact hm)
      · have := h2 n c (by rw [if_pos rfl])
        simp [this]
    · rintro ⟨⟨h1, h2⟩, h3⟩
      refine ⟨h1, fun m sh hm => ?_⟩
      by_cases e : m = n
      · rw [if_pos e] at hm; cases hm; simpa using h3
      · rw [if_neg e] at hm; exact h2 m sh hm
end Go.Proofs.Ythmlibapjhmdbaa
