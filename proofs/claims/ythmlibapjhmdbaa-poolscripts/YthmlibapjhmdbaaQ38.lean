/- Both pools say the same, as plain facts. -/
import Derived.Test.YthmlibapjhmdbaaQ36
namespace Go.Proofs.Ythmlibapjhmdbaa
open Go.RowKit Go.Shelf Go.Maps

theorem hv_mem {Ow : List Int} {n : Int} {k x : Nat} : x ∈ hv Ow n k ↔ x < k ∧ Ow[x]? = some n := by
  unfold hv
  rw [List.mem_filter, List.mem_range, decide_eq_true_eq]
theorem gv_get (m : List Nat) (n : Int) (Ow : List Int) (x : Nat) (hx : x < Ow.length) : ∀ k, (gv m n Ow k)[x]? = if x < k ∧ Mk.hasB m x = true then some n else Ow[x]?
  | 0 => by simp [gv]
  | k + 1 => by
    have ih := gv_get m n Ow x hx k
    unfold gv
    by_cases hk : Mk.hasB m k = true
    · rw [if_pos hk, List.getElem?_set]
      by_cases e : k = x
      · subst e
        rw [if_pos rfl, gv_len, if_pos hx, if_pos ⟨by omega, hk⟩]
      · rw [if_neg e, ih]
        by_cases hc : Mk.hasB m x = true
        · by_cases hlt : x < k
          · rw [if_pos ⟨hlt, hc⟩, if_pos ⟨by omega, hc⟩]
          · rw [if_neg (fun h => hlt h.1), if_neg (fun h => by omega)]
        · rw [if_neg (fun h => hc h.2), if_neg (fun h => hc h.2)]
    · rw [if_neg hk, ih]
      by_cases hc : Mk.hasB m x = true
      · have e : x ≠ k := fun e => hk (e ▸ hc)
        by_cases hlt : x < k
        · rw [if_pos ⟨hlt, hc⟩, if_pos ⟨by omega, hc⟩]
        · rw [if_neg (fun h => hlt h.1), if_neg (fun h => by omega)]
      · rw [if_neg (fun h => hc h.2), if_neg (fun h => hc h.2)]
theorem gvs_len (n : Int) (na : Nat) : ∀ (ms : List (List Nat)) (Ow : List Int), (gvs ms n Ow na).length = Ow.length
  | [], _ => rfl
  | m :: ms, Ow => (gvs_len n na ms (gv m n Ow na)).trans (gv_len m n Ow na)
theorem gvs_get (n : Int) (na x : Nat) : ∀ (ms : List (List Nat)) (Ow : List Int), x < Ow.length → x < na → (gvs ms n Ow na)[x]? = if ∃ m, m ∈ ms ∧ Mk.hasB m x = true then some n else Ow[x]?
  | [], Ow, _, _ => by simp [gvs]
  | m :: ms, Ow, hx, hk => by
    have ih := gvs_get n na x ms (gv m n Ow na) (by rw [gv_len]; exact hx) hk
    show (gvs ms n (gv m n Ow na) na)[x]? = _
    rw [ih, gv_get m n Ow x hx na]
    by_cases h1 : ∃ m, m ∈ ms ∧ Mk.hasB m x = true
    · obtain ⟨m', h2, h3⟩ := h1
      rw [if_pos ⟨m', h2, h3⟩, if_pos ⟨m', List.mem_cons_of_mem _ h2, h3⟩]
    · rw [if_neg h1]
      by_cases h2 : Mk.hasB m x = true
      · rw [if_pos ⟨hk, h2⟩, if_pos ⟨m, List.mem_cons_self, h2⟩]
      · rw [if_neg (fun h => h2 h.2), if_neg]
        rintro ⟨m', h3, h4⟩
        rcases List.mem_cons.1 h3 with rfl | h3
        · exact h2 h4
        · exact h1 ⟨m', h3, h4⟩
/-- Both say the same: of N cores, who has which; who committed. -/
structure Agr (N : Nat) (g : Int → Option Sh) (Ow Dn : List Int) : Prop where
  len : Ow.length = N
  own : ∀ x n, x < N → 0 ≤ n → (Ow[x]? = some n ↔ ∃ c, g n = some c ∧ Mk.hasB c.m x = true)
  free : ∀ x, x < N → (Ow[x]? = some (-1) ↔ ∀ n c, g n = some c → Mk.hasB c.m x = false)
  done : ∀ n, n ∈ Dn ↔ ∃ c, g n = some c ∧ c.t = true
  isO : ∀ n c, g n = some c → isOwn n = true
  apt : Apt (Mk.ofL (List.range N)) g
  some_ : ∀ n c, g n = some c → c.m ≠ Mk.zero
theorem isOwn_ge {n : Int} (h : isOwn n = true) : 0 ≤ n := by
  unfold isOwn at h
  simp at h
  omega
theorem Agr.start (N : Nat) : Agr N (fun _ => none) (List.replicate N (-1)) [] := by
  refine ⟨by simp, fun x n hx hn => ?_, fun x hx => ?_, fun n => by simp, fun n c h => (by cases h), Apt.none _, fun n c h => (by cases h)⟩
  · rw [List.getElem?_replicate, if_pos hx]
    constructor
    · intro e
      cases e
      omega
    · rintro ⟨c, h, _⟩
      cases h
  · rw [List.getElem?_replicate, if_pos hx]
    exact ⟨fun _ n c h => (by cases h), fun _ => rfl⟩
section
variable {N : Nat} {g : Int → Option Sh} {Ow Dn : List Int}
theorem Agr.inN (h : Agr N g Ow Dn) (hN : N ≤ 256) {n : Int} {c : Sh} (hc : g n = some c) {x : Nat} (hx : x < 256) (hb : Mk.hasB c.m x = true) : x < N := by
  have := h.apt.in_ n c hc x hx hb
  rw [Mk.has_ofL (fun y hy => by have := List.mem_range.1 hy; omega), decide_eq_true_eq, List.mem_range] at this
  exact this
/-- The cores of an owner, of both. -/
theorem Agr.of (h : Agr N g Ow Dn) (hN : N ≤ 256) {n : Int} (hn : 0 ≤ n) : Mk.ofL (hv Ow n N) = ((g n).getD Sh.none).m :=
  Mk.ext (Mk.ofL_W4 (hv_lt hN)) ((g n).getD Sh.none).ok fun x hx => by
    rw [Mk.has_ofL (hv_lt hN), Bool.eq_iff_iff, decide_eq_true_eq, hv_mem]
    constructor
    · rintro ⟨h1, h2⟩
      obtain ⟨c, h3, h4⟩ := (h.own x n h1 hn).1 h2
      rw [h3]
      exact h4
    · intro h1
      cases hg : g n with
      | none => rw [hg] at h1; simp [Sh.none, Mk.has_zero] at h1
      | some c =>
        rw [hg] at h1
        have hlt := h.inN hN hg hx h1
        exact ⟨hlt, (h.own x n hlt hn).2 ⟨c, hg, h1⟩⟩
/-- The free ones, of both. -/
theorem Agr.fr (h : Agr N g Ow Dn) (hN : N ≤ 256) : Mk.ofL (hv Ow (-1) N) = freeM (Mk.ofL (List.range N)) g :=
  Mk.ext (Mk.ofL_W4 (hv_lt hN)) (freeM_W4 _ g) fun x hx => by
    rw [Mk.has_ofL (hv_lt hN), Bool.eq_iff_iff, decide_eq_true_eq, hv_mem, freeM_has _ g hx, Mk.has_ofL (fun y hy => by have := List.mem_range.1 hy; omega), decide_eq_true_eq, List.mem_range]
    exact ⟨fun h1 => ⟨h1.1, (h.free x h1.1).1 h1.2⟩, fun h1 => ⟨h1.1, (h.free x h1.1).2 h1.2⟩⟩
theorem Agr.rh (h : Agr N g Ow Dn) (hN : N ≤ 256) (n : Int) : rh Ow n = (g n).isSome := by
  unfold Ythmlibapjhmdbaa.rh
  rw [h.len]
  cases ho : isOwn n with
  | false =>
    cases hg : g n with
    | none => rfl
    | some c => rw [h.isO n c hg] at ho; cases ho
  | true =>
    rw [h.of hN (isOwn_ge ho)]
    cases hg : g n with
    | none => simp [Sh.none]
    | some c => simp [h.some_ n c hg]
theorem Agr.rs (h : Agr N g Ow Dn) (hN : N ≤ 256) {s q : Nat} (hs : s * q = N) (n r pe d : Int) : rrE s q Ow N n r pe d = rsE s q g n r pe d := by
  unfold rrE rsE
  rw [h.rh hN, h.fr hN, hs]
theorem Agr.tk (h : Agr N g Ow Dn) (hN : N ≤ 256) {s q : Nat} (hs : s * q = N) (n : Int) (m : List Nat) : rtE Ow n m = tkE s q g n m := by
  unfold rtE tkE
  rw [h.rh hN, h.len, h.fr hN, hs]
/-- Somebody is given cores that were free. -/
theorem Agr.put (h : Agr N g Ow Dn) (hN : N ≤ 256) {n : Int} {c : Sh} (hg : (g n).isSome = false) (ho : isOwn n = true) (hc : c.m ≠ Mk.zero) (hf : ∀ x, x < 256 → Mk.hasB c.m x = true → Mk.hasB (freeM (Mk.ofL (List.range N)) g) x = true) {Ow' Dn' : List Int} (hl : Ow'.length = N) (hO : ∀ x, x < N → Ow'[x]? = if Mk.hasB c.m x = true then some n else Ow[x]?) (hD : ∀ k, k ∈ Dn' ↔ k ∈ Dn ∨ (k = n ∧ c.t = true)) :
    Agr N (fun m => if m = n then some c else g m) Ow' Dn' := by
  have hn := isOwn_ge ho
  refine ⟨hl, fun x k hx hk => ?_, fun x hx => ?_, fun k => ?_, fun k d hd => ?_, h.apt.put n hf, fun k d hd => ?_⟩
  · rw [hO x hx]
    by_cases hb : Mk.hasB c.m x = true
    · rw [if_pos hb]
      have hfx := ((freeM_has _ g (by omega)).1 (hf x (by omega) hb)).2
      constructor
      · intro e
        cases e
        exact ⟨c, by rw [if_pos rfl], hb⟩
      · rintro ⟨d, h1, h2⟩
        by_cases e : k = n
        · rw [e]
        · rw [if_neg e] at h1
          rw [hfx k d h1] at h2
          cases h2
    · rw [if_neg hb, h.own x k hx hk]
      constructor
      · rintro ⟨d, h1, h2⟩
        have e : k ≠ n := fun e => by rw [e] at h1; rw [h1] at hg; cases hg
        exact ⟨d, by rw [if_neg e]; exact h1, h2⟩
      · rintro ⟨d, h1, h2⟩
        by_cases e : k = n
        · rw [if_pos e] at h1
          cases h1
          exact absurd h2 hb
        · rw [if_neg e] at h1
          exact ⟨d, h1, h2⟩
  · rw [hO x hx]
    by_cases hb : Mk.hasB c.m x = true
    · rw [if_pos hb]
      constructor
      · intro e
        cases e
        omega
      · intro h1
        have := h1 n c (by rw [if_pos rfl])
        rw [hb] at this
        cases this
    · rw [if_neg hb, h.free x hx]
      constructor
      · intro h1 k d hd
        by_cases e : k = n
        · rw [if_pos e] at hd
          cases hd
          simpa using hb
        · rw [if_neg e] at hd
          exact h1 k d hd
      · intro h1 k d hd
        have e : k ≠ n := fun e => by rw [e] at hd; rw [hd] at hg; cases hg
        exact h1 k d (by rw [if_neg e]; exact hd)
  · rw [hD k, h.done k]
    constructor
    · rintro (⟨d, h1, h2⟩ | ⟨rfl, h2⟩)
      · have e : k ≠ n := fun e => by rw [e] at h1; rw [h1] at hg; cases hg
        exact ⟨d, by rw [if_neg e]; exact h1, h2⟩
      · exact ⟨c, by rw [if_pos rfl], h2⟩
    · rintro ⟨d, h1, h2⟩
      by_cases e : k = n
      · rw [if_pos e] at h1
        cases h1
        exact .inr ⟨e, h2⟩
      · rw [if_neg e] at h1
        exact .inl ⟨d, h1, h2⟩
  · by_cases e : k = n
    · rw [e]; exact ho
    · simp only [if_neg e] at hd
      exact h.isO k d hd
  · by_cases e : k = n
    · simp only [if_pos e] at hd
      cases hd
      exact hc
    · simp only [if_neg e] at hd
      exact h.some_ k d hd
/-- Somebody commits. -/
theorem Agr.commit (h : Agr N g Ow Dn) {n : Int} {c : Sh} (hg : g n = some c) : Agr N (fun m => if m = n then some ⟨c.m, true, c.ok⟩ else g m) Ow (Dn ++ [n]) := by
  have key : ∀ k x, (∃ d, (if k = n then some (⟨c.m, true, c.ok⟩ : Sh) else g k) = some d ∧ Mk.hasB d.m x = true) ↔ ∃ d, g k = some d ∧ Mk.hasB d.m x = true := fun k x => by
    by_cases e : k = n
    · subst e
      rw [if_pos rfl, hg]
      simp
    · rw [if_neg e]
  refine ⟨h.len, fun x k hx hk => ?_, fun x hx => ?_, fun k => ?_, fun k d hd => ?_, h.apt.commit hg, fun k d hd => ?_⟩
  · rw [h.own x k hx hk]
    exact (key k x).symm
  · rw [h.free x hx]
    constructor
    · intro h1 k d hd
      cases hb : Mk.hasB d.m x with
      | false => rfl
      | true =>
        obtain ⟨d', h2, h3⟩ := (key k x).1 ⟨d, hd, hb⟩
        rw [h1 k d' h2] at h3
        cases h3
    · intro h1 k d hd
      cases hb : Mk.hasB d.m x with
      | false => rfl
      | true =>
        obtain ⟨d', h2, h3⟩ := (key k x).2 ⟨d, hd, hb⟩
        rw [h1 k d' h2] at h3
        cases h3
  · rw [List.mem_append, List.mem_singleton, h.done k]
    by_cases e : k = n
    · subst e
      simp
    · simp [e]
  · by_cases e : k = n
    · rw [e]; exact h.isO n c hg
    · simp only [if_neg e] at hd
      exact h.isO k d hd
  · by_cases e : k = n
    · simp only [if_pos e] at hd
      cases hd
      exact h.some_ n c hg
    · simp only [if_neg e] at hd
      exact h.some_ k d hd
/-- Somebody's cores are made free. -/
theorem Agr.del (h : Agr N g Ow Dn) (hN : N ≤ 256) {n : Int} (hg : (g n).isSome = true) : Agr N (fun m => if m = n then none else g m) (gv (Mk.ofL (hv Ow n N)) (-1) Ow N) (rmD Dn n) := by
  obtain ⟨c, hc⟩ := Option.isSome_iff_exists.1 hg
  have hn := isOwn_ge (h.isO n c hc)
  have hO : ∀ x, x < N → (gv (Mk.ofL (hv Ow n N)) (-1) Ow N)[x]? = if Ow[x]? = some n then some (-1) else Ow[x]? := fun x hx => by
    have hM : Mk.hasB (Mk.ofL (hv Ow n N)) x = true ↔ Ow[x]? = some n := by
      rw [Mk.has_ofL (hv_lt hN), decide_eq_true_eq, hv_mem]
      exact ⟨fun h => h.2, fun e => ⟨hx, e⟩⟩
    rw [gv_get _ _ _ x (by rw [h.len]; exact hx)]
    by_cases e : Ow[x]? = some n
    · rw [if_pos ⟨hx, hM.2 e⟩, if_pos e]
    · rw [if_neg (fun h => e (hM.1 h.2)), if_neg e]
  refine ⟨by rw [gv_len, h.len], fun x k hx hk => ?_, fun x hx => ?_, fun k => ?_, fun k d hd => ?_, h.apt.del n, fun k d hd => ?_⟩
  · rw [hO x hx]
    by_cases e : Ow[x]? = some n
    · rw [if_pos e]
      obtain ⟨c', h1, h2⟩ := (h.own x n hx hn).1 e
      constructor
      · intro e2
        cases e2
        omega
      · rintro ⟨d, h3, h4⟩
        by_cases e3 : k = n
        · rw [if_pos e3] at h3
          cases h3
        · rw [if_neg e3] at h3
          have := h.apt.apart n k c' d (fun e => e3 e.symm) h1 h3 x (by omega) h2
          rw [h4] at this
          cases this
    · rw [if_neg e, h.own x k hx hk]
      by_cases e3 : k = n
      · rw [e3]
        constructor
        · intro h4
          exact absurd ((h.own x n hx hn).2 h4) e
        · rintro ⟨d, h3, _⟩
          rw [if_pos rfl] at h3
          cases h3
      · rw [if_neg e3]
  · rw [hO x hx]
    by_cases e : Ow[x]? = some n
    · rw [if_pos e]
      obtain ⟨c', h1, h2⟩ := (h.own x n hx hn).1 e
      refine ⟨fun _ k d hd => ?_, fun _ => rfl⟩
      by_cases e3 : k = n
      · rw [if_pos e3] at hd
        cases hd
      · rw [if_neg e3] at hd
        exact h.apt.apart n k c' d (fun e => e3 e.symm) h1 hd x (by omega) h2
    · rw [if_neg e, h.free x hx]
      constructor
      · intro h1 k d hd
        by_cases e3 : k = n
        · rw [if_pos e3] at hd
          cases hd
        · rw [if_neg e3] at hd
          exact h1 k d hd
      · intro h1 k d hd
        by_cases e3 : k = n
        · cases hb : Mk.hasB d.m x with
          | false => rfl
          | true =>
            rw [e3] at hd
            exact absurd ((h.own x n hx hn).2 ⟨d, hd, hb⟩) e
        · exact h1 k d (by rw [if_neg e3]; exact hd)
  · unfold rmD
    rw [List.mem_filter, decide_eq_true_eq, h.done k]
    by_cases e : k = n
    · simp [e]
    · simp [e]
  · by_cases e : k = n
    · simp only [if_pos e] at hd
      cases hd
    · simp only [if_neg e] at hd
      exact h.isO k d hd
  · by_cases e : k = n
    · simp only [if_pos e] at hd
      cases hd
    · simp only [if_neg e] at hd
      exact h.some_ k d hd
end
end Go.Proofs.Ythmlibapjhmdbaa
