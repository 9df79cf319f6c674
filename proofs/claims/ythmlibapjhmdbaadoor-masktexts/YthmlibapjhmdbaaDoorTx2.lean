/- Texts of masks: ranges, and what Text and Parse make of them. -/
import Derived.Test.YthmlibapjhmdbaaDoorTx
namespace Go.Proofs.YthmlibapjhmdbaaDoor
open Go.RowKit Go.Shelf

theorem runE_spec {m : List Nat} (hm : m.length = 4) : ∀ n f, f < 256 → 256 ≤ f + n → f ≤ runE m n f ∧ (∀ d, f < d → d ≤ runE m n f → Mk.hasB m d = true) ∧ Mk.hasB m (runE m n f + 1) = false
  | 0, f, h, h2 => by omega
  | n + 1, f, h, h2 => by
    rw [runE]
    by_cases hh : Mk.hasB m (f + 1) = true
    · rw [if_pos hh]
      have hlt : f + 1 < 256 := by
        rcases Nat.lt_or_ge (f + 1) 256 with h3 | h3
        · exact h3
        · rw [Mk.has_out hm _ h3] at hh; cases hh
      obtain ⟨a1, a2, a3⟩ := runE_spec hm n (f + 1) hlt (by omega)
      refine ⟨by omega, fun d h4 h5 => ?_, a3⟩
      by_cases e : d = f + 1
      · rw [e]; exact hh
      · exact a2 d (by omega) h5
    · rw [if_neg hh]
      exact ⟨Nat.le_refl _, fun d h4 h5 => by omega, by simpa using hh⟩
theorem last_spec {m : List Nat} (hm : m.length = 4) {f : Nat} (h : f < 256) : f ≤ lastOf m f ∧ lastOf m f < 256 ∧ (∀ d, f < d → d ≤ lastOf m f → Mk.hasB m d = true) ∧ Mk.hasB m (lastOf m f + 1) = false := by
  obtain ⟨a1, a2, a3⟩ := runE_spec hm 256 f h (by omega)
  exact ⟨a1, runE_lt m hm 256 f h, a2, a3⟩
theorem last_is {m : List Nat} (hm : m.length = 4) {a b : Nat} (hb : b < 256) (hab : a ≤ b) (h1 : ∀ d, a < d → d ≤ b → Mk.hasB m d = true) (h2 : Mk.hasB m (b + 1) = false) : lastOf m a = b := by
  obtain ⟨l1, l2, l3, l4⟩ := last_spec hm (show a < 256 by omega)
  rcases Nat.lt_trichotomy (lastOf m a) b with h | h | h
  · rw [h1 _ (by omega) (by omega)] at l4; cases l4
  · exact h
  · rw [l3 _ (by omega) (by omega)] at h2; cases h2

/-- Each mask is its ranges. -/
theorem runs_from {m : List Nat} (hm : m.length = 4) : ∀ n L, 256 ≤ L + n → (L = 0 ∨ Mk.hasB m (L - 1) = false) → ∃ rs, RunsOk L rs ∧ ∀ d, L ≤ d → d < 256 → (Mk.hasB m d = true ↔ ∃ p ∈ rs, p.1 ≤ d ∧ d ≤ p.2)
  | 0, L, h, _ => ⟨[], trivial, fun d h1 h2 => by omega⟩
  | n + 1, L, h, h0 => by
    by_cases hL : L < 256
    · by_cases hh : Mk.hasB m L = true
      · obtain ⟨l1, l2, l3, l4⟩ := last_spec hm hL
        obtain ⟨rs, r1, r2⟩ := runs_from hm n (lastOf m L + 2) (by omega) (.inr l4)
        refine ⟨(L, lastOf m L) :: rs, ⟨Nat.le_refl _, l1, l2, r1⟩, fun d h1 h2 => ?_⟩
        constructor
        · intro hd
          by_cases e : d ≤ lastOf m L
          · exact ⟨_, List.mem_cons_self, h1, e⟩
          · by_cases e2 : d = lastOf m L + 1
            · rw [e2, l4] at hd; cases hd
            · obtain ⟨p, hp, h3⟩ := (r2 d (by omega) h2).1 hd
              exact ⟨p, List.mem_cons_of_mem _ hp, h3⟩
        · rintro ⟨p, hp, h3, h4⟩
          rcases List.mem_cons.1 hp with rfl | hp
          · by_cases e : d = L
            · rw [e]; exact hh
            · exact l3 d (by simp only at h3; omega) h4
          · have := runsOk_ge r1 p hp
            exact (r2 d (by omega) h2).2 ⟨p, hp, h3, h4⟩
      · obtain ⟨rs, r1, r2⟩ := runs_from hm n (L + 1) (by omega) (.inr (by simpa using hh))
        refine ⟨rs, ?_, fun d h1 h2 => ?_⟩
        · cases rs with
          | nil => trivial
          | cons p rs => exact ⟨by have := r1.1; omega, r1.2⟩
        · by_cases e : d = L
          · subst e
            constructor
            · intro h3; exact absurd h3 hh
            · rintro ⟨p, hp, h3, _⟩
              have := runsOk_ge r1 p hp
              omega
          · exact r2 d (by omega) h2
    · exact ⟨[], trivial, fun d h1 h2 => by omega⟩
theorem runs_of {m : List Nat} (hm : Mk.W4 m) : ∃ rs, RunsOk 0 rs ∧ m = runsM Mk.zero rs := by
  obtain ⟨rs, h1, h2⟩ := runs_from hm.1 256 0 (by omega) (.inl rfl)
  refine ⟨rs, h1, Mk.ext hm (runsM_W4 rs 0 _ h1 Mk.W4.zero) fun d hd => ?_⟩
  rw [Bool.eq_iff_iff, runsM_has rs 0 _ h1 Mk.W4.zero d hd, Mk.has_zero, h2 d (Nat.zero_le _) hd]
  simp

/-- The cores of ranges. -/
def blocks (rs : List (Nat × Nat)) : List Nat := rs.flatMap fun p => List.range' p.1 (p.2 + 1 - p.1)
theorem blocks_pair : ∀ {rs : List (Nat × Nat)} {L : Nat}, RunsOk L rs → (∀ x ∈ blocks rs, L ≤ x) ∧ (blocks rs).Pairwise (· < ·)
  | [], _, _ => ⟨by simp [blocks], by simp [blocks]⟩
  | p :: rs, L, h => by
    obtain ⟨i1, i2⟩ := blocks_pair h.2.2.2
    have e : blocks (p :: rs) = List.range' p.1 (p.2 + 1 - p.1) ++ blocks rs := rfl
    have h1 := h.1
    have h2 := h.2.1
    refine ⟨fun x hx => ?_, ?_⟩
    · rw [e, List.mem_append, List.mem_range'_1] at hx
      rcases hx with hx | hx
      · omega
      · have := i1 x hx; omega
    · rw [e, List.pairwise_append]
      refine ⟨List.pairwise_lt_range', i2, fun a ha b hb => ?_⟩
      rw [List.mem_range'_1] at ha
      have := i1 b hb
      omega
theorem blocks_mem {rs : List (Nat × Nat)} {d : Nat} : d ∈ blocks rs ↔ ∃ p ∈ rs, p.1 ≤ d ∧ d ≤ p.2 := by
  unfold blocks
  rw [List.mem_flatMap]
  constructor
  · rintro ⟨p, hp, h⟩
    rw [List.mem_range'_1] at h
    exact ⟨p, hp, h.1, by omega⟩
  · rintro ⟨p, hp, h1, h2⟩
    exact ⟨p, hp, by rw [List.mem_range'_1]; omega⟩
theorem pair_ext : ∀ {a b : List Nat}, a.Pairwise (· < ·) → b.Pairwise (· < ·) → (∀ x, x ∈ a ↔ x ∈ b) → a = b
  | [], [], _, _, _ => rfl
  | [], y :: b, _, _, h => absurd ((h y).2 List.mem_cons_self) (by simp)
  | x :: a, [], _, _, h => absurd ((h x).1 List.mem_cons_self) (by simp)
  | x :: a, y :: b, ha, hb, h => by
    rw [List.pairwise_cons] at ha hb
    have e : x = y := by
      rcases List.mem_cons.1 ((h x).1 List.mem_cons_self) with h1 | h1
      · exact h1
      · rcases List.mem_cons.1 ((h y).2 List.mem_cons_self) with h2 | h2
        · exact h2.symm
        · have := hb.1 x h1
          have := ha.1 y h2
          omega
    subst e
    congr 1
    refine pair_ext ha.2 hb.2 fun z => ?_
    constructor
    · intro hz
      rcases List.mem_cons.1 ((h z).1 (List.mem_cons_of_mem _ hz)) with h1 | h1
      · have := ha.1 z hz; omega
      · exact h1
    · intro hz
      rcases List.mem_cons.1 ((h z).2 (List.mem_cons_of_mem _ hz)) with h1 | h1
      · have := hb.1 z hz; omega
      · exact h1
theorem S_runs {rs : List (Nat × Nat)} (h : RunsOk 0 rs) : S (runsM Mk.zero rs) = blocks rs := by
  refine pair_ext (S_pair _) (blocks_pair h).2 fun x => ?_
  rw [S_has, blocks_mem]
  constructor
  · rintro ⟨h1, h2⟩
    have := (runsM_has rs 0 _ h Mk.W4.zero x h1).1 h2
    rw [Mk.has_zero] at this
    simpa using this
  · rintro ⟨p, hp, h1, h2⟩
    have hx : x < 256 := by have := runsOk_ge h p hp; omega
    exact ⟨hx, (runsM_has rs 0 _ h Mk.W4.zero x hx).2 (.inr ⟨p, hp, h1, h2⟩)⟩
/-- A run of a mask. -/
def IsRun (m : List Nat) (p : Nat × Nat) : Prop := p.1 ≤ p.2 ∧ p.2 < 256 ∧ ahead m p.1 = false ∧ (∀ d, p.1 ≤ d → d ≤ p.2 → Mk.hasB m d = true) ∧ Mk.hasB m (p.2 + 1) = false
theorem foldl_skip (m : List Nat) : ∀ (l : List Nat) (t : ByteArray), (∀ x ∈ l, ahead m x = true) → l.foldl (tstep m) t = t
  | [], _, _ => rfl
  | x :: l, t, h => by
    have e : tstep m t x = t := by unfold tstep; rw [if_pos (h x List.mem_cons_self)]
    rw [List.foldl_cons, e]
    exact foldl_skip m l t fun y hy => h y (List.mem_cons_of_mem _ hy)
theorem run_fold {m : List Nat} (hm : m.length = 4) {p : Nat × Nat} (h : IsRun m p) (t : ByteArray) : (List.range' p.1 (p.2 + 1 - p.1)).foldl (tstep m) t = (if (t.toList == []) = true then t else t ++ ⟨#[44]⟩) ++ rangeT p.1 p.2 := by
  obtain ⟨h1, h2, h3, h4, h5⟩ := h
  have e : p.2 + 1 - p.1 = (p.2 - p.1) + 1 := by omega
  rw [e, List.range'_succ, List.foldl_cons, foldl_skip]
  · unfold tstep
    rw [if_neg (by rw [h3]; simp), last_is hm h2 h1 (fun d a b => h4 d (by omega) b) h5]
  · intro x hx
    rw [List.mem_range'_1] at hx
    unfold ahead
    rw [h4 (x - 1) (by omega) (by omega)]
    simp
    omega
/-- Ranges behind a text. -/
def behind (t : List UInt8) (rs : List (Nat × Nat)) : List UInt8 := if rs = [] then t else if t = [] then joinT rs else t ++ 44 :: joinT rs
theorem rT_ne {p : Nat × Nat} (_h : p.1 ≤ p.2) (h2 : p.2 < 256) : rT p ≠ [] := by
  unfold rT
  split
  · exact (dig_ok (by omega)).2
  · simp
theorem blocks_fold {m : List Nat} (hm : m.length = 4) : ∀ (rs : List (Nat × Nat)) (t : ByteArray), (∀ p ∈ rs, IsRun m p) → by_ ((blocks rs).foldl (tstep m) t) = behind (by_ t) rs
  | [], t, _ => by simp [blocks, behind]
  | p :: rs, t, h => by
    have hp := h p List.mem_cons_self
    have e : blocks (p :: rs) = List.range' p.1 (p.2 + 1 - p.1) ++ blocks rs := rfl
    rw [e, List.foldl_append, run_fold hm hp, blocks_fold hm rs _ fun q hq => h q (List.mem_cons_of_mem _ hq)]
    have hr := rT_ne hp.1 hp.2.1
    have et : by_ ((if (t.toList == []) = true then t else t ++ ⟨#[44]⟩) ++ rangeT p.1 p.2) = if by_ t = [] then rT p else by_ t ++ 44 :: rT p := by
      rw [by_append, rT_rangeT, by_toList]
      by_cases h0 : by_ t = []
      · rw [h0]; simp [h0]
      · rw [if_neg (by simpa using h0), if_neg h0, by_append]
        simp [by_]
    rw [et]
    unfold behind
    cases rs with
    | nil => simp [joinT]
    | cons q rs =>
      by_cases h0 : by_ t = []
      · simp [h0, hr, joinT]
      · simp [h0, joinT]
theorem runs_isRun {rs : List (Nat × Nat)} (h : RunsOk 0 rs) : ∀ p ∈ rs, IsRun (runsM Mk.zero rs) p := by
  have key : ∀ (rs : List (Nat × Nat)) (L : Nat), RunsOk L rs → ∀ p ∈ rs, ∀ q ∈ rs, p = q ∨ p.2 + 1 < q.1 ∨ q.2 + 1 < p.1 := by
    intro rs
    induction rs with
    | nil => intro L _ p hp; cases hp
    | cons r rs ih =>
      intro L h p hp q hq
      rcases List.mem_cons.1 hp with e1 | hp1 <;> rcases List.mem_cons.1 hq with e2 | hq1
      · exact .inl (e1.trans e2.symm)
      · have := runsOk_ge h.2.2.2 q hq1; subst e1; exact .inr (.inl (by omega))
      · have := runsOk_ge h.2.2.2 p hp1; subst e2; exact .inr (.inr (by omega))
      · exact ih _ h.2.2.2 p hp1 q hq1
  intro p hp
  have hg := runsOk_ge h p hp
  have has : ∀ d, d < 256 → (Mk.hasB (runsM Mk.zero rs) d = true ↔ ∃ q ∈ rs, q.1 ≤ d ∧ d ≤ q.2) := by
    intro d hd
    rw [runsM_has rs 0 _ h Mk.W4.zero d hd, Mk.has_zero]
    simp
  have hl := (runsM_W4 rs 0 _ h Mk.W4.zero).1
  refine ⟨hg.2.1, hg.2.2, ?_, fun d a b => (has d (by omega)).2 ⟨p, hp, a, b⟩, ?_⟩
  · unfold ahead
    by_cases h0 : 0 < p.1
    · have : Mk.hasB (runsM Mk.zero rs) (p.1 - 1) = false := by
        rw [← Bool.not_eq_true]
        intro hh
        obtain ⟨q, hq, a, b⟩ := (has _ (by omega)).1 hh
        rcases key rs 0 h p hp q hq with rfl | h1 | h1 <;> omega
      simp [this]
    · simp [h0]
  · rcases Nat.lt_or_ge (p.2 + 1) 256 with h1 | h1
    · rw [← Bool.not_eq_true]
      intro hh
      obtain ⟨q, hq, a, b⟩ := (has _ h1).1 hh
      rcases key rs 0 h p hp q hq with rfl | h1 | h1 <;> omega
    · exact Mk.has_out hl _ h1
/-- The text of a mask is its ranges' texts. -/
theorem text_runs {rs : List (Nat × Nat)} (h : RunsOk 0 rs) : by_ (textOf (runsM Mk.zero rs) (S (runsM Mk.zero rs))) = joinT rs := by
  unfold textOf
  rw [S_runs h, blocks_fold (runsM_W4 rs 0 _ h Mk.W4.zero).1 rs _ (runs_isRun h)]
  unfold behind
  cases rs with
  | nil => rfl
  | cons p rs => rfl
end Go.Proofs.YthmlibapjhmdbaaDoor
