/- What the document's Parse reads at a place: plain facts. -/
import Derived.Test.YthmlibapjhmdbaaDoorR9
namespace Go.Proofs.YthmlibapjhmdbaaDoor
open Go.RowKit Go.Shelf

/-- The first and the last number that are read at a text's beginning, and how many bytes they take. -/
def scan (l : List UInt8) : Int × Int × Nat :=
  if l[(numOf l).2]? = some 45 then ((numOf l).1, (numOf (l.drop ((numOf l).2 + 1))).1, (numOf l).2 + 1 + (numOf (l.drop ((numOf l).2 + 1))).2)
  else ((numOf l).1, (numOf l).1, (numOf l).2)
theorem numV_fin : ∀ n : Fin 256, numV (Lib.decDigits n.val) = n.val := by decide +kernel
theorem numV_dec {n : Nat} (h : n < 256) : numV (Lib.decDigits n) = n := numV_fin ⟨n, h⟩
theorem tw_app {p : UInt8 → Bool} : ∀ (a b : List UInt8), (∀ x ∈ a, p x = true) → (a ++ b).takeWhile p = a ++ b.takeWhile p
  | [], _, _ => rfl
  | x :: a, b, h => by
    rw [List.cons_append, List.takeWhile_cons_of_pos (h x List.mem_cons_self), tw_app a b fun y hy => h y (List.mem_cons_of_mem _ hy)]
    rfl
/-- Behind a number comes no digit. -/
def NoDig (l : List UInt8) : Prop := ∀ c, l[0]? = some c → isD c = false
theorem ld_dec {n : Nat} (h : n < 256) {t : List UInt8} (ht : NoDig t) : ld (Lib.decDigits n ++ t) = Lib.decDigits n := by
  have h3 := dec_size_fin ⟨n, h⟩
  simp only at h3
  have hd : ∀ x ∈ Lib.decDigits n, isD x = true := by
    intro x hx
    have := (dig_ok h).1 x hx
    unfold isD
    simp [this.1, this.2]
  unfold ld
  rw [List.take_append, List.take_of_length_le (by omega), tw_app _ _ hd]
  cases t with
  | nil => simp
  | cons c t =>
    have hc := ht c rfl
    obtain ⟨k, hk⟩ : ∃ k, 4 - (Lib.decDigits n).length = k + 1 := ⟨3 - (Lib.decDigits n).length, by omega⟩
    rw [hk, List.take_succ_cons, List.takeWhile_cons_of_neg (by rw [hc]; simp), List.append_nil]
theorem num_dec {n : Nat} (h : n < 256) {t : List UInt8} (ht : NoDig t) : numOf (Lib.decDigits n ++ t) = ((n : Int), (Lib.decDigits n).length) := by
  unfold numOf
  rw [ld_dec h ht, if_neg (dig_ok h).2, numV_dec h]
theorem noDig_cons {c : UInt8} {l : List UInt8} (h : isD c = false) : NoDig (c :: l) := by
  intro x hx
  simp at hx
  rw [← hx]
  exact h
theorem scan_rT {p : Nat × Nat} (h : p.1 ≤ p.2) (h2 : p.2 < 256) {t : List UInt8} (ht : NoDig t) (ht2 : t[0]? ≠ some 45) : scan (rT p ++ t) = ((p.1 : Int), (p.2 : Int), (rT p).length) := by
  obtain ⟨a, b⟩ := p
  simp only at h h2
  unfold rT
  simp only
  split
  · rename_i e
    subst e
    unfold scan
    rw [num_dec h2 ht]
    simp only
    rw [if_neg]
    rw [List.getElem?_append_right (Nat.le_refl _), Nat.sub_self]
    exact ht2
  · rename_i e
    have e1 : Lib.decDigits a ++ 45 :: Lib.decDigits b ++ t = Lib.decDigits a ++ 45 :: (Lib.decDigits b ++ t) := by simp
    unfold scan
    rw [e1, num_dec (show a < 256 by omega) (noDig_cons (by decide))]
    simp only
    rw [if_pos (by rw [List.getElem?_append_right (Nat.le_refl _), Nat.sub_self]; rfl)]
    have e2 : (Lib.decDigits a ++ 45 :: (Lib.decDigits b ++ t)).drop ((Lib.decDigits a).length + 1) = Lib.decDigits b ++ t := by
      rw [List.drop_append]
      simp
    rw [e2, num_dec h2 ht]
    simp
    omega
theorem numOf_le (l : List UInt8) : (numOf l).2 ≤ l.length ∧ -1 ≤ (numOf l).1 ∧ (numOf l).1 < 10000 := by
  unfold numOf
  split
  · simp
  · have h1 := (ld_pre l).length_le
    have h2 := numV_take l 4
    rw [List.take_of_length_le (ld_len l)] at h2
    simp only
    omega
/-- Where the document's Parse stands: of a text of ranges, these are read. -/
def Read (s : ByteArray) (a : Nat) (zs : List Int) : Prop :=
  ∀ rs, RunsOk 0 rs → by_ s = joinT rs → ∃ dn rest, rs = dn ++ rest ∧ (rest ≠ [] → (by_ s).drop a = joinT rest) ∧ (rest = [] → s.size ≤ a) ∧ ∀ d : Nat, d < 256 → ((d : Int) ∈ zs ↔ ∃ p ∈ dn, p.1 ≤ d ∧ d ≤ p.2)
theorem by_len (s : ByteArray) : (by_ s).length = s.size := by simp [by_]
theorem read_start (s : ByteArray) : Read s 0 [] := by
  intro rs h hs
  refine ⟨[], rs, rfl, fun _ => by rw [List.drop_zero]; exact hs, fun e => ?_, fun d _ => by simp⟩
  rw [← by_len, hs, e]
  exact Nat.le_refl _
theorem runsOk_tail : ∀ {dn : List (Nat × Nat)} {rest : List (Nat × Nat)} {L : Nat}, RunsOk L (dn ++ rest) → ∃ L', RunsOk L' rest
  | [], _, L, h => ⟨L, h⟩
  | _ :: dn, _, _, h => runsOk_tail (dn := dn) h.2.2.2
theorem read_step {s : ByteArray} {a : Nat} {zs ap : List Int} (h : Read s a zs) (ha : a < s.size) (hm : ∀ d : Nat, d < 256 → ((d : Int) ∈ ap ↔ (scan ((by_ s).drop a)).1 ≤ d ∧ (d : Int) ≤ (scan ((by_ s).drop a)).2.1)) :
    Read s (a + (scan ((by_ s).drop a)).2.2 + 1) (zs ++ ap) := by
  intro rs hr hs
  obtain ⟨dn, rest, e1, e2, e3, e4⟩ := h rs hr hs
  cases rest with
  | nil => have := e3 rfl; omega
  | cons p rest =>
    have hd := e2 (by simp)
    obtain ⟨L', hL⟩ : ∃ L', RunsOk L' (p :: rest) := runsOk_tail (dn := dn) (by rw [← e1]; exact hr)
    obtain ⟨_, p1, p2, _⟩ := hL
    obtain ⟨t, ht, hn, h45, hrest⟩ : ∃ t, joinT (p :: rest) = rT p ++ t ∧ NoDig t ∧ t[0]? ≠ some 45 ∧ (rest = [] ∧ t = [] ∨ rest ≠ [] ∧ t = 44 :: joinT rest) := by
      cases rest with
      | nil => exact ⟨[], by simp [joinT], by intro c hc; simp at hc, by simp, .inl ⟨rfl, rfl⟩⟩
      | cons q rest => exact ⟨44 :: joinT (q :: rest), rfl, noDig_cons (by decide), by simp, .inr ⟨by simp, rfl⟩⟩
    have hsc : scan ((by_ s).drop a) = ((p.1 : Int), (p.2 : Int), (rT p).length) := by rw [hd, ht, scan_rT p1 p2 hn h45]
    rw [hsc] at hm ⊢
    simp only at hm ⊢
    have hlen : s.size - a = (rT p).length + t.length := by
      have := congrArg List.length (hd.trans ht)
      rw [List.length_drop, by_len, List.length_append] at this
      exact this
    refine ⟨dn ++ [p], rest, by rw [e1]; simp, fun hne => ?_, fun hne => ?_, fun d hd2 => ?_⟩
    · rcases hrest with ⟨h1, _⟩ | ⟨_, h1⟩
      · exact absurd h1 hne
      · rw [Nat.add_assoc, ← List.drop_drop, hd, ht, h1, List.drop_append]
        simp
    · rcases hrest with ⟨_, h1⟩ | ⟨h1, _⟩
      · rw [h1] at hlen
        simp at hlen
        omega
      · exact absurd hne h1
    · rw [List.mem_append, e4 d hd2, hm d hd2]
      constructor
      · rintro (⟨q, hq, h1⟩ | h1)
        · exact ⟨q, by simp [hq], h1⟩
        · exact ⟨p, by simp, by omega, by omega⟩
      · rintro ⟨q, hq, h1⟩
        rcases List.mem_append.1 hq with hq | hq
        · exact .inl ⟨q, hq, h1⟩
        · rw [List.mem_singleton] at hq
          subst hq
          exact .inr (by omega)
/-- At the text's end: what was read is the text's mask, if it is one's. -/
theorem read_end {s : ByteArray} {a : Nat} {zs : List Int} (h : Read s a zs) (ha : s.size ≤ a) {m : List Nat} (hm : Mk.W4 m) (hz : ∀ d : Nat, d < 256 → (Mk.hasB m d = true ↔ (d : Int) ∈ zs)) :
    (textOf m (S m) = s ∧ parseOf s = (m, 0)) ∨ (textOf m (S m) ≠ s ∧ parseOf s = (Mk.zero, 5)) := by
  by_cases ht : textOf m (S m) = s
  · refine .inl ⟨ht, ?_⟩
    have := parse_text hm
    rw [ht] at this
    exact this
  · refine .inr ⟨ht, ?_⟩
    rcases parse_or s with ⟨c, hc, _⟩ | hc
    · exfalso
      obtain ⟨rs, r1, r2, _⟩ := parse_ok hc
      obtain ⟨dn, rest, e1, e2, e3, e4⟩ := h rs r1 r2
      have hrest : rest = [] := by
        cases rest with
        | nil => rfl
        | cons p rest =>
          have hd := e2 (by simp)
          rw [List.drop_eq_nil_of_le (by rw [by_len]; exact ha)] at hd
          obtain ⟨L', hL⟩ : ∃ L', RunsOk L' (p :: rest) := runsOk_tail (dn := dn) (by rw [← e1]; exact r1)
          have := rT_ne hL.2.1 hL.2.2.1
          cases rest with
          | nil => exact absurd hd.symm this
          | cons q rest => simp [joinT] at hd
      subst hrest
      rw [List.append_nil] at e1
      subst e1
      have hmm : m = runsM Mk.zero rs := Mk.ext hm (runsM_W4 rs 0 _ r1 Mk.W4.zero) fun d hd => by
        rw [Bool.eq_iff_iff, hz d hd, e4 d hd, runsM_has rs 0 _ r1 Mk.W4.zero d hd, Mk.has_zero]
        simp
      subst hmm
      exact ht (by_inj ((text_runs r1).trans r2.symm))
    · exact hc
end Go.Proofs.YthmlibapjhmdbaaDoor
