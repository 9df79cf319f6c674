/- What Parse makes of texts. -/
import Derived.Test.YthmlibapjhmdbaaDoorTx2
namespace Go.Proofs.YthmlibapjhmdbaaDoor
open Go.RowKit Go.Shelf

theorem rT_no {p : Nat × Nat} (h : p.1 ≤ p.2) (h2 : p.2 < 256) {c : UInt8} (hc : c.toNat < 45) : c ∉ rT p := by
  unfold rT
  split
  · exact dig_no (by omega) (by omega)
  · intro hm
    rcases List.mem_append.1 hm with hm | hm
    · exact dig_no (by omega) (by omega) hm
    · rcases List.mem_cons.1 hm with hm | hm
      · subst hm; exact absurd hc (by decide)
      · exact dig_no (by omega) (by omega) hm
theorem cut_comma {r : ByteArray} {A B : List UInt8} {t : Bool} (h : Lib.cut (by_ r) [44] = (A, B, t)) : cutA r comma = mkS A ∧ cutB r comma = mkS B ∧ cutT r comma = t := by
  have e : (comma.data.toList : List UInt8) = [44] := rfl
  unfold cutA cutB cutT
  rw [e, show r.data.toList = by_ r from rfl, h]
  exact ⟨rfl, rfl, rfl⟩
theorem parse_runs : ∀ (rs : List (Nat × Nat)) (n L : Nat) (m : List Nat), rs ≠ [] → RunsOk L rs → rs.length < n → parseGo n (mkS (joinT rs)) L m = (runsM m rs, 0)
  | [], _, _, _, h, _, _ => absurd rfl h
  | [p], n, L, m, _, hr, hn => by
    obtain ⟨q, rfl⟩ : ∃ q, n = q + 1 := ⟨n - 1, by simp at hn; omega⟩
    obtain ⟨c1, c2, c3⟩ := cut_comma (r := mkS (joinT [p])) (A := rT p) (B := []) (t := false) (by rw [by_mk]; exact cut_miss (rT_no (p := p) hr.2.1 hr.2.2.1 (by decide)))
    rw [parseGo, c1, c3, ends_rT hr.2.1 hr.2.2.1, if_pos ⟨rfl, hr.1⟩, if_neg (by simp)]
    rfl
  | p :: q :: rs, n, L, m, _, hr, hn => by
    obtain ⟨k, rfl⟩ : ∃ k, n = k + 1 := ⟨n - 1, by simp at hn; omega⟩
    obtain ⟨c1, c2, c3⟩ := cut_comma (r := mkS (joinT (p :: q :: rs))) (A := rT p) (B := joinT (q :: rs)) (t := true) (by rw [by_mk]; exact cut_hit (rT_no (p := p) hr.2.1 hr.2.2.1 (by decide)))
    rw [parseGo, c1, c2, c3, ends_rT hr.2.1 hr.2.2.1, if_pos ⟨rfl, hr.1⟩, if_pos rfl]
    rw [parse_runs (q :: rs) k (p.2 + 2) _ (by simp) hr.2.2.2 (by simp at hn ⊢; omega)]
    rfl
theorem parse_back : ∀ (n : Nat) (r : ByteArray) (L : Nat) (m c : List Nat), parseGo n r L m = (c, 0) → ∃ rs, rs ≠ [] ∧ RunsOk L rs ∧ by_ r = joinT rs ∧ c = runsM m rs
  | 0, r, L, m, c, h => by simp [parseGo] at h
  | n + 1, r, L, m, c, h => by
    rw [parseGo] at h
    split at h
    · rename_i hE
      obtain ⟨b1, b2, b3⟩ := ends_back hE.1
      rcases cut_or (by_ r) 44 with hn | ⟨B, D, e, hn⟩
      · obtain ⟨c1, c2, c3⟩ := cut_comma (r := r) (cut_miss hn)
        rw [c3, if_neg (by simp)] at h
        refine ⟨[((endsOf (cutA r comma)).1, (endsOf (cutA r comma)).2.1)], by simp, ⟨hE.2, b2, b3, trivial⟩, ?_, ?_⟩
        · rw [c1, by_mk] at b1
          rw [joinT, c1]
          exact b1
        · exact (congrArg Prod.fst h).symm
      · obtain ⟨c1, c2, c3⟩ := cut_comma (r := r) (A := B) (B := D) (t := true) (by rw [e]; exact cut_hit hn)
        rw [c3, if_pos rfl] at h
        obtain ⟨rs, h1, h2, h3, h4⟩ := parse_back n _ _ _ _ h
        rw [c2, by_mk] at h3
        refine ⟨((endsOf (cutA r comma)).1, (endsOf (cutA r comma)).2.1) :: rs, by simp, ⟨hE.2, b2, b3, h2⟩, ?_, h4⟩
        cases rs with
        | nil => exact absurd rfl h1
        | cons q rs =>
          rw [joinT, e, h3]
          congr 1
          rw [c1, by_mk] at b1
          rw [c1]
          exact b1
    · simp at h
theorem runs_len : ∀ {rs : List (Nat × Nat)} {L : Nat}, RunsOk L rs → L + rs.length ≤ 257 ∨ rs = []
  | [], _, _ => .inr rfl
  | [p], L, h => .inl (by have := h.1; have := h.2.1; have := h.2.2.1; simp; omega)
  | p :: q :: rs, L, h => by
    rcases runs_len h.2.2.2 with h1 | h1
    · have := h.1
      have := h.2.1
      exact .inl (by simp at h1 ⊢; omega)
    · cases h1
/-- The text of a mask is read as that mask. -/
theorem parse_join {rs : List (Nat × Nat)} (h : RunsOk 0 rs) {s : ByteArray} (hs : by_ s = joinT rs) : parseOf s = (runsM Mk.zero rs, 0) := by
  have e : s = mkS (joinT rs) := by rw [← hs, mk_by]
  unfold parseOf
  rw [by_toList, hs]
  cases rs with
  | nil => rfl
  | cons p rs =>
    have hne : joinT (p :: rs) ≠ [] := by
      cases rs with
      | nil => exact rT_ne h.2.1 h.2.2.1
      | cons q rs => simp [joinT]
    rw [if_neg (by simpa using hne), e]
    refine parse_runs _ _ _ _ (by simp) h ?_
    rcases runs_len h with h1 | h1
    · omega
    · cases h1
theorem parse_text {m : List Nat} (hm : Mk.W4 m) : parseOf (textOf m (S m)) = (m, 0) := by
  obtain ⟨rs, h, rfl⟩ := runs_of hm
  exact parse_join h (text_runs h)
theorem parse_ok {s : ByteArray} {c : List Nat} (h : parseOf s = (c, 0)) : ∃ rs, RunsOk 0 rs ∧ by_ s = joinT rs ∧ c = runsM Mk.zero rs := by
  unfold parseOf at h
  split at h
  · rename_i he
    rw [by_toList] at he
    exact ⟨[], trivial, by simpa [joinT] using he, (congrArg Prod.fst h).symm⟩
  · obtain ⟨rs, _, h2, h3, h4⟩ := parse_back _ _ _ _ _ h
    exact ⟨rs, h2, h3, h4⟩
theorem text_parse {s : ByteArray} {c : List Nat} (h : parseOf s = (c, 0)) : textOf c (S c) = s := by
  obtain ⟨rs, h1, h2, rfl⟩ := parse_ok h
  exact by_inj ((text_runs h1).trans h2.symm)
theorem parseGo_or : ∀ (n : Nat) (r : ByteArray) (L : Nat) (m : List Nat), (parseGo n r L m).2 = 0 ∨ parseGo n r L m = (Mk.zero, 5)
  | 0, _, _, _ => .inr rfl
  | n + 1, r, L, m => by
    rw [parseGo]
    split
    · split
      · exact parseGo_or n _ _ _
      · exact .inl rfl
    · exact .inr rfl
theorem parse_or (s : ByteArray) : (∃ c, parseOf s = (c, 0) ∧ Mk.W4 c) ∨ parseOf s = (Mk.zero, 5) := by
  have h : (parseOf s).2 = 0 ∨ parseOf s = (Mk.zero, 5) := by
    unfold parseOf
    split
    · exact .inl rfl
    · exact parseGo_or _ _ _ _
  rcases h with h | h
  · have e : parseOf s = ((parseOf s).1, 0) := by rw [← h]
    obtain ⟨rs, h1, _, h3⟩ := parse_ok e
    exact .inl ⟨_, e, by rw [h3]; exact runsM_W4 rs 0 _ h1 Mk.W4.zero⟩
  · exact .inr h
theorem ofL_S {m : List Nat} (hm : Mk.W4 m) : Mk.ofL (S m) = m :=
  Mk.ext (Mk.ofL_W4 (S_lt m)) hm fun d hd => by
    rw [Mk.has_ofL (S_lt m), Bool.eq_iff_iff]
    simp [S_has, hd]
end Go.Proofs.YthmlibapjhmdbaaDoor
