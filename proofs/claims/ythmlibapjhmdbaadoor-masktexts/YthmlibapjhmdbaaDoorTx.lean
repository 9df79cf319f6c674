/- Texts of masks: plain facts. -/
import Derived.Test.YthmlibapjhmdbaaDoorPl
namespace Go.Proofs.YthmlibapjhmdbaaDoor
open Go.RowKit Go.Shelf

/-- A text at a sign of one byte: what is ahead of it, and behind it. -/
theorem cut_hit {A B : List UInt8} {c : UInt8} (h : c ∉ A) : Lib.cut (A ++ c :: B) [c] = (A, B, true) := by
  have hi : Lib.index (A ++ c :: B) [c] = (A.length : Int) := by
    apply Lib.index_first (by simp)
    · simp [Lib.occAt, List.isPrefixOf]
    · intro j hj
      simp only [Lib.occAt]
      rw [List.drop_append_of_le_length (by omega)]
      have hd : A.drop j = A[j] :: A.drop (j + 1) := List.drop_eq_getElem_cons hj
      rw [hd, List.cons_append]
      have hne : A[j] ≠ c := fun e => h (by rw [← e]; exact List.getElem_mem _)
      simp only [List.isPrefixOf, Bool.and_eq_false_iff, beq_eq_false_iff_ne]
      exact .inl (Ne.symm hne)
  unfold Lib.cut
  rw [hi]
  simp
theorem cut_miss {A : List UInt8} {c : UInt8} (h : c ∉ A) : Lib.cut A [c] = (A, [], false) := by
  have hi : Lib.index A [c] = -1 := by
    apply Lib.index_none
    intro j hj
    simp only [Lib.occAt]
    rcases Nat.lt_or_ge j A.length with h1 | h1
    · have hd : A.drop j = A[j] :: A.drop (j + 1) := List.drop_eq_getElem_cons h1
      rw [hd]
      have hne : A[j] ≠ c := fun e => h (by rw [← e]; exact List.getElem_mem _)
      simp only [List.isPrefixOf, Bool.and_eq_false_iff, beq_eq_false_iff_ne]
      exact .inl (Ne.symm hne)
    · rw [List.drop_eq_nil_of_le h1]; rfl
  unfold Lib.cut
  rw [hi]
  rfl
theorem cut_or (A : List UInt8) (c : UInt8) : (c ∉ A) ∨ ∃ B D, A = B ++ c :: D ∧ c ∉ B := by
  by_cases h : c ∈ A
  · obtain ⟨B, D, e, hb⟩ := List.eq_append_cons_of_mem h
    exact .inr ⟨B, D, e, hb⟩
  · exact .inl h

/-- Bytes of a text. -/
def by_ (s : ByteArray) : List UInt8 := s.data.toList
def mkS (l : List UInt8) : ByteArray := ⟨l.toArray⟩
theorem by_mk (l : List UInt8) : by_ (mkS l) = l := by simp [by_, mkS]
theorem mk_by (s : ByteArray) : mkS (by_ s) = s := by cases s; simp [by_, mkS]
theorem by_inj {s t : ByteArray} (h : by_ s = by_ t) : s = t := by rw [← mk_by s, h, mk_by]
theorem by_append (s t : ByteArray) : by_ (s ++ t) = by_ s ++ by_ t := by
  simp [by_, ByteArray.data_append]
theorem by_toList (s : ByteArray) : s.toList = by_ s := by
  rw [by_]
  exact ByteArray.toList_eq s

/-- A range's text. -/
def rT (p : Nat × Nat) : List UInt8 := if p.1 = p.2 then Lib.decDigits p.1 else Lib.decDigits p.1 ++ 45 :: Lib.decDigits p.2
theorem rT_rangeT (a b : Nat) : by_ (rangeT a b) = rT (a, b) := by
  unfold rangeT rT
  simp only
  split
  · simp [by_, dec]
  · rw [by_append, by_append]
    simp [by_, dec]
def joinT : List (Nat × Nat) → List UInt8
  | [] => []
  | [p] => rT p
  | p :: q :: rs => rT p ++ 44 :: joinT (q :: rs)
theorem dig_fin : ∀ n : Fin 256, (Lib.decDigits n.val).all (fun c => decide (48 ≤ c.toNat ∧ c.toNat ≤ 57)) = true ∧ Lib.decDigits n.val ≠ [] := by decide +kernel
theorem dig_ok {n : Nat} (h : n < 256) : (∀ c ∈ Lib.decDigits n, 48 ≤ c.toNat ∧ c.toNat ≤ 57) ∧ Lib.decDigits n ≠ [] := by
  have h1 := dig_fin ⟨n, h⟩
  refine ⟨fun c hc => ?_, h1.2⟩
  have := List.all_eq_true.1 h1.1 c hc
  simpa using this
theorem dig_no {n : Nat} (h : n < 256) {c : UInt8} (hc : c.toNat < 48) : c ∉ Lib.decDigits n := fun hm => by
  have := (dig_ok h).1 c hm
  omega
theorem core_fin : ∀ n : Fin 256, coreNum (dec n.val) = some n.val := by decide +kernel
theorem core_dec {n : Nat} (h : n < 256) : coreNum (dec n) = some n := core_fin ⟨n, h⟩
theorem core_back {s : ByteArray} {n : Nat} (h : coreNum s = some n) : s = dec n ∧ n < 256 := by
  refine ⟨?_, coreNum_lt h⟩
  unfold coreNum at h
  split at h
  · split at h
    · rename_i v hv hc
      cases h
      have e := hc.2.2
      rw [by_toList, by_toList] at e
      exact (by_inj (by simpa using e)).symm
    · cases h
  · cases h

/-- Ranges, each two behind the one ahead of it or more. -/
def RunsOk : Nat → List (Nat × Nat) → Prop
  | _, [] => True
  | L, p :: rs => L ≤ p.1 ∧ p.1 ≤ p.2 ∧ p.2 < 256 ∧ RunsOk (p.2 + 2) rs
def runsM (m : List Nat) (rs : List (Nat × Nat)) : List Nat := rs.foldl (fun m p => zw Nat.lor m (spanL p.1 p.2)) m
theorem span_has {f l d : Nat} (hl : l < 256) : Mk.hasB (spanL f l) d = (decide (f ≤ d) && decide (d ≤ l)) := by
  unfold spanL
  rw [Mk.has_ofL (by intro x hx; rw [List.mem_range'_1] at hx; omega), Bool.eq_iff_iff]
  simp only [decide_eq_true_eq, List.mem_range'_1, Bool.and_eq_true]
  omega
theorem runsM_W4 : ∀ (rs : List (Nat × Nat)) (L : Nat) (m : List Nat), RunsOk L rs → Mk.W4 m → Mk.W4 (runsM m rs)
  | [], _, _, _, h => h
  | _ :: rs, _, _, hr, h => runsM_W4 rs _ _ hr.2.2.2 (lor_W4 h (spanL_W4 hr.2.2.1))
theorem runsM_has : ∀ (rs : List (Nat × Nat)) (L : Nat) (m : List Nat), RunsOk L rs → Mk.W4 m → ∀ d, d < 256 → (Mk.hasB (runsM m rs) d = true ↔ Mk.hasB m d = true ∨ ∃ p ∈ rs, p.1 ≤ d ∧ d ≤ p.2)
  | [], _, _, _, _, d, _ => by simp [runsM]
  | p :: rs, L, m, hr, h, d, hd => by
    have h2 := spanL_W4 (f := p.1) hr.2.2.1
    have := runsM_has rs _ (zw Nat.lor m (spanL p.1 p.2)) hr.2.2.2 (lor_W4 h h2) d hd
    rw [show runsM m (p :: rs) = runsM (zw Nat.lor m (spanL p.1 p.2)) rs from rfl, this, has_lor h h2 hd, span_has hr.2.2.1]
    simp only [Bool.or_eq_true, Bool.and_eq_true, decide_eq_true_eq, List.mem_cons, exists_eq_or_imp, or_assoc]
theorem runsOk_ge : ∀ {rs : List (Nat × Nat)} {L : Nat}, RunsOk L rs → ∀ p ∈ rs, L ≤ p.1 ∧ p.1 ≤ p.2 ∧ p.2 < 256
  | [], _, _, _, hp => by cases hp
  | q :: rs, L, h, p, hp => by
    rcases List.mem_cons.1 hp with rfl | hp
    · exact ⟨h.1, h.2.1, h.2.2.1⟩
    · have := runsOk_ge h.2.2.2 p hp
      have h1 := h.1
      have h2 := h.2.1
      omega

/-- What Parse reads of a range's text. -/
theorem ends_rT {a b : Nat} (hab : a ≤ b) (hb : b < 256) : endsOf (mkS (rT (a, b))) = (a, b, true) := by
  unfold rT
  simp only
  have e45 : (dash.data.toList : List UInt8) = [45] := rfl
  split
  · rename_i e
    subst e
    have hc : Lib.cut (Lib.decDigits a) [45] = (Lib.decDigits a, [], false) := cut_miss (dig_no hb (by decide))
    unfold endsOf cutT cutA cutB
    rw [e45, show (mkS (Lib.decDigits a)).data.toList = Lib.decDigits a from by_mk _, hc]
    have := core_dec hb
    unfold dec at this
    simp [this]
  · rename_i e
    have ha : a < 256 := by omega
    have hc : Lib.cut (Lib.decDigits a ++ 45 :: Lib.decDigits b) [45] = (Lib.decDigits a, Lib.decDigits b, true) := cut_hit (dig_no ha (by decide))
    unfold endsOf cutT cutA cutB
    rw [e45, show (mkS (Lib.decDigits a ++ 45 :: Lib.decDigits b)).data.toList = Lib.decDigits a ++ 45 :: Lib.decDigits b from by_mk _, hc]
    have h1 := core_dec ha
    have h2 := core_dec hb
    unfold dec at h1 h2
    simp only [if_true, h1, h2]
    simp
    omega
theorem ends_back {s : ByteArray} (h : (endsOf s).2.2 = true) : by_ s = rT ((endsOf s).1, (endsOf s).2.1) ∧ (endsOf s).1 ≤ (endsOf s).2.1 ∧ (endsOf s).2.1 < 256 := by
  refine ⟨?_, ends_ok h⟩
  have e45 : (dash.data.toList : List UInt8) = [45] := rfl
  rcases cut_or (by_ s) 45 with hn | ⟨B, D, e, hn⟩
  · have hc : Lib.cut (s.data.toList) [45] = (by_ s, [], false) := cut_miss hn
    have hE : endsOf s = ((coreNum (mkS (by_ s))).getD 0, (coreNum (mkS (by_ s))).getD 0, (coreNum (mkS (by_ s))).isSome) := by
      unfold endsOf cutT cutA cutB
      rw [e45, hc]
      rfl
    rw [hE] at h ⊢
    obtain ⟨n, hv⟩ := Option.isSome_iff_exists.1 h
    have hb := congrArg by_ (core_back hv).1
    rw [by_mk] at hb
    rw [hv]
    simp only [Option.getD_some, rT, if_true]
    rw [hb]
    simp [by_, dec]
  · have hc : Lib.cut (s.data.toList) [45] = (B, D, true) := by
      rw [show s.data.toList = B ++ 45 :: D from e]
      exact cut_hit hn
    have hE : endsOf s = ((coreNum (mkS B)).getD 0, (coreNum (mkS D)).getD 0, (coreNum (mkS B)).isSome && (coreNum (mkS D)).isSome && decide ((coreNum (mkS B)).getD 0 < (coreNum (mkS D)).getD 0)) := by
      unfold endsOf cutT cutA cutB
      rw [e45, hc]
      rfl
    rw [hE] at h ⊢
    simp only [Bool.and_eq_true, decide_eq_true_eq] at h
    obtain ⟨⟨h1, h2⟩, h3⟩ := h
    obtain ⟨x, hx⟩ := Option.isSome_iff_exists.1 h1
    obtain ⟨y, hy⟩ := Option.isSome_iff_exists.1 h2
    have b1 := congrArg by_ (core_back hx).1
    have b2 := congrArg by_ (core_back hy).1
    rw [by_mk] at b1 b2
    rw [hx, hy] at h3 ⊢
    simp only [Option.getD_some] at h3 ⊢
    unfold rT
    rw [if_neg (by simp only; omega), e, b1, b2]
    simp [by_, dec]
end Go.Proofs.YthmlibapjhmdbaaDoor
