/- Books as lists of jobs and numbers, rising: plain facts. -/
import Derived.Test.YtjolkcomlindhaaGA1xA2
namespace Go.Proofs.Ytjolkcomlindhaa

def look : List (Int × Int) → Int → Option Int
  | [], _ => none
  | p :: r, n => if p.1 = n then some p.2 else look r n
/-- A number is added to a job's. -/
def insB : List (Int × Int) → Int → Int → List (Int × Int)
  | [], j, n => [(j, n)]
  | p :: r, j, n => if p.1 = j then (p.1, addE p.2 n) :: r else if j < p.1 then (j, n) :: p :: r else p :: insB r j n
def Good (p : Int × Int) : Prop := (0 ≤ p.1 ∧ p.1 ≤ 1099511627776) ∧ (0 ≤ p.2 ∧ p.2 ≤ 9223372036854775807)
structure OkL (L : List (Int × Int)) : Prop where
  up : L.Pairwise fun p q => p.1 < q.1
  good : ∀ p ∈ L, Good p
theorem OkL.nil : OkL [] := ⟨List.Pairwise.nil, fun p h => by cases h⟩
theorem OkL.tail {p : Int × Int} {r : List (Int × Int)} (h : OkL (p :: r)) : OkL r := ⟨(List.pairwise_cons.1 h.up).2, fun q hq => h.good q (List.mem_cons_of_mem _ hq)⟩
theorem addE_comm (a b : Int) : addE a b = addE b a := by unfold addE; omega
theorem addE_right (a b c : Int) : addE (addE a b) c = addE (addE a c) b := by unfold addE; omega
theorem addE_zero {n : Int} (h : 0 ≤ n ∧ n ≤ 9223372036854775807) : addE 0 n = n := by unfold addE; omega
theorem insB_comm (L : List (Int × Int)) (j n k m : Int) : insB (insB L j n) k m = insB (insB L k m) j n := by
  induction L with
  | nil =>
    rcases Int.lt_trichotomy j k with h | h | h
    · simp [insB, show ¬ j = k from by omega, show ¬ k = j from by omega, show ¬ k < j from by omega, h]
    · subst h; simp [insB, addE_comm]
    · simp [insB, show ¬ j = k from by omega, show ¬ k = j from by omega, show ¬ j < k from by omega, h]
  | cons p r ih =>
    obtain ⟨a, v⟩ := p
    rcases Int.lt_trichotomy j a with h1 | h1 | h1 <;> rcases Int.lt_trichotomy k a with h2 | h2 | h2
    · rcases Int.lt_trichotomy j k with h | h | h
      · simp [insB, h1, h2, h, show ¬ a = j from by omega, show ¬ a = k from by omega, show ¬ j = k from by omega, show ¬ k = j from by omega, show ¬ k < j from by omega]
      · subst h; simp [insB, h1, show ¬ a = j from by omega, addE_comm]
      · simp [insB, h1, h2, h, show ¬ a = j from by omega, show ¬ a = k from by omega, show ¬ j = k from by omega, show ¬ k = j from by omega, show ¬ j < k from by omega]
    · subst h2; simp [insB, h1, show ¬ k = j from by omega, show ¬ j = k from by omega, show ¬ k < j from by omega]
    · simp [insB, h1, show ¬ a = j from by omega, show ¬ a = k from by omega, show ¬ k < a from by omega, show ¬ j = k from by omega, show ¬ k < j from by omega]
    · subst h1; simp [insB, h2, show ¬ k = j from by omega, show ¬ j = k from by omega, show ¬ j < k from by omega]
    · subst h1; subst h2; simp [insB, addE_right]
    · subst h1; simp [insB, show ¬ j = k from by omega, show ¬ k < j from by omega]
    · simp [insB, h2, show ¬ a = j from by omega, show ¬ a = k from by omega, show ¬ j < a from by omega, show ¬ k = j from by omega, show ¬ j < k from by omega]
    · subst h2; simp [insB, show ¬ k = j from by omega, show ¬ j < k from by omega]
    · simp [insB, show ¬ a = j from by omega, show ¬ a = k from by omega, show ¬ j < a from by omega, show ¬ k < a from by omega, ih]
theorem mem_ins {L : List (Int × Int)} {j n : Int} {p : Int × Int} (h : p ∈ insB L j n) : p ∈ L ∨ p = (j, n) ∨ ∃ v, (j, v) ∈ L ∧ p = (j, addE v n) := by
  induction L with
  | nil => simp [insB] at h; exact .inr (.inl h)
  | cons q r ih =>
    unfold insB at h
    split at h
    · rename_i e
      rcases List.mem_cons.1 h with h | h
      · subst h
        exact .inr (.inr ⟨q.2, by rw [← e]; exact List.mem_cons_self, by rw [e]⟩)
      · exact .inl (List.mem_cons_of_mem _ h)
    · split at h
      · rcases List.mem_cons.1 h with h | h
        · exact .inr (.inl h)
        · exact .inl h
      · rcases List.mem_cons.1 h with h | h
        · exact .inl (by rw [h]; exact List.mem_cons_self)
        · rcases ih h with h | h | ⟨v, h, e⟩
          · exact .inl (List.mem_cons_of_mem _ h)
          · exact .inr (.inl h)
          · exact .inr (.inr ⟨v, List.mem_cons_of_mem _ h, e⟩)
theorem OkL.ins {L : List (Int × Int)} (h : OkL L) {j n : Int} (hj : 0 ≤ j ∧ j ≤ 1099511627776) (hn : 0 ≤ n ∧ n ≤ 9223372036854775807) : OkL (insB L j n) := by
  refine ⟨?_, ?_⟩
  · induction L with
    | nil => simp [insB]
    | cons q r ih =>
      have h' := List.pairwise_cons.1 h.up
      unfold insB
      split
      · exact List.pairwise_cons.2 ⟨h'.1, h'.2⟩
      · split
        · rename_i hlt
          refine List.pairwise_cons.2 ⟨fun p hp => ?_, h.up⟩
          rcases List.mem_cons.1 hp with e | e
          · subst e; exact hlt
          · have := h'.1 p e; show j < p.1; omega
        · rename_i hne hge
          refine List.pairwise_cons.2 ⟨fun p hp => ?_, ih h.tail⟩
          rcases mem_ins hp with e | e | ⟨v, e1, e⟩
          · exact h'.1 p e
          · subst e; show q.1 < j; omega
          · subst e; show q.1 < j; omega
  · intro p hp
    rcases mem_ins hp with e | e | ⟨v, e1, e⟩
    · exact h.good p e
    · subst e; exact ⟨hj, hn⟩
    · subst e; exact ⟨hj, addE_wf _ _⟩
theorem look_none {L : List (Int × Int)} {j : Int} (h : ∀ p ∈ L, j < p.1) : look L j = none := by
  induction L with
  | nil => rfl
  | cons q r ih =>
    have := h q List.mem_cons_self
    unfold look
    rw [if_neg (by omega)]
    exact ih fun p hp => h p (List.mem_cons_of_mem _ hp)
theorem look_ins {L : List (Int × Int)} (h : OkL L) {j n : Int} (hn : 0 ≤ n ∧ n ≤ 9223372036854775807) (k : Int) : look (insB L j n) k = if k = j then some (addE ((look L j).getD 0) n) else look L k := by
  induction L with
  | nil =>
    unfold insB
    simp only [look]
    by_cases e : k = j
    · rw [if_pos e.symm, if_pos e]; simp [addE_zero hn]
    · rw [if_neg (fun e' => e e'.symm), if_neg e]
  | cons q r ih =>
    have h' := List.pairwise_cons.1 h.up
    unfold insB
    split
    · rename_i e
      simp only [look]
      by_cases e2 : k = j
      · rw [if_pos (by omega), if_pos e2, if_pos e]; rfl
      · rw [if_neg (by omega), if_neg e2, if_neg (by omega)]
    · split
      · rename_i hne hlt
        simp only [look]
        by_cases e2 : k = j
        · rw [if_pos e2.symm, if_pos e2, if_neg hne, look_none (fun p hp => by have := h'.1 p hp; omega)]
          simp [addE_zero hn]
        · rw [if_neg (fun e' => e2 e'.symm), if_neg e2]
      · rename_i hne hge
        simp only [look]
        by_cases e2 : k = j
        · rw [if_neg (by omega), ih h.tail, if_pos e2, if_pos e2, if_neg hne]
        · rw [ih h.tail, if_neg e2, if_neg e2]
theorem look_mem {L : List (Int × Int)} {k v : Int} (h : look L k = some v) : (k, v) ∈ L := by
  induction L with
  | nil => cases h
  | cons q r ih =>
    unfold look at h
    split at h
    · rename_i e
      cases h
      rw [← e]; exact List.mem_cons_self
    · exact List.mem_cons_of_mem _ (ih h)
theorem look_of_mem {L : List (Int × Int)} (h : OkL L) {p : Int × Int} (hp : p ∈ L) : look L p.1 = some p.2 := by
  induction L with
  | nil => cases hp
  | cons q r ih =>
    have h' := List.pairwise_cons.1 h.up
    unfold look
    rcases List.mem_cons.1 hp with e | e
    · subst e; rw [if_pos rfl]
    · have := h'.1 p e
      rw [if_neg (by omega)]
      exact ih h.tail e
theorem look_some_iff {L : List (Int × Int)} (h : OkL L) (k : Int) : (look L k).isSome = true ↔ k ∈ L.map (·.1) := by
  rw [Option.isSome_iff_exists, List.mem_map]
  constructor
  · rintro ⟨v, hv⟩; exact ⟨_, look_mem hv, rfl⟩
  · rintro ⟨p, hp, rfl⟩; exact ⟨_, look_of_mem h hp⟩
/-- What a job has. -/
def jobS (L : List (Int × Int)) (j : Int) : Int := (look L j).getD 0
theorem jobS_wf {L : List (Int × Int)} (h : OkL L) (j : Int) : 0 ≤ jobS L j ∧ jobS L j ≤ 9223372036854775807 := by
  unfold jobS
  cases e : look L j with
  | none => simp
  | some v => exact (h.good _ (look_mem e)).2
theorem jobS_ins {L : List (Int × Int)} (h : OkL L) {j n : Int} (hn : 0 ≤ n ∧ n ≤ 9223372036854775807) : jobS (insB L j n) j = addE (jobS L j) n := by
  unfold jobS
  rw [look_ins h hn, if_pos rfl]; rfl
/-- What all have. -/
def allS (L : List (Int × Int)) : Int := L.foldl (fun a p => addE a p.2) 0
def sumV : List (Int × Int) → Int
  | [] => 0
  | p :: r => p.2 + sumV r
theorem sumV_nonneg {L : List (Int × Int)} (h : ∀ p ∈ L, Good p) : 0 ≤ sumV L := by
  induction L with
  | nil => simp [sumV]
  | cons q r ih =>
    have := (h q List.mem_cons_self).2.1
    have := ih fun p hp => h p (List.mem_cons_of_mem _ hp)
    unfold sumV; omega
theorem fold_sum {L : List (Int × Int)} (h : ∀ p ∈ L, Good p) (a : Int) (ha : 0 ≤ a ∧ a ≤ 9223372036854775807) : L.foldl (fun a p => addE a p.2) a = min (a + sumV L) 9223372036854775807 := by
  induction L generalizing a with
  | nil => simp only [List.foldl_nil, sumV]; omega
  | cons q r ih =>
    have g := (h q List.mem_cons_self).2
    have h' : ∀ p ∈ r, Good p := fun p hp => h p (List.mem_cons_of_mem _ hp)
    have hs := sumV_nonneg h'
    rw [List.foldl_cons, ih h' _ (addE_wf _ _)]
    simp only [sumV]
    unfold addE
    omega
theorem allS_sum {L : List (Int × Int)} (h : OkL L) : allS L = min (sumV L) 9223372036854775807 := by
  unfold allS
  rw [fold_sum h.good 0 (by omega)]
  simp
theorem allS_wf {L : List (Int × Int)} (h : OkL L) : 0 ≤ allS L ∧ allS L ≤ 9223372036854775807 := by
  have := sumV_nonneg h.good
  rw [allS_sum h]; omega
theorem sumV_ins {L : List (Int × Int)} (h : OkL L) {j n : Int} (hn : 0 ≤ n ∧ n ≤ 9223372036854775807) : min (sumV (insB L j n)) 9223372036854775807 = min (sumV L + n) 9223372036854775807 := by
  induction L with
  | nil => simp only [insB, sumV]; omega
  | cons q r ih =>
    have g := (h.good q List.mem_cons_self).2
    have hs := sumV_nonneg h.tail.good
    unfold insB
    split
    · simp only [sumV]; unfold addE; omega
    · split
      · simp only [sumV]; omega
      · have := ih h.tail
        simp only [sumV]; omega
theorem allS_ins {L : List (Int × Int)} (h : OkL L) {j n : Int} (hj : 0 ≤ j ∧ j ≤ 1099511627776) (hn : 0 ≤ n ∧ n ≤ 9223372036854775807) : allS (insB L j n) = addE (allS L) n := by
  have hs := sumV_nonneg h.good
  rw [allS_sum (h.ins hj hn), allS_sum h, sumV_ins h hn]
  unfold addE; omega
theorem addE_le {a n : Int} (h : a ≤ 9223372036854775807) : a ≤ addE a n := by unfold addE; omega
/-- A use, noted. -/
structure Us where
  j : Int
  c : Int
  f : Int
  t : Int
  wj : wf j
  wc : wf c
  wr : wf f
  wt : wf t
abbrev Us.v (u : Us) : Value := useV u.j u.c u.f u.t
abbrev Us.may (u : Us) : Bool := mayB u.j u.c u.f u.t
abbrev Us.n (u : Us) : Int := ofN u.j u.c u.f u.t
abbrev Us.e (u : Us) : Int := ofE u.j u.c u.f u.t
def noted (L : List (Int × Int)) (u : Us) : List (Int × Int) := if u.may then insB L u.j u.n else L
theorem Us.jn {u : Us} (h : u.may = true) : 0 ≤ u.j ∧ u.j ≤ 1099511627776 := by
  obtain ⟨h1, h2, _⟩ := may_iff.1 h
  exact ⟨h1, h2⟩
theorem OkL.noted {L : List (Int × Int)} (h : OkL L) (u : Us) : OkL (noted L u) := by
  unfold Ytjolkcomlindhaa.noted
  split
  · rename_i e
    exact h.ins (Us.jn e) (ofN_wf _ _ _ _)
  · exact h
theorem noted_comm (L : List (Int × Int)) (u v : Us) : noted (noted L u) v = noted (noted L v) u := by
  unfold noted
  cases u.may <;> cases v.may <;> simp [insB_comm L u.j u.n v.j v.n]
theorem fold_ok (l : List Us) {L : List (Int × Int)} (h : OkL L) : OkL (l.foldl noted L) := by
  induction l generalizing L with
  | nil => exact h
  | cons u r ih => exact ih (h.noted u)
theorem fold_snoc (l : List Us) (u : Us) (L : List (Int × Int)) : l.foldl noted (noted L u) = noted (l.foldl noted L) u := by
  induction l generalizing L with
  | nil => rfl
  | cons v r ih => rw [List.foldl_cons, List.foldl_cons, noted_comm, ih]
theorem fold_rev (l : List Us) (L : List (Int × Int)) : l.reverse.foldl noted L = l.foldl noted L := by
  induction l generalizing L with
  | nil => rfl
  | cons u r ih => rw [List.reverse_cons, List.foldl_append, ih, List.foldl_cons, List.foldl_cons, List.foldl_nil, fold_snoc]
theorem noted_all {L : List (Int × Int)} (h : OkL L) (u : Us) : allS L ≤ allS (noted L u) := by
  unfold noted
  split
  · rename_i e
    rw [allS_ins h (Us.jn e) (ofN_wf _ _ _ _)]
    exact addE_le (allS_wf h).2
  · exact Int.le_refl _
theorem noted_job {L : List (Int × Int)} (h : OkL L) (u : Us) : jobS L u.j ≤ jobS (noted L u) u.j := by
  unfold noted
  split
  · rw [jobS_ins h (ofN_wf _ _ _ _)]
    exact addE_le (jobS_wf h _).2
  · exact Int.le_refl _
theorem ins_len (L : List (Int × Int)) (j n : Int) : (insB L j n).length ≤ L.length + 1 := by
  induction L with
  | nil => simp [insB]
  | cons q r ih =>
    unfold insB
    split
    · simp
    · split
      · simp
      · simp; omega
theorem noted_len (L : List (Int × Int)) (u : Us) : (noted L u).length ≤ L.length + 1 := by
  unfold noted
  split
  · exact ins_len _ _ _
  · omega
end Go.Proofs.Ytjolkcomlindhaa
