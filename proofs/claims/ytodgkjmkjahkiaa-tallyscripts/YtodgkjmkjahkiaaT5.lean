/- tally: Vote, Exit. -/
import Derived.Test.YtodgkjmkjahkiaaT4
import Derived.Deep.RegionWith
namespace Go.Proofs.Ytodgkjmkjahkiaa
open Go.RowKit Go.Maps

theorem grown_comp {w w1 w2 : World} {b : Nat} (h : Below w.heap.size w w1) (g : w1.grownBy w2 (some b)) : w.grownBy w2 (some b) :=
  ⟨g.os.trans h.os, g.tape.trans h.tape, g.output.trans h.output, Nat.le_trans h.size g.size, fun i hi hne => (g.block i (Nat.lt_of_lt_of_le hi h.size) hne).trans (h.block i hi)⟩
theorem grown_comp2 {w w1 w2 : World} {b : Nat} (g : w.grownBy w1 (some b)) (h : Below w1.heap.size w1 w2) : w.grownBy w2 (some b) :=
  ⟨h.os.trans g.os, h.tape.trans g.tape, h.output.trans g.output, Nat.le_trans g.size h.size, fun i hi hne => (h.block i (Nat.lt_of_lt_of_le hi g.size)).trans (g.block i hi hne)⟩
theorem grown_low {w w1 : World} {b : Nat} (h : Below w.heap.size w w1) : w.grownBy w1 (some b) := ⟨h.os, h.tape, h.output, h.size, fun i hi _ => h.block i hi⟩
theorem grown_grown {w w1 w2 : World} {b : Nat} (g : w.grownBy w1 (some b)) (h : w1.grownBy w2 (some b)) : w.grownBy w2 (some b) :=
  ⟨h.os.trans g.os, h.tape.trans g.tape, h.output.trans g.output, Nat.le_trans g.size h.size, fun i hi hne => (h.block i (Nat.lt_of_lt_of_le hi g.size) hne).trans (g.block i hi hne)⟩
/-- What is said, and what is then there. -/
def Sd (V : List En) (n : Int) (v : Value) (m : Bool) (V' : List En) (er : Int) : Prop :=
  (∃ x, lk V n = some x ∧ x.v = v ∧ V' = V ∧ er = 0) ∨ (∃ x, lk V n = some x ∧ x.v ≠ v ∧ V' = V ∧ er = 14) ∨ (lk V n = none ∧ m = false ∧ V' = V ∧ er = 14) ∨ (lk V n = none ∧ m = true ∧ er = 0 ∧ ∃ b', V' = V ++ [⟨n, v, b'⟩])
theorem sayB_all {w : World} {b k : Nat} {V : List En} (h : MpAt w b k 4 V) (hk : k ≤ 1000) {n : Int} (hw : wf n) (hb : ∀ x ∈ V, ∃ z, x.v = .bool z) (y m : Bool) :
    Calls Try.prog 64 #[.map (some b), .int .i64 n, .bool y, .bool m] w fun e w' => ∃ k' V' er, e = .returned (.int .i64 er) ∧ k' ≤ k + 1 ∧ w.grownBy w' (some b) ∧ MpAt w' b k' 4 V' ∧ Sd V n (.bool y) m V' er := by
  cases hx : lk V n with
  | some x =>
    obtain ⟨z, hz⟩ := hb x (lk_mem hx).1
    refine (sayB_has h hx hz y m).mono ?_
    rintro e w' ⟨rfl, hb'⟩
    refine ⟨k, V, _, rfl, by omega, grown_low hb', h.next hb', ?_⟩
    cases hzy : (z == y)
    · exact .inr (.inl ⟨x, hx, by rw [hz]; intro e; injection e with e; rw [e] at hzy; simp at hzy, rfl, rfl⟩)
    · exact .inl ⟨x, hx, by rw [hz, (by simpa using hzy : z = y)], rfl, rfl⟩
  | none =>
    cases m
    · refine (sayB_no h hw hx y).mono ?_
      rintro e w' ⟨rfl, hb'⟩
      exact ⟨k, V, _, rfl, by omega, grown_low hb', h.next hb', .inr (.inr (.inl ⟨hx, rfl, rfl, rfl⟩))⟩
    · refine (sayB_put h hk hw hx y).mono ?_
      rintro e w' ⟨rfl, w1, h1, _, h3, h4⟩
      exact ⟨k + 1, _, _, rfl, Nat.le_refl _, grown_comp h1 h3, h4, .inr (.inr (.inr ⟨hx, rfl, rfl, _, rfl⟩))⟩
theorem sayI_all {w : World} {b k : Nat} {V : List En} (h : MpAt w b k 3 V) (hk : k ≤ 1000) {n : Int} (hw : wf n) (hb : ∀ x ∈ V, ∃ z, x.v = .int .i64 z) (y : Int) (m : Bool) :
    Calls Try.prog 65 #[.map (some b), .int .i64 n, .int .i64 y, .bool m] w fun e w' => ∃ k' V' er, e = .returned (.int .i64 er) ∧ k' ≤ k + 1 ∧ w.grownBy w' (some b) ∧ MpAt w' b k' 3 V' ∧ Sd V n (.int .i64 y) m V' er := by
  cases hx : lk V n with
  | some x =>
    obtain ⟨z, hz⟩ := hb x (lk_mem hx).1
    refine (sayI_has h hx hz y m).mono ?_
    rintro e w' ⟨rfl, hb'⟩
    refine ⟨k, V, _, rfl, by omega, grown_low hb', h.next hb', ?_⟩
    cases hzy : (z == y)
    · exact .inr (.inl ⟨x, hx, by rw [hz]; intro e; injection e with _ e; rw [e] at hzy; simp at hzy, rfl, rfl⟩)
    · exact .inl ⟨x, hx, by rw [hz, (by simpa using hzy : z = y)], rfl, rfl⟩
  | none =>
    cases m
    · refine (sayI_no h hw hx y).mono ?_
      rintro e w' ⟨rfl, hb'⟩
      exact ⟨k, V, _, rfl, by omega, grown_low hb', h.next hb', .inr (.inr (.inl ⟨hx, rfl, rfl, rfl⟩))⟩
    · refine (sayI_put h hk hw hx y).mono ?_
      rintro e w' ⟨rfl, w1, h1, _, h3, h4⟩
      exact ⟨k + 1, _, _, rfl, Nat.le_refl _, grown_comp h1 h3, h4, .inr (.inr (.inr ⟨hx, rfl, rfl, _, rfl⟩))⟩
/-- A node's place. -/
def ixN (ns : List Int) (n : Int) : Option Nat := leastR (fun i => ns.getD i 0 == n) ns.length
def vI (y : Bool) : Int := if y then 1 else 2
def voteE (T : Tv) (n : Int) (y : Bool) : Int := match ixN T.ns n with
  | none => 1
  | some i => if T.vs.getD i 0 = vI y then 0 else if T.vs.getD i 0 ≠ 0 ∨ T.st ≠ 0 then 14 else 0
def voteT (T : Tv) (n : Int) (y : Bool) : Tv := match ixN T.ns n with
  | none => T
  | some i => if T.vs.getD i 0 = vI y then T else if T.vs.getD i 0 ≠ 0 ∨ T.st ≠ 0 then T else { T with vs := T.vs.set i (vI y) }
def exitE (T : Tv) (n c : Int) : Int := match ixN T.ns n with
  | none => 1
  | some i => if c < 0 ∨ c > 255 then 1 else if T.cs.getD i 0 = c then 0 else if T.cs.getD i 0 ≠ -1 ∨ T.st ≠ 1 then 14 else 0
def exitT (T : Tv) (n c : Int) : Tv := match ixN T.ns n with
  | none => T
  | some i => if c < 0 ∨ c > 255 then T else if T.cs.getD i 0 = c then T else if T.cs.getD i 0 ≠ -1 ∨ T.st ≠ 1 then T else { T with cs := T.cs.set i c }
theorem ixN_some {ns : List Int} {n : Int} {i : Nat} (h : ixN ns n = some i) : i < ns.length ∧ ns.getD i 0 = n := by
  have := leastR_spec h
  exact ⟨this.1, by simpa using this.2⟩
theorem ixN_none {ns : List Int} {n : Int} : ixN ns n = none ↔ hasB ns n = false := by
  unfold ixN
  rw [leastR_none, ← Bool.not_eq_true, hasB_at]
  constructor
  · rintro h ⟨i, hi, e⟩
    have := h i hi
    rw [e, beq_self_eq_true] at this
    cases this
  · intro h i hi
    cases e : (ns.getD i 0 == n) with
    | false => rfl
    | true => exact absurd ⟨i, hi, by simpa using e⟩ h
theorem getD_inj {ns : List Int} (h : ns.Nodup) {i j : Nat} (hi : i < ns.length) (hj : j < ns.length) (e : ns.getD i 0 = ns.getD j 0) : i = j := by
  rw [List.getD_eq_getElem?_getD, List.getD_eq_getElem?_getD, List.getElem?_eq_getElem hi, List.getElem?_eq_getElem hj] at e
  have e : ns[i] = ns[j] := e
  rw [List.nodup_iff_pairwise_ne, List.pairwise_iff_getElem] at h
  rcases Nat.lt_trichotomy i j with q | q | q
  · exact absurd e (h i j hi hj q)
  · exact q
  · exact absurd e.symm (h j i hj hi q)
theorem mem_getD {ns : List Int} {i : Nat} (hi : i < ns.length) : ns.getD i 0 ∈ ns := by
  rw [List.getD_eq_getElem?_getD, List.getElem?_eq_getElem hi]; exact List.getElem_mem _
/-- A vote that was said. -/
theorem vote_said {T : Tv} {V V' : List En} {n er : Int} {y : Bool} {i : Nat} (h : AgV V T.ns T.vs) (hn : T.ns.Nodup) (hx : ixN T.ns n = some i) (hs : Sd V n (.bool y) (T.st == 0) V' er) : er = voteE T n y ∧ AgV V' T.ns (voteT T n y).vs ∧ (voteT T n y).ns = T.ns ∧ (voteT T n y).cs = T.cs := by
  obtain ⟨hi, hni⟩ := ixN_some hx
  have ha := h.at_ i hi
  rw [hni] at ha
  unfold voteE voteT
  simp only [hx]
  rcases hs with ⟨x, h1, h2, rfl, rfl⟩ | ⟨x, h1, h2, rfl, rfl⟩ | ⟨h1, h2, rfl, rfl⟩ | ⟨h1, h2, rfl, b', rfl⟩
  · have hv : T.vs.getD i 0 = vI y := by
      rcases ha with ⟨h3, _⟩ | ⟨x', h3, h4⟩
      · rw [h1] at h3; cases h3
      · rw [h1] at h3
        cases h3
        rcases h4 with ⟨h4, h5⟩ | ⟨h4, h5⟩
        · rw [h2] at h4; cases y <;> simp_all [vI]
        · rw [h2] at h4; cases y <;> simp_all [vI]
    rw [if_pos hv, if_pos hv]
    exact ⟨rfl, h, rfl, rfl⟩
  · have hv : T.vs.getD i 0 ≠ vI y ∧ T.vs.getD i 0 ≠ 0 := by
      rcases ha with ⟨h3, _⟩ | ⟨x', h3, h4⟩
      · rw [h1] at h3; cases h3
      · rw [h1] at h3
        cases h3
        rcases h4 with ⟨h4, h5⟩ | ⟨h4, h5⟩
        · rw [h4] at h2; cases y <;> simp_all [vI]
        · rw [h4] at h2; cases y <;> simp_all [vI]
    rw [if_neg hv.1, if_neg hv.1, if_pos (.inl hv.2), if_pos (.inl hv.2)]
    exact ⟨rfl, h, rfl, rfl⟩
  · have hv : T.vs.getD i 0 = 0 := by
      rcases ha with ⟨_, h3⟩ | ⟨x', h3, _⟩
      · exact h3
      · rw [h1] at h3; cases h3
    have hst : T.st ≠ 0 := by simpa using h2
    have hne : T.vs.getD i 0 ≠ vI y := by rw [hv]; cases y <;> simp [vI]
    rw [if_neg hne, if_neg hne, if_pos (.inr hst), if_pos (.inr hst)]
    exact ⟨rfl, h, rfl, rfl⟩
  · have hv : T.vs.getD i 0 = 0 := by
      rcases ha with ⟨_, h3⟩ | ⟨x', h3, _⟩
      · exact h3
      · rw [h1] at h3; cases h3
    have hst : T.st = 0 := by simpa using h2
    have hne : T.vs.getD i 0 ≠ vI y := by rw [hv]; cases y <;> simp [vI]
    have hno : ¬ (T.vs.getD i 0 ≠ 0 ∨ T.st ≠ 0) := by rintro (h | h) <;> contradiction
    rw [if_neg hne, if_neg hne, if_neg hno, if_neg hno]
    refine ⟨rfl, ⟨by rw [List.length_set]; exact h.len, fun j hj => ?_, fun x hx2 => ?_⟩, rfl, rfl⟩
    · rw [lk_snoc (x := ⟨n, .bool y, b'⟩) h1]
      by_cases e : j = i
      · subst e
        rw [hni, if_pos rfl, set_same (by rw [h.len]; exact hi)]
        exact .inr ⟨_, rfl, by cases y <;> simp [vI]⟩
      · rw [if_neg (fun q => e (getD_inj hn hj hi (q.trans hni.symm))), set_other e]
        exact h.at_ j hj
    · rcases List.mem_append.1 hx2 with q | q
      · exact h.keys x q
      · have q : x = ⟨n, .bool y, b'⟩ := by simpa using q
        rw [q]
        rw [← hni]
        exact mem_getD hi
/-- A code that was said. -/
theorem exit_said {T : Tv} {V V' : List En} {n er c : Int} {i : Nat} (h : AgC V T.ns T.cs) (hn : T.ns.Nodup) (hx : ixN T.ns n = some i) (hc : 0 ≤ c ∧ c ≤ 255) (hs : Sd V n (.int .i64 c) (T.st == 1) V' er) : er = exitE T n c ∧ AgC V' T.ns (exitT T n c).cs ∧ (exitT T n c).ns = T.ns ∧ (exitT T n c).vs = T.vs := by
  obtain ⟨hi, hni⟩ := ixN_some hx
  have ha := h.at_ i hi
  rw [hni] at ha
  have hcc : ¬ (c < 0 ∨ c > 255) := by omega
  unfold exitE exitT
  simp only [hx, if_neg hcc]
  rcases hs with ⟨x, h1, h2, rfl, rfl⟩ | ⟨x, h1, h2, rfl, rfl⟩ | ⟨h1, h2, rfl, rfl⟩ | ⟨h1, h2, rfl, b', rfl⟩
  · have hv : T.cs.getD i 0 = c := by
      rcases ha with ⟨h3, _⟩ | ⟨x', h3, h4, _⟩
      · rw [h1] at h3; cases h3
      · rw [h1] at h3
        cases h3
        rw [h2] at h4
        injection h4 with _ h4
        exact h4.symm
    rw [if_pos hv, if_pos hv]
    exact ⟨rfl, h, rfl, rfl⟩
  · have hv : T.cs.getD i 0 ≠ c ∧ T.cs.getD i 0 ≠ -1 := by
      rcases ha with ⟨h3, _⟩ | ⟨x', h3, h4, h5⟩
      · rw [h1] at h3; cases h3
      · rw [h1] at h3
        cases h3
        exact ⟨fun e => h2 (by rw [h4, e]), by omega⟩
    rw [if_neg hv.1, if_neg hv.1, if_pos (.inl hv.2), if_pos (.inl hv.2)]
    exact ⟨rfl, h, rfl, rfl⟩
  · have hv : T.cs.getD i 0 = -1 := by
      rcases ha with ⟨_, h3⟩ | ⟨x', h3, _⟩
      · exact h3
      · rw [h1] at h3; cases h3
    have hst : T.st ≠ 1 := by simpa using h2
    have hne : T.cs.getD i 0 ≠ c := by omega
    rw [if_neg hne, if_neg hne, if_pos (.inr hst), if_pos (.inr hst)]
    exact ⟨rfl, h, rfl, rfl⟩
  · have hv : T.cs.getD i 0 = -1 := by
      rcases ha with ⟨_, h3⟩ | ⟨x', h3, _⟩
      · exact h3
      · rw [h1] at h3; cases h3
    have hst : T.st = 1 := by simpa using h2
    have hne : T.cs.getD i 0 ≠ c := by omega
    have hno : ¬ (T.cs.getD i 0 ≠ -1 ∨ T.st ≠ 1) := by rintro (h | h) <;> contradiction
    rw [if_neg hne, if_neg hne, if_neg hno, if_neg hno]
    refine ⟨rfl, ⟨by rw [List.length_set]; exact h.len, fun j hj => ?_, fun x hx2 => ?_⟩, rfl, rfl⟩
    · rw [lk_snoc (x := ⟨n, .int .i64 c, b'⟩) h1]
      by_cases e : j = i
      · subst e
        rw [hni, if_pos rfl, set_same (by rw [h.len]; exact hi)]
        exact .inr ⟨_, rfl, rfl, hc⟩
      · rw [if_neg (fun q => e (getD_inj hn hj hi (q.trans hni.symm))), set_other e]
        exact h.at_ j hj
    · rcases List.mem_append.1 hx2 with q | q
      · exact h.keys x q
      · have q : x = ⟨n, .int .i64 c, b'⟩ := by simpa using q
        rw [q]
        rw [← hni]
        exact mem_getD hi
theorem vals_int {V : List En} {ns cs : List Int} (h : AgC V ns cs) (hu : V.Pairwise fun a b => a.n ≠ b.n) : ∀ x ∈ V, ∃ z, x.v = .int .i64 z := by
  intro x hx
  obtain ⟨i, hi, e⟩ := List.getElem_of_mem (h.keys x hx)
  have hg : ns.getD i 0 = x.n := by rw [List.getD_eq_getElem?_getD, List.getElem?_eq_getElem hi]; exact e
  have hl := lk_of_mem hu hx
  rcases h.at_ i hi with ⟨h1, _⟩ | ⟨y, h0, h1, _⟩
  · rw [hg, hl] at h1; cases h1
  · rw [hg, hl] at h0
    cases h0
    exact ⟨_, h1⟩
theorem vote_none {T : Tv} {n : Int} {y : Bool} (h : hasB T.ns n = false) : voteE T n y = 1 ∧ voteT T n y = T := by
  unfold voteE voteT; rw [ixN_none.2 h]; exact ⟨rfl, rfl⟩
theorem exit_none {T : Tv} {n c : Int} (h : hasB T.ns n = false) : exitE T n c = 1 ∧ exitT T n c = T := by
  unfold exitE exitT; rw [ixN_none.2 h]; exact ⟨rfl, rfl⟩
theorem exit_out {T : Tv} {n c : Int} (h : c < 0 ∨ c > 255) : exitE T n c = 1 ∧ exitT T n c = T := by
  unfold exitE exitT
  cases ixN T.ns n
  · exact ⟨rfl, rfl⟩
  · simp only [if_pos h]; exact ⟨trivial, trivial⟩
theorem ix_of {ns : List Int} {n : Int} (h : hasB ns n = true) : ∃ i, ixN ns n = some i := by
  cases e : ixN ns n with
  | none => rw [ixN_none.1 e] at h; cases h
  | some i => exact ⟨i, rfl⟩
end Go.Proofs.Ytodgkjmkjahkiaa
