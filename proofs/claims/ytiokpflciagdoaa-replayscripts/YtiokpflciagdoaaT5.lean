/- The program's cache and the document's, held together: plain facts; the document's Use and Revoke, whole. -/
import Derived.Test.YtiokpflciagdoaaT4
namespace Go.Proofs.Ytiokpflciagdoaa
open Go.RowKit Go.Maps

/-- The document's credentials are what the program keeps. -/
def SameL (CL : List Cr) (L : List (Pl × Int)) : Prop := CL.map (fun c => (c.j, c.e, c.s, c.u)) = L.map (fun p => (p.1.j, p.1.e, p.1.s, p.2))
theorem SameL.length {CL : List Cr} {L : List (Pl × Int)} (h : SameL CL L) : CL.length = L.length := by
  have := congrArg List.length h
  simpa using this
theorem SameL.keep {CL : List Cr} {L : List (Pl × Int)} (h : SameL CL L) (now : Int) : SameL (keepC now CL) (keep now L) := by
  have h2 := congrArg (List.filter (fun t : Int × Int × Int × Int => decide (now < t.2.2.2))) h
  rw [List.filter_map, List.filter_map] at h2
  exact h2
theorem SameL.snoc {CL : List Cr} {L : List (Pl × Int)} (h : SameL CL L) {x : Cr} {p : Pl} {u : Int} (hj : x.j = p.j) (he : x.e = p.e) (hs : x.s = p.s) (hu : x.u = u) : SameL (CL ++ [x]) (L ++ [(p, u)]) := by
  unfold SameL at h ⊢
  rw [List.map_append, List.map_append, h]
  simp [hj, he, hs, hu]
theorem pl_iff {a b : Pl} : a = b ↔ a.j = b.j ∧ a.e = b.e ∧ a.s = b.s := ⟨fun h => by rw [h]; exact ⟨rfl, rfl, rfl⟩, fun h => Pl.ext' h.1 h.2.1 h.2.2⟩
/-- Kept, above a time: by the document's list as by the program's. -/
theorem kept_same {CL : List Cr} {L : List (Pl × Int)} (h : SameL CL L) {x : Cr} {p : Pl} (hj : x.j = p.j) (he : x.e = p.e) (hs : x.s = p.s) (now : Int) : keptB CL x now = hasL (keep now L) p := by
  have e1 : keptB CL x now = (CL.map (fun c => (c.j, c.e, c.s, c.u))).any (fun t => (t.1 == x.j) && (t.2.1 == x.e) && (t.2.2.1 == x.s) && decide (now < t.2.2.2)) := by
    rw [List.any_map]
    rfl
  have e2 : hasL (keep now L) p = (L.map (fun p => (p.1.j, p.1.e, p.1.s, p.2))).any (fun t => (t.1 == x.j) && (t.2.1 == x.e) && (t.2.2.1 == x.s) && decide (now < t.2.2.2)) := by
    unfold hasL keep
    rw [List.any_filter, List.any_map]
    congr 1
    funext q
    show (decide (now < q.2) && decide (q.1 = p)) = ((q.1.j == x.j) && (q.1.e == x.e) && (q.1.s == x.s) && decide (now < q.2))
    rw [Bool.eq_iff_iff]
    simp only [Bool.and_eq_true, decide_eq_true_eq, beq_iff_eq, pl_iff, hj, he, hs]
    constructor
    · rintro ⟨h1, h2, h3, h4⟩; exact ⟨⟨⟨h2, h3⟩, h4⟩, h1⟩
    · rintro ⟨⟨⟨h2, h3⟩, h4⟩, h1⟩; exact ⟨h1, h2, h3, h4⟩
  rw [e1, e2, h]
theorem keep_keep (now : Int) (L : List (Pl × Int)) : keep now (keep now L) = keep now L := by
  unfold keep
  rw [List.filter_filter]
  congr 1
  funext p
  simp
theorem used_has {L : List (Pl × Int)} (hL : Apart L) (p : Pl) (now : Int) : usedB L p now = hasL (keep now L) p := by
  rw [Bool.eq_iff_iff, hasL_iff]
  unfold usedB
  rw [Bool.and_eq_true, hasL_iff]
  constructor
  · rintro ⟨⟨u, hu⟩, h2⟩
    rw [getL_of_mem hL hu] at h2
    have h3 : ¬ u ≤ now := by simpa using h2
    exact ⟨u, keep_mem.2 ⟨hu, by show now < u; omega⟩⟩
  · rintro ⟨u, hu⟩
    have h1 := keep_mem.1 hu
    refine ⟨⟨u, h1.1⟩, ?_⟩
    rw [getL_of_mem hL h1.1]
    have h3 : now < u := h1.2
    have h4 : ¬ u ≤ now := by omega
    simp [h4]
theorem back_same {T : List (Jb × Int)} (hT : Apart T) (j : Jb) (e : Int) : backB T j.n e = revB T j e := by
  rw [Bool.eq_iff_iff, revB_get]
  unfold backB
  rw [List.any_eq_true]
  constructor
  · rintro ⟨p, hp, h⟩
    rw [Bool.and_eq_true] at h
    have hj : p.1 = j := Jb.ext' (by simpa using h.1)
    have h2 := getL_of_mem hT (a := p.1) (u := p.2) hp
    rw [hj] at h2
    rw [h2]
    exact h.2
  · intro h
    cases hg : getL T j with
    | none => rw [hg] at h; cases h
    | some g =>
      rw [hg] at h
      exact ⟨(j, g), getL_mem hg, by simp at h ⊢; exact h⟩
/-- What the document's Use tells, and keeps. -/
def ruseOf (ok : Bool) (most : Int) (CL : List Cr) (T : List (Jb × Int)) (x : Cr) (now : Int) : Int × List Cr :=
  if ok = false then (1, CL) else if x.u ≤ now then (8, CL) else if backB T x.j x.e = true then (11, CL)
  else if keptB (keepC now CL) x now = true then (10, keepC now CL) else if ((keepC now CL).length : Int) = most then (6, keepC now CL) else (0, keepC now CL ++ [x])
theorem use_same {CL : List Cr} {L : List (Pl × Int)} {T : List (Jb × Int)} {most : Int} (h : SameL CL L) (hT : Apart T) (hL : (L.length : Int) ≤ most) (ok : Bool) {x : Cr} {p : Pl} (hj : x.j = p.j) (he : x.e = p.e) (hs : x.s = p.s) (now : Int) :
    (ruseOf ok most CL T x now).1 = (useOf ok most L T p x.u now).1 ∧ SameL (ruseOf ok most CL T x now).2 (useOf ok most L T p x.u now).2 := by
  have hk := h.keep now
  have e1 : keptB (keepC now CL) x now = hasL (keep now L) p := by rw [kept_same hk hj he hs, keep_keep]
  have e2 : backB T x.j x.e = revB T p.jb p.e := by rw [hj, he]; exact back_same hT p.jb p.e
  have e3 : (keepC now CL).length = (keep now L).length := hk.length
  have h4 := keep_length now L
  unfold ruseOf useOf
  rw [e1, e2]
  by_cases c1 : ok = false
  · rw [if_pos c1, if_pos c1]; exact ⟨rfl, h⟩
  · rw [if_neg c1, if_neg c1]
    by_cases c2 : x.u ≤ now
    · rw [if_pos c2, if_pos c2]; exact ⟨rfl, h⟩
    · rw [if_neg c2, if_neg c2]
      by_cases c3 : revB T p.jb p.e = true
      · rw [if_pos c3, if_pos c3]; exact ⟨rfl, h⟩
      · rw [if_neg c3, if_neg c3]
        by_cases c4 : hasL (keep now L) p = true
        · rw [if_pos c4, if_pos c4]; exact ⟨rfl, hk⟩
        · rw [if_neg c4, if_neg c4]
          by_cases c5 : most ≤ ((keep now L).length : Int)
          · rw [if_pos c5, if_pos (by rw [e3]; omega)]; exact ⟨rfl, hk⟩
          · rw [if_neg c5, if_neg (by rw [e3]; omega)]
            exact ⟨rfl, hk.snoc hj he hs rfl⟩
theorem ruse_any {w : World} {q : Nat} {most : Int} {sl sb : Value} {CL : List Cr} {T : List (Jb × Int)} (h : RefAt w q most sl sb CL T) (x : Cr) (now : Int) (hz : IntsAt w x.A x.zs) (hn : x.zs.length = x.n) (hL : CL.length ≤ 1000) (hT : T.length ≤ 1000) :
    Calls Try.prog 21 #[.pointer (some ⟨q, 0, none⟩), .agg #[.int .i64 x.j, .int .i64 x.e, .int .i64 x.s, .int .i64 x.f, .int .i64 x.u, .slice x.A x.n x.cap, .int .i64 x.c], .int .i64 now] w fun e w' =>
      ∃ sl', e = .returned (.int .i64 (ruseOf (chkC x) most CL T x now).1) ∧ RefAt w' q most sl' sb (ruseOf (chkC x) most CL T x now).2 T ∧ w.grownBy w' (some q) := by
  have KC := fun V (hV : Below w.heap.size w V) => rcheck_any x.j x.e x.s x.f x.u x.A x.n x.cap x.c x.zs V (hz.next hV) hn
  have KR := fun V (hV : RefAt V q most sl sb CL T) => rrevoked_any hV x hT
  have quiet : ∀ {v : Int}, (Calls Try.prog 21 #[.pointer (some ⟨q, 0, none⟩), .agg #[.int .i64 x.j, .int .i64 x.e, .int .i64 x.s, .int .i64 x.f, .int .i64 x.u, .slice x.A x.n x.cap, .int .i64 x.c], .int .i64 now] w fun e w' => e = .returned (.int .i64 v) ∧ Below w.heap.size w w') →
      Calls Try.prog 21 #[.pointer (some ⟨q, 0, none⟩), .agg #[.int .i64 x.j, .int .i64 x.e, .int .i64 x.s, .int .i64 x.f, .int .i64 x.u, .slice x.A x.n x.cap, .int .i64 x.c], .int .i64 now] w fun e w' => ∃ sl', e = .returned (.int .i64 v) ∧ RefAt w' q most sl' sb CL T ∧ w.grownBy w' (some q) :=
    fun hh => hh.mono fun _ _ ⟨he, hb⟩ => ⟨sl, he, h.next hb, (only_of_below hb).but _⟩
  unfold ruseOf
  by_cases h1 : chkC x = false
  · rw [if_pos h1]
    rw [show chk x.j x.e x.s x.f x.u x.c x.n x.zs = false from h1] at KC
    exact quiet (ruse_bad h x now KC)
  · rw [if_neg h1]
    rw [Bool.not_eq_false] at h1
    rw [show chk x.j x.e x.s x.f x.u x.c x.n x.zs = true from h1] at KC
    by_cases h2 : x.u ≤ now
    · rw [if_pos h2]
      exact quiet (ruse_time h x now KC h2)
    · rw [if_neg h2]
      by_cases h3 : backB T x.j x.e = true
      · rw [if_pos h3]
        rw [h3] at KR
        exact quiet (ruse_rev h x now KC h2 KR)
      · rw [if_neg h3]
        rw [Bool.not_eq_true] at h3
        rw [h3] at KR
        by_cases h4 : keptB (keepC now CL) x now = true
        · rw [if_pos h4]
          exact ruse_replay h x now KC h2 KR hL h4
        · rw [if_neg h4]
          rw [Bool.not_eq_true] at h4
          by_cases h5 : ((keepC now CL).length : Int) = most
          · rw [if_pos h5]
            exact ruse_full h x now KC h2 KR hL h4 h5
          · rw [if_neg h5]
            exact ruse_ok h x now KC h2 KR hL h4 h5
theorem rrev_any {w : World} {q : Nat} {most : Int} {sl sb : Value} {CL : List Cr} {T : List (Jb × Int)} (h : RefAt w q most sl sb CL T) (hA : Apart T) (j : Jb) (e : Int) (hT : T.length ≤ 64) :
    Calls Try.prog 22 #[.pointer (some ⟨q, 0, none⟩), .int .i64 j.n, .int .i64 e] w fun x w' => ∃ sb', x = .returned (.int .i64 (revOf T j e).1) ∧ RefAt w' q most sl sb' CL (revOf T j e).2 ∧ w.grownBy w' (some q) := by
  unfold revOf
  by_cases h1 : j.n < 0 ∨ 1099511627776 < j.n ∨ e < 0 ∨ 8 < e
  · rw [if_pos h1]
    exact (rrev_arg q j.n e w h1).mono fun _ _ ⟨he, hw⟩ => ⟨sb, he, hw ▸ h, hw ▸ grown_refl w q⟩
  · rw [if_neg h1]
    cases hg : getL T j with
    | some g =>
      have hh : hasL T j = true := by rw [← getL_isSome, hg]; rfl
      have := rrev_more h j e (by omega) (by omega) (by omega) (by omega) (by omega) hh
      rw [updT_some hA hg] at this
      exact this
    | none =>
      have hh : hasL T j = false := by rw [← getL_isSome, hg]; rfl
      by_cases h2 : 64 ≤ T.length
      · simp only [if_pos h2]
        exact (rrev_full h j e (by omega) (by omega) (by omega) (by omega) (by omega) hh (by omega)).mono fun _ _ ⟨he, hb⟩ => ⟨sb, he, h.next hb, (only_of_below hb).but _⟩
      · simp only [if_neg h2]
        exact rrev_new h j e (by omega) (by omega) (by omega) (by omega) (by omega) hh (by omega)
end Go.Proofs.Ytiokpflciagdoaa
