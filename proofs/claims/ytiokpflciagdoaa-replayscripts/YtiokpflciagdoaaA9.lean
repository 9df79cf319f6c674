/- Use and Revoke, whole; the calls on nil. -/
import Derived.Test.YtiokpflciagdoaaA7
import Derived.Test.YtiokpflciagdoaaA8
namespace Go.Proofs.Ytiokpflciagdoaa
open Go.RowKit Go.Maps

/-- What Use tells, and what is kept then. -/
def useOf (ok : Bool) (most : Int) (L : List (Pl × Int)) (T : List (Jb × Int)) (x : Pl) (u now : Int) : Int × List (Pl × Int) :=
  if ok = false then (1, L) else if u ≤ now then (8, L) else if revB T x.jb x.e = true then (11, L)
  else if hasL (keep now L) x = true then (10, keep now L) else if most ≤ (keep now L).length then (6, keep now L) else (0, keep now L ++ [(x, u)])
/-- What Revoke tells, and what is taken back then. -/
def revOf (T : List (Jb × Int)) (j : Jb) (e : Int) : Int × List (Jb × Int) :=
  if j.n < 0 ∨ 1099511627776 < j.n ∨ e < 0 ∨ 8 < e then (1, T)
  else match getL T j with
    | some g => (0, setL T j (max g e))
    | none => if 64 ≤ T.length then (6, T) else (0, T ++ [(j, e)])
theorem keep_length (now : Int) (L : List (Pl × Int)) : (keep now L).length ≤ L.length := List.length_filter_le _ _
theorem grown_refl (w : World) (b : Nat) : w.grownBy w (some b) := ⟨rfl, rfl, rfl, Nat.le_refl _, fun _ _ _ => rfl⟩
theorem use_any {w : World} {p bk bt : Nat} {most : Int} {L : List (Pl × Int)} {T : List (Jb × Int)} (h : CacheAt w p bk bt most L T) (x : Pl) (f u : Int) (A : Option Addr) (n cap : Nat) (c now : Int) (zs : List Int)
    (hz : IntsAt w A zs) (hn : zs.length = n) (hm : n ≤ maxLen) (hwu : wf u) (hL : L.length ≤ 1000) :
    Calls Try.prog 18 #[.pointer (some ⟨p, 0, none⟩), .agg #[.int .i64 x.j, .int .i64 x.e, .int .i64 x.s, .int .i64 f, .int .i64 u, .slice A n cap, .int .i64 c], .int .i64 now] w fun e w' =>
      e = .returned (.int .i64 (useOf (chk x.j x.e x.s f u c n zs) most L T x u now).1) ∧ CacheAt w' p bk bt most (useOf (chk x.j x.e x.s f u c n zs) most L T x u now).2 T ∧ w.grownBy w' (some bk) := by
  have KC := fun V (hV : Below w.heap.size w V) => check_any x.j x.e x.s f u A n cap c zs V (hz.next hV) hn hm
  have KR := fun V (hV : CacheAt V p bk bt most L T) => revoked_any hV x.jb x.e x.s f u A n cap c
  have quiet : ∀ {v : Int}, (Calls Try.prog 18 #[.pointer (some ⟨p, 0, none⟩), .agg #[.int .i64 x.j, .int .i64 x.e, .int .i64 x.s, .int .i64 f, .int .i64 u, .slice A n cap, .int .i64 c], .int .i64 now] w fun e w' => e = .returned (.int .i64 v) ∧ Below w.heap.size w w') →
      Calls Try.prog 18 #[.pointer (some ⟨p, 0, none⟩), .agg #[.int .i64 x.j, .int .i64 x.e, .int .i64 x.s, .int .i64 f, .int .i64 u, .slice A n cap, .int .i64 c], .int .i64 now] w fun e w' => e = .returned (.int .i64 v) ∧ CacheAt w' p bk bt most L T ∧ w.grownBy w' (some bk) :=
    fun hh => hh.mono fun _ _ ⟨he, hb⟩ => ⟨he, h.next hb, (only_of_below hb).but _⟩
  unfold useOf
  by_cases h1 : chk x.j x.e x.s f u c n zs = false
  · rw [if_pos h1]
    rw [h1] at KC
    exact quiet (use_bad h x f u A n cap c now KC)
  · rw [if_neg h1]
    rw [Bool.not_eq_false] at h1
    rw [h1] at KC
    by_cases h2 : u ≤ now
    · rw [if_pos h2]
      exact quiet (use_time h x f u A n cap c now KC h2)
    · rw [if_neg h2]
      by_cases h3 : revB T x.jb x.e = true
      · rw [if_pos h3]
        rw [h3] at KR
        exact quiet (use_rev h x f u A n cap c now KC h2 KR)
      · rw [if_neg h3]
        rw [Bool.not_eq_true] at h3
        rw [h3] at KR
        by_cases h4 : hasL (keep now L) x = true
        · rw [if_pos h4]
          exact use_replay h x f u A n cap c now KC h2 KR h4
        · rw [if_neg h4]
          rw [Bool.not_eq_true] at h4
          by_cases h5 : most ≤ (keep now L).length
          · rw [if_pos h5]
            exact use_full h x f u A n cap c now KC h2 KR h4 h5
          · rw [if_neg h5]
            exact use_ok h x f u A n cap c now KC h2 KR h4 h5 (Nat.le_trans (keep_length _ _) hL) hwu
theorem CacheAt.wfT {w : World} {p bk bt : Nat} {most : Int} {L : List (Pl × Int)} {T : List (Jb × Int)} (h : CacheAt w p bk bt most L T) {x : Jb} {g : Int} (hg : getL T x = some g) : wf g := by
  obtain ⟨D, h1, h2⟩ := h.tak
  obtain ⟨v, ps, hr, hv⟩ := h1.look_ok law3 Try.underlying55 (zero3 w) (plainElem_int Try.underlying3 (by decide)) (jk_mk x)
  rw [h2.at_ keyFnJ (h1.tidy law3), hg] at hv
  obtain ⟨c, rfl, hc, hw⟩ := plainElem_int_inv Try.underlying3 hv
  have e : g = c := by
    have := congrArg Prod.fst hc
    simpa using this
  rw [e]
  exact hw
theorem rev_any {w : World} {p bk bt : Nat} {most : Int} {L : List (Pl × Int)} {T : List (Jb × Int)} (h : CacheAt w p bk bt most L T) (j : Jb) (e : Int) (hwe : wf e) (hT : T.length ≤ 64) :
    Calls Try.prog 19 #[.pointer (some ⟨p, 0, none⟩), .int .i64 j.n, .int .i64 e] w fun x w' => x = .returned (.int .i64 (revOf T j e).1) ∧ CacheAt w' p bk bt most L (revOf T j e).2 ∧ w.grownBy w' (some bt) := by
  unfold revOf
  by_cases h1 : j.n < 0 ∨ 1099511627776 < j.n ∨ e < 0 ∨ 8 < e
  · rw [if_pos h1]
    exact (revoke_arg p j.n e w h1).mono fun _ _ ⟨he, hw⟩ => ⟨he, hw ▸ h, hw ▸ grown_refl w bt⟩
  · rw [if_neg h1]
    cases hg : getL T j with
    | some g =>
      refine revoke_more h j e g _ (by omega) (by omega) (by omega) (by omega) hg hT rfl ?_
      by_cases hge : g ≤ e
      · rw [show max g e = e by omega]; exact hwe
      · rw [show max g e = g by omega]; exact h.wfT hg
    | none =>
      have hh : hasL T j = false := by rw [← getL_isSome, hg]; rfl
      by_cases h2 : 64 ≤ T.length
      · simp only [if_pos h2]
        exact (revoke_full h j e (by omega) (by omega) (by omega) (by omega) hh h2).mono fun _ _ ⟨he, hw⟩ => ⟨he, hw ▸ h, hw ▸ grown_refl w bt⟩
      · simp only [if_neg h2]
        exact revoke_new h j e (by omega) (by omega) (by omega) (by omega) hh h2 hwe
theorem revOf_length {T : List (Jb × Int)} (h : T.length ≤ 64) (j : Jb) (e : Int) : (revOf T j e).2.length ≤ 64 := by
  unfold revOf
  split
  · exact h
  · cases getL T j with
    | some g => show (setL T j _).length ≤ 64; rw [setL_length]; exact h
    | none =>
      show (if 64 ≤ T.length then ((6 : Int), T) else (0, T ++ [(j, e)])).2.length ≤ 64
      split
      · exact h
      · show (T ++ [(j, e)]).length ≤ 64; rw [List.length_append, List.length_singleton]; omega

set_option maxRecDepth 100000 in
set_option maxHeartbeats 400000 in
theorem use_nil (j e s f u : Int) (A : Option Addr) (n cap : Nat) (c now : Int) (w : World) :
    Calls Try.prog 18 #[.pointer none, .agg #[.int .i64 j, .int .i64 e, .int .i64 s, .int .i64 f, .int .i64 u, .slice A n cap, .int .i64 c], .int .i64 now] w fun x w' => x = .returned (.int .i64 1) ∧ Below w.heap.size w w' := by
  go_enter Try.func18, Try.ntmps18
  go_wp2_with fail
  go_ret
  exact ⟨rfl, below_alloc _ _⟩
set_option maxRecDepth 100000 in
set_option maxHeartbeats 400000 in
theorem used_nil (j e s f u : Int) (A : Option Addr) (n cap : Nat) (c now : Int) (w : World) :
    Calls Try.prog 14 #[.pointer none, .agg #[.int .i64 j, .int .i64 e, .int .i64 s, .int .i64 f, .int .i64 u, .slice A n cap, .int .i64 c], .int .i64 now] w fun x w' => x = .returned (.bool false) ∧ Below w.heap.size w w' := by
  go_enter Try.func14, Try.ntmps14
  go_wp2_with fail
  go_ret
  exact ⟨rfl, below_alloc _ _⟩
set_option maxRecDepth 100000 in
set_option maxHeartbeats 400000 in
theorem revoked_nil (j e s f u : Int) (A : Option Addr) (n cap : Nat) (c : Int) (w : World) :
    Calls Try.prog 16 #[.pointer none, .agg #[.int .i64 j, .int .i64 e, .int .i64 s, .int .i64 f, .int .i64 u, .slice A n cap, .int .i64 c]] w fun x w' => x = .returned (.bool false) ∧ Below w.heap.size w w' := by
  go_enter Try.func16, Try.ntmps16
  go_wp2_with fail
  go_ret
  exact ⟨rfl, below_alloc _ _⟩
set_option maxRecDepth 100000 in
set_option maxHeartbeats 400000 in
theorem len_nil (w : World) : Calls Try.prog 13 #[.pointer none] w fun x w' => x = .returned (.int .i64 0) ∧ w = w' := by
  go_enter Try.func13, Try.ntmps13
  go_wp2_with fail
  go_ret
  exact ⟨rfl, rfl⟩
end Go.Proofs.Ytiokpflciagdoaa
