/- Revoke. -/
import Derived.Test.YtiokpflciagdoaaA4
namespace Go.Proofs.Ytiokpflciagdoaa
open Go.RowKit Go.Maps

theorem map_not_nil (b : Nat) (w : World) : (binOp BinOp.eql 55 (.map (some b)) (.map none)).run Try.prog w = .ok (.bool false) w := by kernel_rfl

set_option maxRecDepth 100000 in
set_option maxHeartbeats 400000 in
theorem revoke_arg (p : Nat) (j e : Int) (w : World) (h : j < 0 ∨ 1099511627776 < j ∨ e < 0 ∨ 8 < e) :
    Calls Try.prog 19 #[.pointer (some ⟨p, 0, none⟩), .int .i64 j, .int .i64 e] w fun x w' => x = .returned (.int .i64 1) ∧ w = w' := by
  by_cases h1 : j < 0
  · go_enter Try.func19, Try.ntmps19
    go_wp2_with fail
    go_ret
    exact ⟨rfl, rfl⟩
  · by_cases h2 : 1099511627776 < j
    · go_enter Try.func19, Try.ntmps19
      go_wp2_with fail
      go_ret
      exact ⟨rfl, rfl⟩
    · by_cases h3 : e < 0
      · go_enter Try.func19, Try.ntmps19
        go_wp2_with fail
        go_ret
        exact ⟨rfl, rfl⟩
      · have h4 : 8 < e := by omega
        clear h
        go_enter Try.func19, Try.ntmps19
        go_wp2_with fail
        go_ret
        exact ⟨rfl, rfl⟩
set_option maxRecDepth 100000 in
set_option maxHeartbeats 400000 in
theorem revoke_nil (j e : Int) (w : World) : Calls Try.prog 19 #[.pointer none, .int .i64 j, .int .i64 e] w fun x w' => x = .returned (.int .i64 1) ∧ w = w' := by
  go_enter Try.func19, Try.ntmps19
  go_wp2_with fail
  go_ret
  exact ⟨rfl, rfl⟩
set_option maxRecDepth 100000 in
set_option maxHeartbeats 1000000 in
theorem revoke_full {w : World} {p bk bt : Nat} {most : Int} {L : List (Pl × Int)} {T : List (Jb × Int)} (h : CacheAt w p bk bt most L T) (j : Jb) (e : Int) (a1 : 0 ≤ j.n) (a2 : j.n ≤ 1099511627776) (a3 : 0 ≤ e) (a4 : e ≤ 8) (hh : hasL T j = false) (hf : 64 ≤ T.length) :
    Calls Try.prog 19 #[.pointer (some ⟨p, 0, none⟩), .int .i64 j.n, .int .i64 e] w fun x w' => x = .returned (.int .i64 6) ∧ w = w' := by
  have hl := h.lookT j
  have hn := h.lenT
  rw [hh] at hl
  clear hh
  obtain ⟨c0, c1, c2⟩ := h.cells
  go_enter Try.func19, Try.ntmps19
  go_wp2_with fail
  go_ret
  exact ⟨rfl, rfl⟩
set_option maxRecDepth 100000 in
set_option maxHeartbeats 1000000 in
theorem revoke_new {w : World} {p bk bt : Nat} {most : Int} {L : List (Pl × Int)} {T : List (Jb × Int)} (h : CacheAt w p bk bt most L T) (j : Jb) (e : Int) (a1 : 0 ≤ j.n) (a2 : j.n ≤ 1099511627776) (a3 : 0 ≤ e) (a4 : e ≤ 8) (hh : hasL T j = false) (hf : ¬ 64 ≤ T.length) (hwe : wf e) :
    Calls Try.prog 19 #[.pointer (some ⟨p, 0, none⟩), .int .i64 j.n, .int .i64 e] w fun x w' => x = .returned (.int .i64 0) ∧ CacheAt w' p bk bt most L (T ++ [(j, e)]) ∧ w.grownBy w' (some bt) := by
  have hl := h.lookT j
  have hn := h.lenT
  have HH := Lib.hid hh
  rw [getL_none hh, hh] at hl
  replace hl : (Instr.lookup 55 (.map (some bt)) (.int .i64 j.n) true).run Try.prog w = .ok (.tuple #[.int .i64 0, .bool false]) w := hl
  clear hh
  obtain ⟨c0, c1, c2⟩ := h.cells
  have heq := map_not_nil bt w
  obtain ⟨D, ho, hT⟩ := h.tak
  have HT := Lib.hid hT
  clear hT
  rcases Int.lt_or_eq_of_le a3 with a5 | rfl
  · go_enter Try.func19, Try.ntmps19
    go_wp2_with (at_mapUpdate; refine wpList_mapUpdate_own _ rfl _ _ _ 55 rfl 3 3 law3 Try.underlying55 _ bt _ D rfl ho (by unfold maxLen; omega) _ _ _ rfl rfl (jk_mk j) (.lit (.int .i64 _)) [] (plainElem_int Try.underlying3 hwe) ?_; intro w8 ho8 hg8)
    go_ret
    have hP := fun u => HT.out.put keyFnJ u HH.out
    obtain ⟨E, t1, t2⟩ := h.kept
    exact ⟨rfl, ⟨h.blk.grown hg8 h.net, h.ne, ⟨E, t1.kept hg8 (by simpa using h.ne), t2⟩, ⟨_, tight ho8 (hP _), hP _⟩⟩, hg8⟩
  · go_enter Try.func19, Try.ntmps19
    go_wp2_with (at_mapUpdate; refine wpList_mapUpdate_own _ rfl _ _ _ 55 rfl 3 3 law3 Try.underlying55 _ bt _ D rfl ho (by unfold maxLen; omega) _ _ _ rfl rfl (jk_mk j) (.lit (.int .i64 _)) [] (plainElem_int Try.underlying3 hwe) ?_; intro w8 ho8 hg8)
    go_ret
    have hP := fun u => HT.out.put keyFnJ u HH.out
    obtain ⟨E, t1, t2⟩ := h.kept
    exact ⟨rfl, ⟨h.blk.grown hg8 h.net, h.ne, ⟨E, t1.kept hg8 (by simpa using h.ne), t2⟩, ⟨_, tight ho8 (hP _), hP _⟩⟩, hg8⟩
set_option maxRecDepth 100000 in
set_option maxHeartbeats 1000000 in
theorem revoke_more {w : World} {p bk bt : Nat} {most : Int} {L : List (Pl × Int)} {T : List (Jb × Int)} (h : CacheAt w p bk bt most L T) (j : Jb) (e g m : Int) (a1 : 0 ≤ j.n) (a2 : j.n ≤ 1099511627776) (a3 : 0 ≤ e) (a4 : e ≤ 8) (hh : getL T j = some g) (hf : T.length ≤ 64) (hm : m = max g e) (hwe : wf m) :
    Calls Try.prog 19 #[.pointer (some ⟨p, 0, none⟩), .int .i64 j.n, .int .i64 e] w fun x w' => x = .returned (.int .i64 0) ∧ CacheAt w' p bk bt most L (setL T j m) ∧ w.grownBy w' (some bt) := by
  have hl := h.lookT j
  have hn := h.lenT
  have hh2 : hasL T j = true := by rw [← getL_isSome, hh]; rfl
  have HH := Lib.hid hh2
  rw [hh, hh2] at hl
  replace hl : (Instr.lookup 55 (.map (some bt)) (.int .i64 j.n) true).run Try.prog w = .ok (.tuple #[.int .i64 g, .bool true]) w := hl
  clear hh hh2
  have HM := Lib.hid hm
  clear hm
  obtain ⟨c0, c1, c2⟩ := h.cells
  have heq := map_not_nil bt w
  obtain ⟨D, ho, hT⟩ := h.tak
  have HT := Lib.hid hT
  clear hT
  go_enter Try.func19, Try.ntmps19
  by_cases hge : g ≤ e
  · obtain rfl : m = e := by rw [HM.out]; omega
    rcases Int.lt_or_eq_of_le hge with hgt | rfl
    all_goals
      go_wp2_with (at_mapUpdate; refine wpList_mapUpdate_own _ rfl _ _ _ 55 rfl 3 3 law3 Try.underlying55 _ bt _ D rfl ho (by unfold maxLen; omega) _ _ _ rfl rfl (jk_mk j) (.lit (.int .i64 _)) [] (plainElem_int Try.underlying3 hwe) ?_; intro w8 ho8 hg8)
      go_ret
      have hP := fun u => HT.out.set keyFnJ h.apartT u HH.out
      obtain ⟨E, t1, t2⟩ := h.kept
      exact ⟨rfl, ⟨h.blk.grown hg8 h.net, h.ne, ⟨E, t1.kept hg8 (by simpa using h.ne), t2⟩, ⟨_, tight ho8 (hP _), hP _⟩⟩, hg8⟩
  · obtain rfl : m = g := by rw [HM.out]; omega
    go_wp2_with (at_mapUpdate; refine wpList_mapUpdate_own _ rfl _ _ _ 55 rfl 3 3 law3 Try.underlying55 _ bt _ D rfl ho (by unfold maxLen; omega) _ _ _ rfl rfl (jk_mk j) (.lit (.int .i64 _)) [] (plainElem_int Try.underlying3 hwe) ?_; intro w8 ho8 hg8)
    go_ret
    have hP := fun u => HT.out.set keyFnJ h.apartT u HH.out
    obtain ⟨E, t1, t2⟩ := h.kept
    exact ⟨rfl, ⟨h.blk.grown hg8 h.net, h.ne, ⟨E, t1.kept hg8 (by simpa using h.ne), t2⟩, ⟨_, tight ho8 (hP _), hP _⟩⟩, hg8⟩
end Go.Proofs.Ytiokpflciagdoaa
