/- The law's told of masks. -/
import Derived.Test.YthmlibapjhmdbaaQ36
namespace Go.Proofs.Ythmlibapjhmdbaa
open Go.RowKit Go.Shelf Go.Maps

set_option maxRecDepth 100000 in
set_option maxHeartbeats 400000 in
theorem told_nil (w : World) : Calls Try.prog 33 #[.slice none 0 0] w fun e w' => e = .returned (.slice none 0 0) ∧ w = w' := by
  go_enter Try.func33, Try.ntmps33
  go_wp2_with fail
  go_loop [3, 4] (fun a i => a = .slice none 0 0 ∧ i = .int .i64 0) (fun _ _ => 0)
  case atStart => exact ⟨rfl, rfl⟩
  case round =>
    obtain ⟨rfl, rfl⟩ := hrel
    go_wp2_with fail
    go_ret
    exact ⟨rfl, rfl⟩
/-- What told gives: the masks again. -/
def Tms (w w' : World) (ms : List (List Nat)) (n : Nat) (e : Ending) : Prop :=
  ∃ (gt cap : Nat), e = .returned (.slice (some ⟨gt, 0, none⟩) n cap) ∧ MasksAt w' w'.heap.size gt ms ∧ Below w.heap.size w w'
set_option maxRecDepth 100000 in
set_option maxHeartbeats 4000000 in
theorem told_any {w : World} {gm n cap : Nat} {ms : List (List Nat)} (hA : MasksAt w w.heap.size gm ms) (hn : ms.length = n) (h1 : 1 ≤ n) (hl : n ≤ 32) :
    Calls Try.prog 33 #[.slice (some ⟨gm, 0, none⟩) n cap] w fun e w' => Tms w w' ms n e := by
  have HN := Lib.hid hn
  obtain ⟨j0, hj, hy0, hy1, hy2⟩ := info_parts infoB
  clear hn
  go_enter Try.func33, Try.ntmps33
  go_wp2_with fail
  go_loopg [3, 4] n (fun c s3 s4 wr => ∃ j : Nat, j + c = n ∧ s4 = .int .i64 j ∧ wr.ownsRow w.heap.size 35 4 s3 j (mv (ms.take j)) ∧ Below w.heap.size w wr)
  case atStart => exact ⟨0, by omega, rfl, World.ownsRow_nil _ _ _ _, Below.refl _ _⟩
  case round =>
    obtain ⟨j, hjc, rfl, hrow, hb⟩ := hrel
    obtain ⟨A2, cap2, rfl⟩ := own_form hrow
    cases gk with
    | zero =>
      obtain rfl : j = n := by omega
      have hlt : ¬ ((j : Int) < (j : Int)) := by omega
      rw [List.take_of_length_le (by have := HN.out; omega)] at hrow
      obtain ⟨g, cap3, hg⟩ := own_some hrow (by omega)
      obtain ⟨rfl, rfl⟩ : A2 = some ⟨g, 0, none⟩ ∧ cap2 = cap3 := by injection hg with e1 _ e2; exact ⟨e1, e2⟩
      have HM := Lib.hid (masks_own HN.out hrow)
      clear hrow hg
      go_wp2_with fail
      go_ret
      exact ⟨_, _, rfl, HM.out, hb⟩
    | succ g1 =>
      have p0 : (0 : Int) ≤ (j : Int) := by omega
      have p1 : (j : Int) < (n : Int) := by omega
      obtain ⟨m, em⟩ : ∃ m, ms[j]? = some m := ⟨_, List.getElem?_eq_getElem (by have := HN.out; omega)⟩
      have HT := Lib.hid (takeM_snoc _ _ _ em)
      have hmc := (hA.below hb).2 j m em
      have a0 := hmc 0 (by decide)
      have a1 := hmc 1 (by decide)
      have a2 := hmc 2 (by decide)
      have a3 := hmc 3 (by decide)
      simp only [Nat.add_zero] at a0
      have hsz := hb.size
      clear hmc em
      go_wp2_with (at_builtin; refine wpList_append_own _ rfl _ _ 71 rfl w.heap.size 35 j0 (.agg #[.int .u64 0, .int .u64 0, .int .u64 0, .int .u64 0]) 4 32 Try.underlying71 hj hy0 hy1 hy2 rfl (by decide) _ _ _ rfl (hrow.alloc _) ⟨wr.heap.size, 0, none⟩ 1 1 (w4 m) rfl rfl (World.news_of_block (Bk.new wr 35 #[.int .u64 (Mk.nth m 0 : Nat), .int .u64 (Mk.nth m 1 : Nat), .int .u64 (Mk.nth m 2 : Nat), .int .u64 (Mk.nth m 3 : Nat)])) (by simp [w4, Value.oneCell']) (by unfold maxLen; omega) (by omega) (by simp; omega) ?_; intro v' w6 hown' hgrow _; obtain ⟨g', cap', rfl⟩ := ownsRow_succ hown'; have hb6 := appended_below hrow hsz hgrow)
      go_roundg g1
      case measure => omega
      case rel => exact ⟨j + 1, by omega, by go_num, by rw [HT.out, mv_snoc]; exact hown', hb.trans hb6⟩
end Go.Proofs.Ythmlibapjhmdbaa
