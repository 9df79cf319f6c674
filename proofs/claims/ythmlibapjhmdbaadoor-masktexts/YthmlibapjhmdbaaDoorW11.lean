/- List. -/
import Derived.Test.YthmlibapjhmdbaaDoorW10
import Derived.Lib.SmallJoins
namespace Go.Proofs.YthmlibapjhmdbaaDoor
open Go.RowKit Go.Shelf

attribute [local go_sem] Oper.semAt_some

theorem info3 : (Tryd.prog.info? 3).map (fun i => (i.zero, i.size, i.bytes)) = some (some (.int .i64 0), 1, 8) := by kernel_rfl
/-- Cores as values. -/
def cv (l : List Core) : List Value := l.map fun x => Value.int .i64 (x.1 : Nat)
theorem cv_snoc (l : List Core) (x : Core) : cv (l ++ [x]) = cv l ++ [Value.int .i64 (x.1 : Nat)] := by simp [cv]
theorem cv_len (l : List Core) : (cv l).length = l.length := by simp [cv]
/-- A slice of its own that holds these cores, alone. -/
def Gives1 (w : World) (zs : List Core) (e : Ending) (w' : World) : Prop :=
  ∃ v, e = .returned v ∧ w'.ownsRow w.heap.size 3 1 v zs.length (cv zs) ∧ Below w.heap.size w w'
theorem own_form {w : World} {base size n : Nat} {e : TypeId} {v : Value} {xs : List Value} (h : w.ownsRow base e size v n xs) : ∃ A cap, v = .slice A n cap := by
  rcases Joins.ownsRow_forms h with ⟨rfl, rfl⟩ | ⟨g, cap, rfl⟩
  · exact ⟨none, 0, rfl⟩
  · exact ⟨_, cap, rfl⟩
theorem own_next {w w' : World} {base size n : Nat} {e : TypeId} {v : Value} {xs : List Value} (h : w.ownsRow base e size v n xs) (hb : Below w.heap.size w w') : w'.ownsRow base e size v n xs := by
  refine ⟨h.1, ?_⟩
  rcases h.2 with h0 | ⟨g, cap, cur, h1, h2, h3, h4⟩
  · exact .inl h0
  · exact .inr ⟨g, cap, cur, h1, h2, (hb.block g (Array.getElem?_eq_some_iff.1 h3).1).trans h3, h4⟩
theorem boxed_next {w w' : World} {B : Nat} {t : TypeId} {v : Value} (h : Boxed w B t v) (hb : Below w.heap.size w w') : Boxed w' B t v := (hb.block B h.lt).trans h
theorem keeps_next {w w' : World} (hb : Below w.heap.size w w') : KeepsOthers w w' := KeepsOthers.of_grownBy (only_of_below hb) (fun j o ej hj => by cases ej)
theorem each_enters : ∀ args w, (callFunc 39 args).run Tryd.prog w = .ok (.enter 39 args) w := enters_of Tryd.func39 (by kernel_rfl) rfl

set_option maxRecDepth 100000 in
set_option maxHeartbeats 2000000 in
theorem list_any (a b c e : Nat) (w : World) (hm : Mk.W4 [a, b, c, e]) (G : Glob w) :
    Calls Tryd.prog 17 #[.agg #[.int .u64 a, .int .u64 b, .int .u64 c, .int .u64 e]] w (Gives1 w (lc [a, b, c, e] 256)) := by
  have HM := Lib.hid hm
  clear hm
  obtain ⟨i0, hi, hz0, hz1, hz2⟩ := info_parts info3
  have hb0 := (Below.refl _ w).alloc (Nat.le_refl _) (.cells #[.int .u64 a, .int .u64 b, .int .u64 c, .int .u64 e] 27)
  have G1 := G.next hb0
  refine (callsIn_wide (n := 5)).1 ?_
  refine callsIn_of_wp_marks Tryd.func17 rfl trivial ?_ rfl
  simp only [Tryd.ntmps17, List.size_toArray, List.length_cons, List.length_nil, Nat.reduceAdd, Nat.reduceSub, Array.replicate_succ, Array.replicate_zero, List.push_toArray, List.append_toArray, List.nil_append, List.cons_append]
  gi_wp2_with fail
  obtain ⟨W1, hW1⟩ : ∃ W1, W1 = w.alloc (.cells #[.int .u64 a, .int .u64 b, .int .u64 c, .int .u64 e] 27) := ⟨_, rfl⟩
  have hs1 : W1.heap.size = w.heap.size + 1 := by rw [hW1]; simp
  rw [← hW1] at hb0 G1 ⊢
  have bO := Boxed.new W1 25 (.slice none 0 0)
  have hB0 : Below W1.heap.size W1 (W1.alloc (.cells #[.slice none 0 0] 25)) := (Below.refl _ W1).alloc (Nat.le_refl _) _
  have G2 := G1.next hB0
  rw [← hs1]
  clear hs1 hW1 G
  refine wpIn_rangeFunc_bound rfl (by omega) (gf := 39) (bd := #[.agg #[.int .u64 a, .int .u64 b, .int .u64 c, .int .u64 e]]) rfl trivial each_enters
    (each_stops 4 W1.heap.size a b c e (by omega) _ HM.out G2 (by simp) G1.five) belowK_t (belowK_b (by simp)) (Below.refl _ _) (fun _ => rfl)
    (fun pre W => (∃ v, Boxed W W1.heap.size 25 v ∧ W.ownsRow W1.heap.size 3 1 v pre.length (cv pre) ∧ True) ∧ Below W1.heap.size W1 W)
    (fun _ _ _ => False)
    (OwnFrom.and (Own.from (holdsRow_own W1.heap.size W1.heap.size 25 3 1 (fun pre : List Core => pre.length) (fun pre => cv pre) (fun _ _ => True)) _) (ownFrom_below (Nat.le_refl _) (by simp)))
    (fun _ _ _ _ _ hs _ _ => hs)
    ⟨⟨_, bO, World.ownsRow_nil _ _ _ _, trivial⟩, hB0⟩
    ?a1 ?assign ?body ?done ?stop
  case assign =>
    intro l x W K hK
    gi_wp2
    exact hK
  case body =>
    rintro l pre x W ⟨⟨v, hv, hrow, _⟩, hB⟩ hlt
    have hc := hv.cell
    gi_wp2_with (gi_at_builtin; refine wpListIn_append_own _ rfl _ _ 25 rfl W1.heap.size 3 i0 (.int .i64 0) 1 8 Tryd.underlying25 hi hz0 hz1 hz2 rfl (by decide) _ _ _ rfl (hrow.alloc _) ⟨W.heap.size, 0, none⟩ 1 1 [.int .i64 (x.1 : Nat)] rfl rfl (cell_one_new _ _ _) (by simp [Value.oneCell']) (by unfold maxLen; omega) (by omega) (by have := hB.size; simp; omega) ?_; intro v' w1 hown' hgrow _; obtain ⟨g', cap', rfl⟩ := ownsRow_succ hown'; obtain ⟨hv1, hv2, hr2, hk2, hb2⟩ := hv.appended (by decide) hrow hB.size (Nat.le_refl _) hown' hgrow; have hc1 := hv1.cell; have hf1 := hv1.frozen)
    exact ⟨hk2.from _, hb2, ⟨_, hv2, by rw [cv_snoc, List.length_append]; exact hr2, trivial⟩, hB.trans hb2⟩
  case done =>
    rintro D ys W hD rfl ⟨⟨v, hv, hrow, _⟩, hB⟩ hK
    have hc := hv.cell
    gi_wp2
    refine ⟨by simp, .inl ⟨_, _, rfl, run_takeDeferred hK, ?_⟩⟩
    exact ⟨_, results_tmp rfl _ _ _, v, rfl, Joins.ownsRow_le (ownsRow_putObj hrow _ hK rfl) hb0.size, (hb0.trans (hB.mono hb0.size)).trans (belowK_b (w := w) (Nat.le_refl _) W D _ _ (by have := hb0.size; simp at hD; omega) hK rfl rfl)⟩
  case stop =>
    rintro D cc pre W _ _ h _
    exact h.elim
end Go.Proofs.YthmlibapjhmdbaaDoor
