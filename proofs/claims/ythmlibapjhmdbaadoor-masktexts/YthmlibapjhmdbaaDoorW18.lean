/- Text, walked. -/
import Derived.Test.YthmlibapjhmdbaaDoorW17
import Derived.Stop.RegionWithIn
namespace Go.Proofs.YthmlibapjhmdbaaDoor
open Go.RowKit Go.Shelf

attribute [local go_sem] Oper.semAt_some

theorem undrew {B : Nat} {a w : World} (h : Below B a.drew w) : Below B a w := ⟨h.os, h.tape, h.output, h.size, h.block⟩
theorem Bk.set1 {w : World} {g : Nat} {t : TypeId} {v0 : Value} (h : Bk w g t #[v0]) (v : Value) : Bk (w.setCell ⟨g, 0, none⟩ v) g t #[v] := by
  have := heap_setCell_same w g 0 _ t v h
  exact this
theorem keeps_set1 {w : World} {g : Nat} {t : TypeId} {v0 : Value} (h : Bk w g t #[v0]) (v : Value) : KeepsOthers w (w.setCell ⟨g, 0, none⟩ v) := by
  refine ⟨by simp, fun i o hi ho => ?_⟩
  have hne : i ≠ g := by
    rintro rfl
    unfold Bk at h
    rw [h] at hi
    cases hi
    cases ho
  exact (heap_setCell_other w ⟨g, 0, none⟩ i v hne).trans hi
set_option maxRecDepth 100000 in
set_option maxHeartbeats 4000000 in
theorem text_any (a b c e : Nat) (w : World) (hm : Mk.W4 [a, b, c, e]) (G : Glob w) :
    Calls Tryd.prog 32 #[.agg #[.int .u64 a, .int .u64 b, .int .u64 c, .int .u64 e]] w fun x w' => x = .returned (.string (textOf [a, b, c, e] (nums (lc [a, b, c, e] 256)))) ∧ Below w.heap.size w w' := by
  have HM := Lib.hid hm
  clear hm
  have hb0 := (Below.refl _ w).alloc (Nat.le_refl _) (.cells #[.int .u64 a, .int .u64 b, .int .u64 c, .int .u64 e] 27)
  have k0 := Bk.new w 27 #[.int .u64 a, .int .u64 b, .int .u64 c, .int .u64 e]
  have G1 := G.next hb0
  refine (callsIn_wide (n := 5)).1 ?_
  refine callsIn_of_wp_marks Tryd.func32 rfl trivial ?_ rfl
  simp only [Tryd.ntmps32, List.size_toArray, List.length_cons, List.length_nil, Nat.reduceAdd, Nat.reduceSub, Array.replicate_succ, Array.replicate_zero, List.push_toArray, List.append_toArray, List.nil_append, List.cons_append]
  gi_wp2_with fail
  obtain ⟨W1, hW1⟩ : ∃ W1, W1 = w.alloc (.cells #[.int .u64 a, .int .u64 b, .int .u64 c, .int .u64 e] 27) := ⟨_, rfl⟩
  have hs1 : W1.heap.size = w.heap.size + 1 := by rw [hW1]; simp
  rw [← hW1] at hb0 G1 k0 ⊢
  have bO := Boxed.new W1 9 (.string ⟨#[]⟩)
  have hB0 : Below W1.heap.size W1 (W1.alloc (.cells #[.string ⟨#[]⟩] 9)) := (Below.refl _ W1).alloc (Nat.le_refl _) _
  have G2 := G1.next hB0
  rw [← hs1]
  have hgl : w.heap.size < W1.heap.size := by omega
  clear hs1 hW1 G
  refine wpIn_rangeFunc_bound rfl (by omega) (gf := 39) (bd := #[.agg #[.int .u64 a, .int .u64 b, .int .u64 c, .int .u64 e]]) rfl trivial each_enters
    (each_stops 4 W1.heap.size a b c e (by omega) _ HM.out G2 (by simp) G1.five) belowK_t (belowK_b (by simp)) (Below.refl _ _) (fun _ => rfl)
    (fun pre W => Bk W W1.heap.size 9 #[.string (textOf [a, b, c, e] (nums pre))] ∧ Below W1.heap.size W1 W)
    (fun _ _ _ => False)
    (OwnFrom.and (fun _ _ _ _ hs hg hr => (grownBy_keeps_cells hg (fun r e => (hr r e).2) hs rfl).trans hs) (ownFrom_below (Nat.le_refl _) (by simp)))
    (fun _ _ _ _ _ hs _ _ => hs)
    ⟨bO, hB0⟩
    ?a1 ?assign ?body ?done ?stop
  case assign =>
    intro l x W K hK
    gi_wp2
    exact hK
  case body =>
    rintro l pre x W ⟨hv, hB⟩ hlt
    have ht := textOf_size (m := [a, b, c, e]) rfl (nums pre) (nums_lt pre)
    have hpl : (nums pre).length = pre.length := by simp [nums]
    have HS := Lib.hid (textOf_snoc [a, b, c, e] (nums pre) x.1)
    have HS2 := Lib.hid (show nums (pre ++ [x]) = nums pre ++ [x.1] from nums_snoc pre x)
    generalize textOf [a, b, c, e] (nums pre) = T at *
    have c9 := hv.cell 0 _ rfl
    have f9 := hv.frozen 0
    have km := k0.below hB hgl
    have q0 := km.cell 0 _ rfl
    have q1 := km.cell 1 _ rfl
    have q2 := km.cell 2 _ rfl
    have q3 := km.cell 3 _ rfl
    have hd3 : 1 ≤ 3 := by omega
    gi_wp2_with fail
    refine ⟨trivial, (CallsIn.inRound l (callsIn_wide.2 (has_ahead a b c e x.1 _ HM.out))).mono ?_⟩
    rintro e2 W2 ⟨rfl, hb2⟩
    have hk2 := keeps_next hb2
    have hbw := hb2.mono hB.size
    have hB2 := hB.trans hbw
    replace hv := hv.next hb2
    clear hb2 c9 f9 km q0 q1 q2 q3
    cases hh : ahead [a, b, c, e] x.1 with
    | true =>
      have HH := Lib.hid hh
      clear hh
      gi_wp2_with fail
      exact ⟨hk2.from _, hbw, by rw [HS2.out, HS.out, tstep, if_pos HH.out]; exact hv, hB2⟩
    | false =>
      have HH := Lib.hid hh
      clear hh
      have c9 := hv.cell 0 _ rfl
      have f9 := hv.frozen 0
      have hTs : T.size ≤ 2048 := by omega
      have HL := Lib.hid (fun V => last_any a b c e x.1 V HM.out x.2)
      have HR := Lib.hid (fun V GV => range_any x.1 (lastOf [a, b, c, e] x.1) V GV x.2 (runE_lt _ rfl 256 x.1 x.2))
      have hRs := rangeT_size x.2 (runE_lt [a, b, c, e] rfl 256 x.1 x.2)
      change (rangeT x.1 (lastOf [a, b, c, e] x.1)).size ≤ 7 at hRs
      by_cases he : (T.toList == []) = true
      · have HT := Lib.hid (show tstep [a, b, c, e] T x.1 = T ++ rangeT x.1 (lastOf [a, b, c, e] x.1) by unfold tstep; rw [if_neg (by rw [HH.out]; simp), if_pos he])
        generalize rangeT x.1 (lastOf [a, b, c, e] x.1) = RT at *
        generalize lastOf [a, b, c, e] x.1 = LO at *
        clear ht
        gi_wp2_with fail
        clear c9 f9
        have Gw := G1.below hB2 G1.five
        have km := k0.below hB2 hgl
        have c9 := hv.cell 0 _ rfl
        have f9 := hv.frozen 0
        have q0 := km.cell 0 _ rfl
        have q1 := km.cell 1 _ rfl
        have q2 := km.cell 2 _ rfl
        have q3 := km.cell 3 _ rfl
        clear km
        gi_region_with (first
          | (refine ⟨trivial, (CallsIn.inRound l (callsIn_wide.2 (HL.out _))).mono ?_⟩; rintro e3 W3 ⟨rfl, hb3⟩; (first | replace hb3 := undrew hb3 | skip); replace hv := hv.next hb3; replace Gw := Gw.next hb3; replace hk2 := hk2.trans (keeps_next hb3); replace hbw := hbw.trans (hb3.mono hB2.size); replace hB2 := hB2.trans (hb3.mono hB2.size); clear hb3 c9 f9 q0 q1 q2 q3; have c9 := hv.cell 0 _ rfl; have f9 := hv.frozen 0)
          | (refine ⟨trivial, (CallsIn.inRound l (callsIn_wide.2 (HR.out _ Gw))).mono ?_⟩; rintro e3 W3 ⟨rfl, hb3⟩; replace hv := hv.next hb3; replace hk2 := hk2.trans (keeps_next hb3); replace hbw := hbw.trans (hb3.mono hB2.size); replace hB2 := hB2.trans (hb3.mono hB2.size); clear hb3 c9 f9; have c9 := hv.cell 0 _ rfl; have f9 := hv.frozen 0))
        all_goals
          exact And.intro ((hk2.trans (keeps_set1 hv _)).from _) (And.intro (hbw.trans ((Below.refl _ _).setCell (p := ⟨W1.heap.size, 0, none⟩) (Nat.le_refl _) _)) (And.intro (by rw [HS2.out, HS.out, HT.out]; exact hv.set1 _) (hB2.trans ((Below.refl _ _).setCell (p := ⟨W1.heap.size, 0, none⟩) (Nat.le_refl _) _))))
      · have HT := Lib.hid (show tstep [a, b, c, e] T x.1 = T ++ ⟨#[44]⟩ ++ rangeT x.1 (lastOf [a, b, c, e] x.1) by unfold tstep; rw [if_neg (by rw [HH.out]; simp), if_neg he])
        replace he : (T.toList == []) = false := by simpa using he
        generalize rangeT x.1 (lastOf [a, b, c, e] x.1) = RT at *
        generalize lastOf [a, b, c, e] x.1 = LO at *
        have s1 : (⟨#[44]⟩ : ByteArray).size = 1 := rfl
        have hT2 : (T ++ (⟨#[44]⟩ : ByteArray)).size ≤ 2049 := by rw [ByteArray.size_append, s1]; omega
        clear ht
        gi_wp2_with fail
        clear c9 f9
        replace hk2 := hk2.trans (keeps_set1 hv (.string (T ++ ⟨#[44]⟩)))
        replace hbw := hbw.trans ((Below.refl W1.heap.size W2).setCell (p := ⟨W1.heap.size, 0, none⟩) (Nat.le_refl _) (.string (T ++ ⟨#[44]⟩)))
        replace hB2 := hB2.trans ((Below.refl W1.heap.size W2).setCell (p := ⟨W1.heap.size, 0, none⟩) (Nat.le_refl _) (.string (T ++ ⟨#[44]⟩)))
        replace hv := hv.set1 (.string (T ++ ⟨#[44]⟩))
        generalize W2.setCell ⟨W1.heap.size, 0, none⟩ (.string (T ++ ⟨#[44]⟩)) = W2 at *
        generalize T ++ (⟨#[44]⟩ : ByteArray) = T2 at *
        have Gw := G1.below hB2 G1.five
        have km := k0.below hB2 hgl
        have c9 := hv.cell 0 _ rfl
        have f9 := hv.frozen 0
        have q0 := km.cell 0 _ rfl
        have q1 := km.cell 1 _ rfl
        have q2 := km.cell 2 _ rfl
        have q3 := km.cell 3 _ rfl
        clear km
        gi_region_with (first
          | (refine ⟨trivial, (CallsIn.inRound l (callsIn_wide.2 (HL.out _))).mono ?_⟩; rintro e3 W3 ⟨rfl, hb3⟩; (first | replace hb3 := undrew hb3 | skip); replace hv := hv.next hb3; replace Gw := Gw.next hb3; replace hk2 := hk2.trans (keeps_next hb3); replace hbw := hbw.trans (hb3.mono hB2.size); replace hB2 := hB2.trans (hb3.mono hB2.size); clear hb3 c9 f9 q0 q1 q2 q3; have c9 := hv.cell 0 _ rfl; have f9 := hv.frozen 0)
          | (refine ⟨trivial, (CallsIn.inRound l (callsIn_wide.2 (HR.out _ Gw))).mono ?_⟩; rintro e3 W3 ⟨rfl, hb3⟩; replace hv := hv.next hb3; replace hk2 := hk2.trans (keeps_next hb3); replace hbw := hbw.trans (hb3.mono hB2.size); replace hB2 := hB2.trans (hb3.mono hB2.size); clear hb3 c9 f9; have c9 := hv.cell 0 _ rfl; have f9 := hv.frozen 0))
        all_goals
          exact And.intro ((hk2.trans (keeps_set1 hv _)).from _) (And.intro (hbw.trans ((Below.refl _ _).setCell (p := ⟨W1.heap.size, 0, none⟩) (Nat.le_refl _) _)) (And.intro (by rw [HS2.out, HS.out, HT.out]; exact hv.set1 _) (hB2.trans ((Below.refl _ _).setCell (p := ⟨W1.heap.size, 0, none⟩) (Nat.le_refl _) _))))
  case done =>
    rintro D ys W hD rfl ⟨hv, hB⟩ hK
    have hc := hv.cell 0 _ rfl
    gi_wp2
    refine ⟨by simp, .inl ⟨_, _, rfl, run_takeDeferred hK, ?_⟩⟩
    exact ⟨_, results_tmp rfl _ _ _, rfl, (hb0.trans (hB.mono hb0.size)).trans (belowK_b (w := w) (Nat.le_refl _) W D _ _ (by have := hb0.size; simp at hD; omega) hK rfl rfl)⟩
  case stop =>
    rintro D cc pre W _ _ h _
    exact h.elim
end Go.Proofs.YthmlibapjhmdbaaDoor
