/- LadderTells, walked. -/
import Derived.Test.YtinbaepligploaaT0
import Derived.Deep.RegionHeld3
namespace Go.Proofs.Ytinbaepligploaa
open Go.RowKit Go.Shelf

structure Tl (w V : World) (a b t x y r : Nat) (l wn g k f c s e p0 p1 p2 p3 p4 : Int) : Prop where
  fo : Fo w V a b x y l wn g k f c
  bt : Bk V t 52 #[.int .i64 s, .int .i64 e]
  br : Bk V r 57 #[.int .i64 p0, .int .i64 p1, .int .i64 p2, .int .i64 p3, .int .i64 p4]
section
variable {w V V' : World} {a b t x y r : Nat} {l wn g k f c s e p0 p1 p2 p3 p4 : Int}
theorem Tl.next (h : Tl w V a b t x y r l wn g k f c s e p0 p1 p2 p3 p4) (hb : Below V.heap.size V V') : Tl w V' a b t x y r l wn g k f c s e p0 p1 p2 p3 p4 := ⟨h.fo.next hb, h.bt.next hb, h.br.next hb⟩
theorem Tl.cells (h : Tl w V a b t x y r l wn g k f c s e p0 p1 p2 p3 p4) : V.cell? ⟨a, 0, none⟩ = some (.int .i64 l) ∧ V.cell? ⟨a, 1, none⟩ = some (.int .i64 wn) ∧ V.cell? ⟨a, 2, none⟩ = some (.int .i64 g) ∧ V.cell? ⟨a, 3, none⟩ = some (.int .i64 k) ∧ V.cell? ⟨b, 0, none⟩ = some (.int .i64 f) ∧ V.cell? ⟨b, 1, none⟩ = some (.int .i64 c) ∧ V.cell? ⟨t, 0, none⟩ = some (.int .i64 s) ∧ V.cell? ⟨t, 1, none⟩ = some (.int .i64 e) ∧ V.cell? ⟨x, 0, none⟩ = some (.int .i64 l) ∧ V.cell? ⟨x, 1, none⟩ = some (.int .i64 wn) ∧ V.cell? ⟨x, 2, none⟩ = some (.int .i64 g) ∧ V.cell? ⟨x, 3, none⟩ = some (.int .i64 k) ∧ V.cell? ⟨y, 0, none⟩ = some (.int .i64 f) ∧ V.cell? ⟨y, 1, none⟩ = some (.int .i64 c) := by
  obtain ⟨⟨a0, a1, a2, a3⟩, ⟨b0, b1⟩, ⟨x0, x1, x2, x3⟩, y0, y1⟩ := h.fo.cells
  exact ⟨a0, a1, a2, a3, b0, b1, h.bt.cell 0 _ rfl, h.bt.cell 1 _ rfl, x0, x1, x2, x3, y0, y1⟩
end
theorem undrew {w a : World} (h : Below w.drew.heap.size w.drew a) : Below w.heap.size w a := ⟨h.os, h.tape, h.output, h.size, h.block⟩
/-- Numbers, told in a slice. -/
abbrev Slc (w : World) (n : Nat) (zs : List Int) (e : Ending) (w' : World) : Prop := ∃ A ca, e = .returned (.slice A n ca) ∧ IntsAt w' A zs ∧ Below w.heap.size w w'
theorem Gives.slc {w w' : World} {zs : List Int} {e : Ending} {n : Nat} (hn : zs.length = n) (h : Gives w zs e w') : Slc w n zs e w' := by
  subst hn
  obtain ⟨v, rfl, hrow, hb⟩ := h
  obtain ⟨A, cap, rfl⟩ := own_form hrow
  exact ⟨A, cap, rfl, ints_iv rfl hrow, hb⟩
theorem Five.slc {w w' : World} {r : Int × Int × Int × Int × Int} {e : Ending} (h : Five w r e w') : Slc w 5 (five r) e w' := by
  obtain ⟨b, rfl, hk, hb⟩ := h
  exact ⟨_, _, rfl, hk.ints5, hb⟩

set_option maxRecDepth 100000 in
set_option maxHeartbeats 4000000 in
theorem tells_walk (l wn g k f c s e e0 n sg p0 p1 p2 p3 p4 : Int) (nb : Nat) (bs : List Int) (w : World) (hbs : bs.length = nb) (hnb : nb ≤ 5)
    (K25 : ∀ V : World, Calls Try.prog 25 #[.agg #[.int .i64 l, .int .i64 wn, .int .i64 g, .int .i64 k], .agg #[.int .i64 f, .int .i64 c]] V fun x w' => x = .returned (.agg #[.int .i64 p0, .int .i64 p1, .int .i64 p2, .int .i64 p3, .int .i64 p4]) ∧ Below V.heap.size V w')
    (K26 : ∀ V : World, Calls Try.prog 26 #[.agg #[.int .i64 l, .int .i64 wn, .int .i64 g, .int .i64 k]] V fun x w' => x = .returned (.int .i64 e0) ∧ Below V.heap.size V w')
    (K27 : ∀ V : World, Calls Try.prog 27 #[.agg #[.int .i64 l, .int .i64 wn, .int .i64 g, .int .i64 k]] V fun x w' => x = .returned (.int .i64 e0) ∧ Below V.heap.size V w')
    (K28 : ∀ V : World, Calls Try.prog 28 #[.agg #[.int .i64 l, .int .i64 wn, .int .i64 g, .int .i64 k], .agg #[.int .i64 f, .int .i64 c]] V fun x w' => x = .returned (.int .i64 n) ∧ Below V.heap.size V w')
    (K29 : ∀ V : World, Calls Try.prog 29 #[.agg #[.int .i64 l, .int .i64 wn, .int .i64 g, .int .i64 k], .agg #[.int .i64 f, .int .i64 c]] V fun x w' => x = .returned (.int .i64 n) ∧ Below V.heap.size V w')
    (K31 : ∀ V : World, Calls Try.prog 31 #[.agg #[.int .i64 l, .int .i64 wn, .int .i64 g, .int .i64 k], .agg #[.int .i64 f, .int .i64 c]] V (Slc V 5 [p0, p1, p2, p3, p4]))
    (K32 : ∀ V : World, Calls Try.prog 32 #[.agg #[.int .i64 l, .int .i64 wn, .int .i64 g, .int .i64 k], .agg #[.int .i64 f, .int .i64 c], .int .i64 s] V fun x w' => x = .returned (.int .i64 sg) ∧ Below V.heap.size V w')
    (K33 : ∀ V : World, Calls Try.prog 33 #[.agg #[.int .i64 l, .int .i64 wn, .int .i64 g, .int .i64 k], .agg #[.int .i64 f, .int .i64 c], .int .i64 s] V fun x w' => x = .returned (.int .i64 sg) ∧ Below V.heap.size V w')
    (K34 : ∀ V : World, Calls Try.prog 34 #[.agg #[.int .i64 l, .int .i64 wn, .int .i64 g, .int .i64 k], .agg #[.int .i64 f, .int .i64 c], .int .i64 s, .int .i64 e] V (Slc V nb bs))
    (K35 : ∀ V : World, Calls Try.prog 35 #[.agg #[.int .i64 l, .int .i64 wn, .int .i64 g, .int .i64 k], .agg #[.int .i64 f, .int .i64 c], .int .i64 s, .int .i64 e] V (Slc V nb bs)) :
    Calls Try.prog 8 #[.agg #[.int .i64 l, .int .i64 wn, .int .i64 g, .int .i64 k], .agg #[.int .i64 f, .int .i64 c], .agg #[.int .i64 s, .int .i64 e]] w fun x w' => x = .returned (.bool true) ∧ Below w.heap.size w w' := by
  replace K25 := Lib.hid K25
  replace K26 := Lib.hid K26
  replace K27 := Lib.hid K27
  replace K28 := Lib.hid K28
  replace K29 := Lib.hid K29
  replace K31 := Lib.hid K31
  replace K32 := Lib.hid K32
  replace K33 := Lib.hid K33
  replace K34 := Lib.hid K34
  replace K35 := Lib.hid K35
  have HB := Lib.hid hbs
  clear hbs
  have HM := Lib.hid (show nb ≤ maxLen by unfold maxLen; omega)
  have HM5 := Lib.hid (show 5 ≤ maxLen by unfold maxLen; omega)
  have tw := (Tw.new w l wn g k f c).next (below_alloc _ (.cells #[.int .i64 s, .int .i64 e] 52))
  have kt := Bk.new ((w.alloc (.cells #[.int .i64 l, .int .i64 wn, .int .i64 g, .int .i64 k] 49)).alloc (.cells #[.int .i64 f, .int .i64 c] 51)) 52 #[.int .i64 s, .int .i64 e]
  rw [size_alloc, size_alloc] at kt
  go_enter Try.func8, Try.ntmps8
  go_wp2_with fail
  refine (own_any _ _ _ _ _ _ _).mono ?_
  rintro x w1 ⟨rfl, hb⟩
  have st := (tw.next hb).more
  replace kt := ((kt.next hb).alloc (.cells #[.int .i64 l, .int .i64 wn, .int .i64 g, .int .i64 k] 53)).alloc (.cells #[.int .i64 f, .int .i64 c] 54)
  clear tw hb
  obtain ⟨-, -, ⟨x0, x1, x2, x3⟩, y0, y1⟩ := st.cells
  go_wp2_with fail
  refine (K25.out _).mono ?_
  rintro x w2 ⟨rfl, hb⟩
  have lb := below_alloc w2 (.cells #[.int .i64 p0, .int .i64 p1, .int .i64 p2, .int .i64 p3, .int .i64 p4] 57)
  have tl : Tl w (w2.alloc (.cells #[.int .i64 p0, .int .i64 p1, .int .i64 p2, .int .i64 p3, .int .i64 p4] 57)) (w.heap.size) (w.heap.size + 1) (w.heap.size + 1 + 1) w1.heap.size (w1.heap.size + 1) w2.heap.size l wn g k f c s e p0 p1 p2 p3 p4 := ⟨(st.next hb).next lb, (kt.next hb).next lb, Bk.new _ _ _⟩
  clear st kt lb hb x0 x1 x2 x3 y0 y1 K25
  go_wp2_with fail
  generalize w2.alloc (.cells #[.int .i64 p0, .int .i64 p1, .int .i64 p2, .int .i64 p3, .int .i64 p4] 57) = W at *
  go_region_held3 (fun W => W.cell? ⟨w.heap.size, 0, none⟩ = some (.int .i64 l) ∧ W.cell? ⟨w.heap.size, 1, none⟩ = some (.int .i64 wn) ∧ W.cell? ⟨w.heap.size, 2, none⟩ = some (.int .i64 g) ∧ W.cell? ⟨w.heap.size, 3, none⟩ = some (.int .i64 k) ∧ W.cell? ⟨w.heap.size + 1, 0, none⟩ = some (.int .i64 f) ∧ W.cell? ⟨w.heap.size + 1, 1, none⟩ = some (.int .i64 c) ∧ W.cell? ⟨w.heap.size + 1 + 1, 0, none⟩ = some (.int .i64 s) ∧ W.cell? ⟨w.heap.size + 1 + 1, 1, none⟩ = some (.int .i64 e) ∧ W.cell? ⟨w1.heap.size, 0, none⟩ = some (.int .i64 l) ∧ W.cell? ⟨w1.heap.size, 1, none⟩ = some (.int .i64 wn) ∧ W.cell? ⟨w1.heap.size, 2, none⟩ = some (.int .i64 g) ∧ W.cell? ⟨w1.heap.size, 3, none⟩ = some (.int .i64 k) ∧ W.cell? ⟨w1.heap.size + 1, 0, none⟩ = some (.int .i64 f) ∧ W.cell? ⟨w1.heap.size + 1, 1, none⟩ = some (.int .i64 c))
    (first | exact tl.cells)
    (first | (go_at_call 26; with_reducible refine (K26.out _).mono ?_; rintro x wn ⟨rfl, hbn⟩; (first | replace hbn := undrew hbn | skip); replace tl := tl.next hbn; clear hbn) | (go_at_call 27; with_reducible refine (K27.out _).mono ?_; rintro x wn ⟨rfl, hbn⟩; (first | replace hbn := undrew hbn | skip); replace tl := tl.next hbn; clear hbn) | (go_at_call 28; with_reducible refine (K28.out _).mono ?_; rintro x wn ⟨rfl, hbn⟩; (first | replace hbn := undrew hbn | skip); replace tl := tl.next hbn; clear hbn) | (go_at_call 29; with_reducible refine (K29.out _).mono ?_; rintro x wn ⟨rfl, hbn⟩; (first | replace hbn := undrew hbn | skip); replace tl := tl.next hbn; clear hbn) | (go_at_call 31; with_reducible refine (K31.out _).mono ?_; rintro x wn ⟨A31, c31, rfl, h31, hbn⟩; (first | replace hbn := undrew hbn | skip); replace tl := tl.next hbn; (try replace h34 := h34.next hbn); clear hbn) | (go_at_call 30; with_reducible refine (same_eq (some ⟨w2.heap.size, 0, none⟩) A31 5 c31 5 [p0, p1, p2, p3, p4] _ (tl.br.ints5 (r := (p0, p1, p2, p3, p4))) h31 rfl HM5.out).mono ?_; rintro x wn ⟨rfl, hbn⟩; replace tl := tl.next hbn; clear hbn h31) | (go_at_call 30; with_reducible refine (same_eq A34 A35 c34 c35 nb bs _ h34 h35 HB.out HM.out).mono ?_; rintro x wn ⟨rfl, hbn⟩; replace tl := tl.next hbn; clear hbn h34 h35) | (go_at_call 32; with_reducible refine (K32.out _).mono ?_; rintro x wn ⟨rfl, hbn⟩; (first | replace hbn := undrew hbn | skip); replace tl := tl.next hbn; clear hbn) | (go_at_call 33; with_reducible refine (K33.out _).mono ?_; rintro x wn ⟨rfl, hbn⟩; (first | replace hbn := undrew hbn | skip); replace tl := tl.next hbn; clear hbn) | (go_at_call 34; with_reducible refine (K34.out _).mono ?_; rintro x wn ⟨A34, c34, rfl, h34, hbn⟩; (first | replace hbn := undrew hbn | skip); replace tl := tl.next hbn; (try replace h35 := h35.next hbn); clear hbn) | (go_at_call 35; with_reducible refine (K35.out _).mono ?_; rintro x wn ⟨A35, c35, rfl, h35, hbn⟩; (first | replace hbn := undrew hbn | skip); replace tl := tl.next hbn; (try replace h34 := h34.next hbn); clear hbn) | (go_at_call 36; with_reducible refine (live_any _).mono ?_; rintro x wn ⟨rfl, hbn⟩; replace tl := tl.next hbn; clear hbn))
  all_goals
    go_wp2_with fail
    go_ret
    exact ⟨rfl, tl.fo.low⟩
theorem btw_len (l wn g k f c s e : Int) : (btw (stageE l wn g k f c s) (stageE l wn g k f c e)).length ≤ 5 := by
  obtain ⟨a1, a2⟩ := stageE_range l wn g k f c s
  obtain ⟨b1, b2⟩ := stageE_range l wn g k f c e
  unfold btw
  rw [behind_length]
  omega
theorem tells_any (l wn g k f c s e : Int) (w : World) : Calls Try.prog 8 #[.agg #[.int .i64 l, .int .i64 wn, .int .i64 g, .int .i64 k], .agg #[.int .i64 f, .int .i64 c], .agg #[.int .i64 s, .int .i64 e]] w fun x w' => x = .returned (.bool true) ∧ Below w.heap.size w w' :=
  tells_walk l wn g k f c s e (chkE l wn g k) (endE l wn g k f c) (stageE l wn g k f c s) _ _ _ _ _ _ (btw (stageE l wn g k f c s) (stageE l wn g k f c e)) w rfl (btw_len _ _ _ _ _ _ _ _)
    (rungs_any l wn g k f c) (check_any l wn g k) (rcheck_any l wn g k) (end_any l wn g k f c) (rend_any l wn g k f c) (fun V => (rrungs_any l wn g k f c V).mono fun _ _ h => h.slc) (stage_any l wn g k f c s) (rstage_any l wn g k f c s)
    (fun V => (between_any l wn g k f c s e V).mono fun _ _ h => h.slc rfl) (fun V => (rbetween_any l wn g k f c s e V).mono fun _ _ h => h.slc rfl)
end Go.Proofs.Ytinbaepligploaa
