/- A call on both: a tally, and the document's. -/
import Derived.Test.YtodgkjmkjahkiaaV7
import Derived.Deep.RegionHeld3
namespace Go.Proofs.Ytodgkjmkjahkiaa
open Go.RowKit Go.Maps

theorem Pr.xlt {w : World} {p bv bc q n k : Nat} {va vb vc : Value} {T : Tv} {S : Nat → Prop} (h : Pr w p bv bc q va vb vc n k T S) : ∀ g, XP bv bc vb vc g → g < w.heap.size := by
  intro g hg
  obtain ⟨⟨_, _, _, m1⟩, ⟨_, _, _, m2⟩⟩ := h.mps
  rcases hg with rfl | rfl | e | e
  · exact m1.lt
  · exact m2.lt
  · exact h.sl g (h.sb g e)
  · exact h.sl g (h.sc g e)
section
variable {w W : World} {p bv bc q n k : Nat} {va vb vc : Value} {T U : Tv} {S : Nat → Prop} {g0 : Nat} {cs : Array Value}
theorem Pr.vote_at (h : Pr w p bv bc q va vb vc n k T S) (kb : Bk w g0 51 cs) (hx : ¬ XP bv bc vb vc g0) (hk : k ≤ 900) (x : Int) (y : Bool) (hW : Below w.heap.size w W) :
    Calls Try.prog 41 #[.pointer (some ⟨p, 0, none⟩), .int .i64 x, .bool y] W fun e w' => e = .returned (.int .i64 (voteE T x y)) ∧ Hf w' p bv bc q va vb vc n (k + 1) (voteT T x y) T S ∧ Td (XP bv bc vb vc) w w' ∧ Bk w' g0 51 cs := by
  refine ((h.next hW).vote hk x y).mono ?_
  rintro e w' ⟨r1, r2, r3⟩
  exact ⟨r1, r2, (Td.of_below hW).trans r3, (kb.next hW).td r3 hx⟩
theorem Pr.exit_at (h : Pr w p bv bc q va vb vc n k T S) (kb : Bk w g0 51 cs) (hx : ¬ XP bv bc vb vc g0) (hk : k ≤ 900) (x y : Int) (hW : Below w.heap.size w W) :
    Calls Try.prog 42 #[.pointer (some ⟨p, 0, none⟩), .int .i64 x, .int .i64 y] W fun e w' => e = .returned (.int .i64 (exitE T x y)) ∧ Hf w' p bv bc q va vb vc n (k + 1) (exitT T x y) T S ∧ Td (XP bv bc vb vc) w w' ∧ Bk w' g0 51 cs := by
  refine ((h.next hW).exit hk x y).mono ?_
  rintro e w' ⟨r1, r2, r3⟩
  exact ⟨r1, r2, (Td.of_below hW).trans r3, (kb.next hW).td r3 hx⟩
theorem Hf.vote_at (h : Hf W p bv bc q va vb vc n k U T S) (kb : Bk W g0 51 cs) (hx : ¬ XP bv bc vb vc g0) (x : Int) (y : Bool) (d : Td (XP bv bc vb vc) w W) :
    Calls Try.prog 56 #[.pointer (some ⟨q, 0, none⟩), .int .i64 x, .bool y] W fun e w' => e = .returned (.int .i64 (voteE T x y)) ∧ Hf w' p bv bc q va vb vc n k U (voteT T x y) S ∧ Td (XP bv bc vb vc) w w' ∧ Bk w' g0 51 cs := by
  refine (h.vote x y).mono ?_
  rintro e w' ⟨r1, r2, r3⟩
  exact ⟨r1, r2, d.trans r3, kb.td r3 hx⟩
theorem Hf.exit_at (h : Hf W p bv bc q va vb vc n k U T S) (kb : Bk W g0 51 cs) (hx : ¬ XP bv bc vb vc g0) (x y : Int) (d : Td (XP bv bc vb vc) w W) :
    Calls Try.prog 57 #[.pointer (some ⟨q, 0, none⟩), .int .i64 x, .int .i64 y] W fun e w' => e = .returned (.int .i64 (exitE T x y)) ∧ Hf w' p bv bc q va vb vc n k U (exitT T x y) S ∧ Td (XP bv bc vb vc) w w' ∧ Bk w' g0 51 cs := by
  refine (h.exit x y).mono ?_
  rintro e w' ⟨r1, r2, r3⟩
  exact ⟨r1, r2, d.trans r3, kb.td r3 hx⟩
end
set_option maxRecDepth 100000 in
set_option maxHeartbeats 4000000 in
theorem does_any {w : World} {p bv bc q n k : Nat} {va vb vc : Value} {T : Tv} {S : Nat → Prop} (h : Pr w p bv bc q va vb vc n k T S) (hk : k ≤ 900) (o : Op4) :
    Calls Try.prog 32 #[.pointer (some ⟨p, 0, none⟩), .pointer (some ⟨q, 0, none⟩), .agg o.cs] w fun e w' => e = .returned (.bool true) ∧ Pr w' p bv bc q va vb vc n (k + 1) (opT T o) S ∧ Td (XP bv bc vb vc) w w' := by
  have hx := h.xlt
  have hb := below_alloc w (.cells o.cs 51)
  have kb := Bk.new w 51 o.cs
  have h1 := h.next hb
  have D1 := Lib.hid (Td.of_below (X := XP bv bc vb vc) hb)
  have hgx : ¬ XP bv bc vb vc w.heap.size := fun q => by have := hx _ q; omega
  obtain ⟨v, x, y, c⟩ := o
  have K1 := Lib.hid (fun W => h1.vote_at (W := W) kb hgx hk x y)
  have K2 := Lib.hid (fun W => h1.exit_at (W := W) kb hgx hk x c)
  have HG := Lib.hid hgx
  have HO := Lib.hid (show opT T ⟨v, x, y, c⟩ = if v then voteT T x y else exitT T x c from rfl)
  have c0 := kb.cell 0 _ rfl
  have c1 := kb.cell 1 _ rfl
  have c2 := kb.cell 2 _ rfl
  have c3 := kb.cell 3 _ rfl
  clear h hx hb h1 hgx kb
  dsimp only [Op4.cs] at *
  cases v
  · go_enter Try.func32, Try.ntmps32
    go_wp2
    go_region_held3 (fun W => W.cell? ⟨w.heap.size, 1, none⟩ = some (.int .i64 x) ∧ W.cell? ⟨w.heap.size, 3, none⟩ = some (.int .i64 c))
      (first | exact ⟨c1, c3⟩)
      (first
        | (go_at_call 42; (with_reducible refine (K2.out _ (by first | exact (Below.refl _ _).drew | exact Below.refl _ _)).mono ?_); rintro _ w2 ⟨rfl, hf, ht, kb2⟩; have d1 := kb2.cell 1 _ rfl; have d3 := kb2.cell 3 _ rfl; replace c1 := d1; replace c3 := d3; clear d1 d3)
        | (go_at_call 57; (with_reducible refine (hf.exit_at kb2 HG.out x c ht).mono ?_); rintro _ w3 ⟨rfl, hf3, ht3, kb3⟩; have d1 := kb3.cell 1 _ rfl; have d3 := kb3.cell 3 _ rfl; replace c1 := d1; replace c3 := d3; clear d1 d3))
    all_goals
      clear c0 c1 c2 c3
      go_wp2
      go_ret
      exact ⟨by first | rfl | simp_all, by rw [HO.out]; exact hf3.pr, D1.out.trans ht3⟩
  · go_enter Try.func32, Try.ntmps32
    go_wp2
    go_region_held3 (fun W => W.cell? ⟨w.heap.size, 1, none⟩ = some (.int .i64 x) ∧ W.cell? ⟨w.heap.size, 2, none⟩ = some (.bool y))
      (first | exact ⟨c1, c2⟩)
      (first
        | (go_at_call 41; (with_reducible refine (K1.out _ (by first | exact (Below.refl _ _).drew | exact Below.refl _ _)).mono ?_); rintro _ w2 ⟨rfl, hf, ht, kb2⟩; have d1 := kb2.cell 1 _ rfl; have d2 := kb2.cell 2 _ rfl; replace c1 := d1; replace c2 := d2; clear d1 d2)
        | (go_at_call 56; (with_reducible refine (hf.vote_at kb2 HG.out x y ht).mono ?_); rintro _ w3 ⟨rfl, hf3, ht3, kb3⟩; have d1 := kb3.cell 1 _ rfl; have d2 := kb3.cell 2 _ rfl; replace c1 := d1; replace c2 := d2; clear d1 d2))
    all_goals
      clear c0 c1 c2 c3
      go_wp2
      go_ret
      exact ⟨by first | rfl | simp_all, by rw [HO.out]; exact hf3.pr, D1.out.trans ht3⟩
end Go.Proofs.Ytodgkjmkjahkiaa
