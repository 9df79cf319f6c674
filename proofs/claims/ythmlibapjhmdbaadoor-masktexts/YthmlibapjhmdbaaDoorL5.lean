/- The law MaskTexts. -/
import Derived.Test.YthmlibapjhmdbaaDoorR10
namespace Go.Proofs.YthmlibapjhmdbaaDoor
open Go.RowKit Go.Shelf

attribute [local go_sem] eq33 eq40

set_option maxRecDepth 100000 in
set_option maxHeartbeats 400000 in
theorem maskTexts_long (x0 x1 x2 x3 : Nat) (s : ByteArray) (w : World) (G : Glob w) (hn : 200 < s.size) (KL : ∀ V : World, Glob V → Calls Tryd.prog 9 #[] V (fun e w' => e = .returned (.bool true) ∧ Below V.heap.size V w')) :
    Calls Tryd.prog 5 #[.agg #[.int .u64 x0, .int .u64 x1, .int .u64 x2, .int .u64 x3], .string s] w fun e w' => e = .returned (.bool true) ∧ Below w.heap.size w w' := by
  replace KL := Lib.hid KL
  have t0 : decide ((200 : Int) < (s.size : Int)) = true := by simp; omega
  have hb0 := (Below.refl _ w).alloc (Nat.le_refl _) (.cells #[.int .u64 x0, .int .u64 x1, .int .u64 x2, .int .u64 x3] 24)
  go_enter Tryd.func5, Tryd.ntmps5
  go_wp2_with fail
  refine (KL.out _ (G.next hb0)).mono ?_
  rintro e w1 ⟨rfl, hb⟩
  go_wp2_with fail
  go_ret
  exact ⟨rfl, bmore hb0 hb⟩

set_option maxRecDepth 100000 in
set_option maxHeartbeats 2000000 in
theorem maskTexts_walk (x0 x1 x2 x3 c0 c1 c2 c3 : Nat) (er : Int) (T s : ByteArray) (w : World) (G : Glob w) (hs : s.size ≤ 200)
    (KT : ∀ V : World, Glob V → Calls Tryd.prog 32 #[.agg #[.int .u64 x0, .int .u64 x1, .int .u64 x2, .int .u64 x3]] V (fun e w' => e = .returned (.string T) ∧ Below V.heap.size V w'))
    (KRT : ∀ V : World, Calls Tryd.prog 33 #[.agg #[.int .u64 x0, .int .u64 x1, .int .u64 x2, .int .u64 x3]] V (fun e w' => e = .returned (.string T) ∧ Below V.heap.size V w'))
    (KP : ∀ V : World, Glob V → Calls Tryd.prog 30 #[.string s] V (fun e w' => e = .returned (.tuple #[.agg #[.int .u64 c0, .int .u64 c1, .int .u64 c2, .int .u64 c3], .int .i64 er]) ∧ Below V.heap.size V w'))
    (KRP : ∀ V : World, Calls Tryd.prog 31 #[.string s] V (fun e w' => e = .returned (.tuple #[.agg #[.int .u64 c0, .int .u64 c1, .int .u64 c2, .int .u64 c3], .int .i64 er]) ∧ Below V.heap.size V w'))
    (KL : ∀ V : World, Glob V → Calls Tryd.prog 9 #[] V (fun e w' => e = .returned (.bool true) ∧ Below V.heap.size V w')) :
    Calls Tryd.prog 5 #[.agg #[.int .u64 x0, .int .u64 x1, .int .u64 x2, .int .u64 x3], .string s] w fun e w' => e = .returned (.bool true) ∧ Below w.heap.size w w' := by
  replace KL := Lib.hid KL; replace KT := Lib.hid KT; replace KP := Lib.hid KP; replace KRT := Lib.hid KRT; replace KRP := Lib.hid KRP
  have t0 : decide ((200 : Int) < (s.size : Int)) = false := by simp; omega
  have hb0 := (Below.refl _ w).alloc (Nat.le_refl _) (.cells #[.int .u64 x0, .int .u64 x1, .int .u64 x2, .int .u64 x3] 24)
  have j0 := Bk.new w 24 #[.int .u64 x0, .int .u64 x1, .int .u64 x2, .int .u64 x3]
  go_enter Tryd.func5, Tryd.ntmps5
  go_wp2_with fail
  refine (KP.out _ (G.next hb0)).mono ?_
  rintro e w1 ⟨rfl, hb⟩
  replace hb0 := bmore hb0 hb; replace j0 := j0.next hb; clear hb
  have hx : Below w1.heap.size w1 (w1.alloc (.cells #[.int .u64 c0, .int .u64 c1, .int .u64 c2, .int .u64 c3] 27)) := (Below.refl _ _).alloc (Nat.le_refl _) _
  have j1 := Bk.new w1 27 #[.int .u64 c0, .int .u64 c1, .int .u64 c2, .int .u64 c3]
  replace hb0 := bmore hb0 hx; replace j0 := j0.next hx; clear hx
  go_wp2_with fail
  refine (KRP.out _).mono ?_
  rintro e w2 ⟨rfl, hb⟩
  replace hb0 := bmore hb0 hb; replace j0 := j0.next hb; replace j1 := j1.next hb; clear hb
  have hx : Below w2.heap.size w2 (w2.alloc (.cells #[.int .u64 c0, .int .u64 c1, .int .u64 c2, .int .u64 c3] 24)) := (Below.refl _ _).alloc (Nat.le_refl _) _
  have j2 := Bk.new w2 24 #[.int .u64 c0, .int .u64 c1, .int .u64 c2, .int .u64 c3]
  replace hb0 := bmore hb0 hx; replace j0 := j0.next hx; replace j1 := j1.next hx; clear hx
  go_wp2_with fail
  generalize w2.alloc (.cells #[.int .u64 c0, .int .u64 c1, .int .u64 c2, .int .u64 c3] 24) = W at *
  have A0 := In.cell (B := W.heap.size) j0.lt (j0.cell 0 _ rfl)
  have A1 := In.cell (B := W.heap.size) j0.lt (j0.cell 1 _ rfl)
  have A2 := In.cell (B := W.heap.size) j0.lt (j0.cell 2 _ rfl)
  have A3 := In.cell (B := W.heap.size) j0.lt (j0.cell 3 _ rfl)
  have C0 := In.cell (B := W.heap.size) j1.lt (j1.cell 0 _ rfl)
  have C1 := In.cell (B := W.heap.size) j1.lt (j1.cell 1 _ rfl)
  have C2 := In.cell (B := W.heap.size) j1.lt (j1.cell 2 _ rfl)
  have C3 := In.cell (B := W.heap.size) j1.lt (j1.cell 3 _ rfl)
  have D0 := In.cell (B := W.heap.size) j2.lt (j2.cell 0 _ rfl)
  have D1 := In.cell (B := W.heap.size) j2.lt (j2.cell 1 _ rfl)
  have D2 := In.cell (B := W.heap.size) j2.lt (j2.cell 2 _ rfl)
  have D3 := In.cell (B := W.heap.size) j2.lt (j2.cell 3 _ rfl)
  have hIn := inNonempty W.heap.size W
  have KLW := Lib.hid (fun n : In W.heap.size W => KL.out n.val ((G.next hb0).next n.ok))
  have KTW := Lib.hid (fun n : In W.heap.size W => KT.out n.val ((G.next hb0).next n.ok))
  refine region_in W.heap.size (by kernel_rfl) (by kernel_rfl) ?_
  repeat (go_big_quiet_step (first | (go_at_call 10; with_reducible exact Calls.in_of (Nat.le_refl _) (own_any _ _ _ _ _)) | (go_at_call 21; with_reducible exact Calls.in_of (Nat.le_refl _) (told_any _ _ _ _ _)) | (go_at_call 32; with_reducible exact Calls.in_of (Nat.le_refl _) (KTW.out _)) | (go_at_call 33; with_reducible exact Calls.in_of (Nat.le_refl _) (KRT.out _)) | (go_at_call 9; with_reducible exact Calls.in_of (Nat.le_refl _) (KLW.out _))))
  refine wpQuiet_nil ?_
  intro w7 hb7
  clear A0 A1 A2 A3 C0 C1 C2 C3 D0 D1 D2 D3
  go_wp2_with fail
  go_ret
  exact ⟨rfl, bmore hb0 hb7⟩

theorem text_S (a b c e : Nat) (w : World) (hm : Mk.W4 [a, b, c, e]) (G : Glob w) :
    Calls Tryd.prog 32 #[.agg #[.int .u64 a, .int .u64 b, .int .u64 c, .int .u64 e]] w fun x w' => x = .returned (.string (textOf [a, b, c, e] (S [a, b, c, e]))) ∧ Below w.heap.size w w' := by
  have := text_any a b c e w hm G
  rw [nums_lc] at this
  exact this
theorem maskTexts_any (x0 x1 x2 x3 : Nat) (s : ByteArray) (w : World) (G : Glob w) (hx : Mk.W4 [x0, x1, x2, x3]) :
    Calls Tryd.prog 5 #[.agg #[.int .u64 x0, .int .u64 x1, .int .u64 x2, .int .u64 x3], .string s] w fun e w' => e = .returned (.bool true) ∧ Below w.heap.size w w' := by
  by_cases hs : s.size ≤ 200
  · have h1 := fun V G => parse_any s V G (by omega)
    have h2 := fun V => rParse_any s V hs
    rcases parse_or s with ⟨c, hc, hW⟩ | hc
    · obtain ⟨c0, c1, c2, c3, rfl⟩ := hW.four
      rw [hc] at h1 h2
      exact maskTexts_walk x0 x1 x2 x3 c0 c1 c2 c3 0 _ s w G hs (fun V G => text_S x0 x1 x2 x3 V hx G) (fun V => rText_any x0 x1 x2 x3 V hx) h1 h2 (fun V G => live_any V G)
    · rw [hc] at h1 h2
      exact maskTexts_walk x0 x1 x2 x3 0 0 0 0 5 _ s w G hs (fun V G => text_S x0 x1 x2 x3 V hx G) (fun V => rText_any x0 x1 x2 x3 V hx) h1 h2 (fun V G => live_any V G)
  · exact maskTexts_long x0 x1 x2 x3 s w G (by omega) (fun V G => live_any V G)
end Go.Proofs.YthmlibapjhmdbaaDoor
