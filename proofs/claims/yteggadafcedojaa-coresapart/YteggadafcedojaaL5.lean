/- The law CoresAssign, walked. -/
import Derived.Test.YteggadafcedojaaW23
import Derived.Test.YteggadafcedojaaL3
namespace Go.Proofs.Yteggadafcedojaa
open Go.RowKit Go.Shelf

/-- Masks told, or none, with a code. -/
def Out (w : World) (ms : List (List Nat)) (n : Nat) (er : Int) (e : Ending) (w' : World) : Prop :=
  ∃ g cap, e = .returned (.tuple #[.slice (some ⟨g, 0, none⟩) n cap, .int .i64 er]) ∧ MasksAt w' w'.heap.size g ms ∧ Below w.heap.size w w'

set_option maxRecDepth 100000 in
set_option maxHeartbeats 1000000 in
theorem coresAssign_nil (s p a b c e r q d er : Int) (w : World)
    (h1 : ∀ W, Calls Try.prog 19 #[.agg #[.int .i64 s, .int .i64 p], .agg #[.int .u64 a, .int .u64 b, .int .u64 c, .int .u64 e, .int .i64 r, .int .i64 q, .int .i64 d]] W fun x w' => x = .returned (.tuple #[.slice none 0 0, .int .i64 er]) ∧ Below W.heap.size W w')
    (h2 : ∀ W, Calls Try.prog 21 #[.agg #[.int .i64 s, .int .i64 p], .agg #[.int .u64 a, .int .u64 b, .int .u64 c, .int .u64 e, .int .i64 r, .int .i64 q, .int .i64 d]] W fun x w' => x = .returned (.tuple #[.slice none 0 0, .int .i64 er]) ∧ Below W.heap.size W w') :
    Calls Try.prog 4 #[.agg #[.int .i64 s, .int .i64 p], .agg #[.int .u64 a, .int .u64 b, .int .u64 c, .int .u64 e, .int .i64 r, .int .i64 q, .int .i64 d]] w fun x w' => x = .returned (.bool true) ∧ Below w.heap.size w w' := by
  have H1 := Lib.hid h1
  have H2 := Lib.hid h2
  clear h1 h2
  have hb0 := ((Below.refl _ w).alloc (Nat.le_refl _) (.cells #[.int .i64 s, .int .i64 p] 23)).alloc (by simp) (.cells #[.int .u64 a, .int .u64 b, .int .u64 c, .int .u64 e, .int .i64 r, .int .i64 q, .int .i64 d] 45)
  have k0 := (Bk.new w 23 #[.int .i64 s, .int .i64 p]).alloc (.cells #[.int .u64 a, .int .u64 b, .int .u64 c, .int .u64 e, .int .i64 r, .int .i64 q, .int .i64 d] 45)
  have k1 : Bk ((w.alloc (.cells #[.int .i64 s, .int .i64 p] 23)).alloc (.cells #[.int .u64 a, .int .u64 b, .int .u64 c, .int .u64 e, .int .i64 r, .int .i64 q, .int .i64 d] 45)) (w.heap.size + 1) 45 #[.int .u64 a, .int .u64 b, .int .u64 c, .int .u64 e, .int .i64 r, .int .i64 q, .int .i64 d] := by
    have := Bk.new (w.alloc (.cells #[.int .i64 s, .int .i64 p] 23)) 45 #[.int .u64 a, .int .u64 b, .int .u64 c, .int .u64 e, .int .i64 r, .int .i64 q, .int .i64 d]
    rw [size_alloc] at this
    exact this
  go_enter Try.func4, Try.ntmps4
  go_wp2_with fail
  generalize (w.alloc (.cells #[.int .i64 s, .int .i64 p] 23)).alloc (.cells #[.int .u64 a, .int .u64 b, .int .u64 c, .int .u64 e, .int .i64 r, .int .i64 q, .int .i64 d] 45) = W1 at *
  go_region_held3 (fun W => W.cell? ⟨w.heap.size, 0, none⟩ = some (.int .i64 s) ∧ W.cell? ⟨w.heap.size, 1, none⟩ = some (.int .i64 p) ∧ W.cell? ⟨w.heap.size + 1, 0, none⟩ = some (.int .u64 a) ∧ W.cell? ⟨w.heap.size + 1, 1, none⟩ = some (.int .u64 b) ∧ W.cell? ⟨w.heap.size + 1, 2, none⟩ = some (.int .u64 c) ∧ W.cell? ⟨w.heap.size + 1, 3, none⟩ = some (.int .u64 e) ∧ W.cell? ⟨w.heap.size + 1, 4, none⟩ = some (.int .i64 r) ∧ W.cell? ⟨w.heap.size + 1, 5, none⟩ = some (.int .i64 q) ∧ W.cell? ⟨w.heap.size + 1, 6, none⟩ = some (.int .i64 d))
    (first | exact cells9 k0 k1)
    (first | (go_at_call 9; refine (own_any _ _ _).mono ?_; rintro x wn ⟨rfl, hbn⟩; (first | replace hbn := undrew hbn | skip); replace hb0 := bmore hb0 hbn; replace k0 := k0.next hbn; replace k1 := k1.next hbn; clear hbn) | (go_at_call 20; refine (wish_any _ _ _ _ _ _ _ _).mono ?_; rintro x wn ⟨rfl, hbn⟩; (first | replace hbn := undrew hbn | skip); replace hb0 := bmore hb0 hbn; replace k0 := k0.next hbn; replace k1 := k1.next hbn; clear hbn) | (go_at_call 19; refine (H1.out _).mono ?_; rintro x wx ⟨rfl, hbn⟩; replace hb0 := bmore hb0 hbn; replace k0 := k0.next hbn; replace k1 := k1.next hbn; clear hbn))
  all_goals
    obtain ⟨c0, c1, d0, d1, d2, d3, d4, d5, d6⟩ := cells9 k0 k1
    go_wp2_with fail
    refine (H2.out _).mono ?_
    rintro x w3 ⟨rfl, hb3⟩
    replace hb0 := bmore hb0 hb3
    clear hb3 c0 c1 d0 d1 d2 d3 d4 d5 d6 k0 k1
    go_wp2_with fail
    refine (told_nil _).mono ?_
    rintro x w4 ⟨rfl, hb4⟩
    replace hb0 := bmore hb0 hb4
    clear hb4
    go_wp2_with fail
    refine (rSame_nil _).mono ?_
    rintro x w5 ⟨rfl, hb5⟩
    replace hb0 := bmore hb0 hb5
    clear hb5
    go_wp2_with fail
    refine (live_any _).mono ?_
    rintro x w6 ⟨rfl, hb6⟩
    replace hb0 := bmore hb0 hb6
    clear hb6
    go_wp2_with fail
    go_ret
    exact ⟨rfl, hb0⟩

set_option maxRecDepth 100000 in
set_option maxHeartbeats 1000000 in
theorem coresAssign_laid (s p a b c e r q d : Int) (ms : List (List Nat)) (n : Nat) (w : World) (hn : ms.length = n) (hl : n ≤ 32) (hn1 : 1 ≤ n)
    (h1 : ∀ W, Calls Try.prog 19 #[.agg #[.int .i64 s, .int .i64 p], .agg #[.int .u64 a, .int .u64 b, .int .u64 c, .int .u64 e, .int .i64 r, .int .i64 q, .int .i64 d]] W (Out W ms n 0))
    (h2 : ∀ W, Calls Try.prog 21 #[.agg #[.int .i64 s, .int .i64 p], .agg #[.int .u64 a, .int .u64 b, .int .u64 c, .int .u64 e, .int .i64 r, .int .i64 q, .int .i64 d]] W (Out W ms n 0)) :
    Calls Try.prog 4 #[.agg #[.int .i64 s, .int .i64 p], .agg #[.int .u64 a, .int .u64 b, .int .u64 c, .int .u64 e, .int .i64 r, .int .i64 q, .int .i64 d]] w fun x w' => x = .returned (.bool true) ∧ Below w.heap.size w w' := by
  have H1 := Lib.hid h1
  have H2 := Lib.hid h2
  have HN := Lib.hid hn
  clear h1 h2 hn
  have hb0 := ((Below.refl _ w).alloc (Nat.le_refl _) (.cells #[.int .i64 s, .int .i64 p] 23)).alloc (by simp) (.cells #[.int .u64 a, .int .u64 b, .int .u64 c, .int .u64 e, .int .i64 r, .int .i64 q, .int .i64 d] 45)
  have k0 := (Bk.new w 23 #[.int .i64 s, .int .i64 p]).alloc (.cells #[.int .u64 a, .int .u64 b, .int .u64 c, .int .u64 e, .int .i64 r, .int .i64 q, .int .i64 d] 45)
  have k1 : Bk ((w.alloc (.cells #[.int .i64 s, .int .i64 p] 23)).alloc (.cells #[.int .u64 a, .int .u64 b, .int .u64 c, .int .u64 e, .int .i64 r, .int .i64 q, .int .i64 d] 45)) (w.heap.size + 1) 45 #[.int .u64 a, .int .u64 b, .int .u64 c, .int .u64 e, .int .i64 r, .int .i64 q, .int .i64 d] := by
    have := Bk.new (w.alloc (.cells #[.int .i64 s, .int .i64 p] 23)) 45 #[.int .u64 a, .int .u64 b, .int .u64 c, .int .u64 e, .int .i64 r, .int .i64 q, .int .i64 d]
    rw [size_alloc] at this
    exact this
  go_enter Try.func4, Try.ntmps4
  go_wp2_with fail
  generalize (w.alloc (.cells #[.int .i64 s, .int .i64 p] 23)).alloc (.cells #[.int .u64 a, .int .u64 b, .int .u64 c, .int .u64 e, .int .i64 r, .int .i64 q, .int .i64 d] 45) = W1 at *
  go_region_held3 (fun W => W.cell? ⟨w.heap.size, 0, none⟩ = some (.int .i64 s) ∧ W.cell? ⟨w.heap.size, 1, none⟩ = some (.int .i64 p) ∧ W.cell? ⟨w.heap.size + 1, 0, none⟩ = some (.int .u64 a) ∧ W.cell? ⟨w.heap.size + 1, 1, none⟩ = some (.int .u64 b) ∧ W.cell? ⟨w.heap.size + 1, 2, none⟩ = some (.int .u64 c) ∧ W.cell? ⟨w.heap.size + 1, 3, none⟩ = some (.int .u64 e) ∧ W.cell? ⟨w.heap.size + 1, 4, none⟩ = some (.int .i64 r) ∧ W.cell? ⟨w.heap.size + 1, 5, none⟩ = some (.int .i64 q) ∧ W.cell? ⟨w.heap.size + 1, 6, none⟩ = some (.int .i64 d))
    (first | exact cells9 k0 k1)
    (first | (go_at_call 9; refine (own_any _ _ _).mono ?_; rintro x wn ⟨rfl, hbn⟩; (first | replace hbn := undrew hbn | skip); replace hb0 := bmore hb0 hbn; replace k0 := k0.next hbn; replace k1 := k1.next hbn; clear hbn) | (go_at_call 20; refine (wish_any _ _ _ _ _ _ _ _).mono ?_; rintro x wn ⟨rfl, hbn⟩; (first | replace hbn := undrew hbn | skip); replace hb0 := bmore hb0 hbn; replace k0 := k0.next hbn; replace k1 := k1.next hbn; clear hbn) | (go_at_call 19; refine (H1.out _).mono ?_; rintro x wx ⟨g1, ca, rfl, mA, hbn⟩; replace hb0 := bmore hb0 hbn; replace k0 := k0.next hbn; replace k1 := k1.next hbn; clear hbn))
  all_goals
    obtain ⟨c0, c1, d0, d1, d2, d3, d4, d5, d6⟩ := cells9 k0 k1
    go_wp2_with fail
    refine (H2.out _).mono ?_
    rintro x w3 ⟨g2, cb, rfl, mB, hb3⟩
    replace mA := mA.next hb3
    replace hb0 := bmore hb0 hb3
    clear hb3 c0 c1 d0 d1 d2 d3 d4 d5 d6 k0 k1
    go_wp2_with fail
    refine (told_any g1 ca n ms _ mA HN.out hl).mono ?_
    rintro x w4 ⟨v, rfl, hrow, hb4⟩
    obtain ⟨g3, cc, rfl⟩ : ∃ g cap, v = .slice (some ⟨g, 0, none⟩) n cap := by
      rcases Joins.ownsRow_forms hrow with ⟨_, h0⟩ | h0
      · omega
      · exact h0
    have mC := masks_own HN.out hrow
    replace mB := mB.next hb4
    replace hb0 := bmore hb0 hb4
    clear hb4 hrow mA
    go_wp2_with fail
    refine (rSame_eq g3 g2 cc cb n ms _ mC mB HN.out hl).mono ?_
    rintro x w5 ⟨rfl, hb5⟩
    replace hb0 := bmore hb0 hb5
    clear hb5 mB mC
    go_wp2_with fail
    refine (live_any _).mono ?_
    rintro x w6 ⟨rfl, hb6⟩
    replace hb0 := bmore hb0 hb6
    clear hb6
    go_wp2_with fail
    go_ret
    exact ⟨rfl, hb0⟩
end Go.Proofs.Yteggadafcedojaa
