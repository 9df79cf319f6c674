/- dag: mayBe. -/
import Derived.Test.YtodgkjmkjahkiaaD2
namespace Go.Proofs.Ytodgkjmkjahkiaa
open Go.RowKit

def okB (l : List St) (i : Nat) : Bool := sizesB (stA l i) && edgesB (stA l i).es i l.length
set_option maxRecDepth 100000 in
set_option maxHeartbeats 1000000 in
theorem may_any (A : Option Addr) (n cap : Nat) (l : List St) (w : World) (hA : StsAt w A l) (hn : l.length = n) (hl : n ≤ maxLen) (hc : n ≤ cap) :
    Calls Try.prog 43 #[.slice A n cap] w fun e w' => e = .returned (.bool (mayB l)) ∧ Below w.heap.size w w' := by
  have HN := Lib.hid hn
  have K0 := Lib.hid (isW_any n 1 16)
  have hde := Lib.hid (show mayB l = (isW n 1 16 && allR (okB l) n) from by rw [← hn]; rfl)
  have hb := Lib.hid (show isW n 1 16 = true → n ≤ 16 from fun h => by have := isW_iff.1 h; omega)
  have hle := Lib.hid (show n ≤ 16 → (n : Int) ≤ 4611686018427387904 from fun h => by omega)
  clear hn
  unfold maxLen at hl
  generalize isW n 1 16 = b0 at *
  cases b0
  · go_enter Try.func43, Try.ntmps43
    go_wp2_with (go_at_call 66; (with_reducible refine (K0.out _).mono ?_); rintro x w ⟨rfl, rfl⟩)
    go_ret
    exact ⟨by rw [hde.out]; rfl, Below.refl _ _⟩
  · have hl16 := hb.out rfl
    clear hb
    go_enter Try.func43, Try.ntmps43
    go_wp2_with (go_at_call 66; (with_reducible refine (K0.out _).mono ?_); rintro x w ⟨rfl, rfl⟩)
    go_loopw [11] (fun i wr => ∃ k : Nat, k ≤ n ∧ i = .int .i64 k ∧ Below w.heap.size w wr ∧ allR (okB l) k = true)
      (fun i _ => n - (intOf i).toNat)
    case atStart => exact ⟨0, Nat.zero_le _, rfl, Below.refl _ _, rfl⟩
    case round =>
      obtain ⟨k, hk, rfl, hb, hall⟩ := hrel
      by_cases hlt : k < n
      · obtain ⟨ad, B, c, rfl, h1, h2⟩ := (hA.next hb).at_ (i := k) (by rw [HN.out]; exact hlt)
        obtain ⟨c0, c1, c2, c3, c4, lm, lc, eds⟩ := h2
        have i0 : (0 : Int) ≤ (k : Int) := by omega
        have i1 : (k : Int) < (n : Int) := by omega
        have hallk := Lib.hid (show allR (okB l) (k + 1) = (sizesB (stA l k) && edgesB (stA l k).es k n) from by show (allR (okB l) k && okB l k) = _; rw [hall, ← HN.out]; rfl)
        have hno := Lib.hid (show (sizesB (stA l k) && edgesB (stA l k).es k n) = false → mayB l = false from fun h => by
          rw [hde.out]
          simp only [Bool.true_and]
          exact allR_no (f := okB l) (i := k) hlt (by unfold okB; rw [HN.out]; exact h))
        have K1 := Lib.hid (sizes_any (stA l k) (.slice B (stA l k).es.length c))
        have K2 := Lib.hid (fun V (h : Below wr.heap.size wr V) => edges_any B (stA l k).es.length c (stA l k).es k n V (eds.next h) rfl lm lc ⟨by omega, by omega⟩)
        have HB := Lib.hid hb
        have hb1 := Lib.hid (fun o => below_alloc wr o)
        clear eds hall hb
        generalize sizesB (stA l k) = b1 at *
        generalize edgesB (stA l k).es k n = b2 at *
        generalize stA l k = x at *
        cases b1
        · have hbT := Lib.hid (hno.out rfl)
          go_wp2_with (go_at_call 67; (with_reducible refine (K1.out _).mono ?_); rintro x wn ⟨rfl, hb2⟩)
          go_ret
          exact ⟨by rw [hbT.out]; rfl, bmore HB.out (bmore (hb1.out _) hb2)⟩
        · go_wp2_with (first
            | (go_at_call 67; (with_reducible refine (K1.out _).mono ?_); rintro y wn ⟨rfl, hb2⟩; have d4 := ((Bk.new wr 38 #[.int .i64 x.r, .int .i64 x.p, .int .i64 x.d, .int .i64 x.m, .slice B x.es.length c]).next hb2).cell 4 _ rfl)
            | (go_at_call 68; (with_reducible refine (K2.out _ (bmore (hb1.out _) hb2)).mono ?_); rintro y wm ⟨rfl, hb3⟩; cases b2))
          · have hbT := Lib.hid (hno.out rfl)
            go_wp2_with fail
            go_ret
            exact ⟨by rw [hbT.out]; rfl, bmore HB.out (bmore (bmore (hb1.out _) hb2) hb3)⟩
          · go_wp2_with fail
            go_roundw
            case rel => exact ⟨k + 1, by omega, by go_num, bmore HB.out (bmore (bmore (hb1.out _) hb2) hb3), hallk.out⟩
            case measure => simp [intOf]; omega
      · obtain rfl : k = n := by omega
        go_wp2_with fail
        go_ret
        exact ⟨by rw [hde.out, hall]; rfl, hb⟩
end Go.Proofs.Ytodgkjmkjahkiaa
