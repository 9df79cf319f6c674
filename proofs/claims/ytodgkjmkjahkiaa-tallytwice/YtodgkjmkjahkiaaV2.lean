/- The document's tally: State. -/
import Derived.Test.YtodgkjmkjahkiaaV1
namespace Go.Proofs.Ytodgkjmkjahkiaa
open Go.RowKit

theorem ints_row {w : World} {base n cap : Nat} {A : Option Addr} {zs : List Int} (h : w.ownsRow base 3 1 (.slice A n cap) n (iv zs)) (hl : zs.length = n) : IntsAt w A zs := by
  subst hl
  exact ints_iv rfl h
/-- The document's tally, of the very same kind. -/
structure RTal (w : World) (q : Nat) (va vb vc : Value) (n : Nat) (T : Tv) : Prop where
  r : RIn w q va vb vc n n n T.ns T.vs T.cs
  ln : T.ns.length = n
  lv : T.vs.length = n
  lc : T.cs.length = n
  most : n ≤ 16
  pos : 0 < n
set_option maxRecDepth 100000 in
set_option maxHeartbeats 2000000 in
theorem rstate_any {w : World} {q n : Nat} {va vb vc : Value} {T : Tv} (h : RTal w q va vb vc n T) :
    Calls Try.prog 34 #[.pointer (some ⟨q, 0, none⟩)] w fun e w' => e = .returned (.int .i64 T.st) ∧ w' = w := by
  have hm := h.most
  obtain ⟨B, cb, rfl⟩ := own_form h.r.rb
  obtain ⟨C, cc, rfl⟩ := own_form h.r.rc
  have K2 := Lib.hid (rhas_any B n cb T.vs 2 w (ints_row h.r.rb h.lv) h.lv (by unfold maxLen; omega))
  have K0 := Lib.hid (rhas_any B n cb T.vs 0 w (ints_row h.r.rb h.lv) h.lv (by unfold maxLen; omega))
  have K1 := Lib.hid (rhas_any C n cc T.cs (-1) w (ints_row h.r.rc h.lc) h.lc (by unfold maxLen; omega))
  have c1 := h.r.blk.cell 1 _ rfl
  have c2 := h.r.blk.cell 2 _ rfl
  have HT := Lib.hid (show T.st = if hasB T.vs 2 then 2 else if hasB T.vs 0 then 0 else if hasB T.cs (-1) then 1 else 3 from rfl)
  generalize T.st = st at *
  clear h hm
  generalize hasB T.vs 2 = b2 at *
  generalize hasB T.vs 0 = b0 at *
  generalize hasB T.cs (-1) = b1 at *
  go_enter Try.func34, Try.ntmps34
  cases b2
  · cases b0
    · cases b1
      all_goals
        go_wp2_with (first
          | (go_at_call 59; (with_reducible refine K2.out.mono ?_); rintro y w ⟨rfl, rfl⟩)
          | (go_at_call 59; (with_reducible refine K0.out.mono ?_); rintro y w ⟨rfl, rfl⟩)
          | (go_at_call 59; (with_reducible refine K1.out.mono ?_); rintro y w ⟨rfl, rfl⟩))
        go_ret
        exact ⟨by rw [HT.out]; rfl, rfl⟩
    · go_wp2_with (first
        | (go_at_call 59; (with_reducible refine K2.out.mono ?_); rintro y w ⟨rfl, rfl⟩)
        | (go_at_call 59; (with_reducible refine K0.out.mono ?_); rintro y w ⟨rfl, rfl⟩))
      go_ret
      exact ⟨by rw [HT.out]; rfl, rfl⟩
  · go_wp2_with (go_at_call 59; (with_reducible refine K2.out.mono ?_); rintro y w ⟨rfl, rfl⟩)
    go_ret
    exact ⟨by rw [HT.out]; rfl, rfl⟩
end Go.Proofs.Ytodgkjmkjahkiaa
