/- tally: a tally that is none. -/
import Derived.Test.YtodgkjmkjahkiaaT8
namespace Go.Proofs.Ytodgkjmkjahkiaa
open Go.RowKit Go.Maps

/-- A call: a vote, or an exit. -/
structure Op4 where
  v : Bool
  n : Int
  y : Bool
  c : Int
abbrev Op4.cs (o : Op4) : Array Value := #[.bool o.v, .int .i64 o.n, .bool o.y, .int .i64 o.c]
set_option maxRecDepth 100000 in
set_option maxHeartbeats 2000000 in
theorem tnil_law (o : Op4) (w : World) : Calls Try.prog 12 #[.agg o.cs] w fun e w' => e = .returned (.bool true) ∧ Below w.heap.size w w' := by
  obtain ⟨v, n, y, c⟩ := o
  have hb := Lib.hid (below_alloc w (.cells #[.bool v, .int .i64 n, .bool y, .int .i64 c] 51))
  have k := Bk.new w 51 #[.bool v, .int .i64 n, .bool y, .int .i64 c]
  have d1 := k.cell 1 _ rfl
  have d2 := k.cell 2 _ rfl
  have d3 := k.cell 3 _ rfl
  clear k
  have K1 := Lib.hid (vote_nil n y)
  have K2 := Lib.hid (exit_nil n c)
  have K3 := Lib.hid state_nil
  have K4 := Lib.hid code_nil
  have K5 := Lib.hid missing_nil
  have KL := Lib.hid tlive_any
  dsimp only [Op4.cs]
  go_enter Try.func12, Try.ntmps12
  go_wp2_with (first
    | (go_at_call 41; (with_reducible refine (K1.out _).mono ?_); rintro _ _ ⟨rfl, rfl⟩)
    | (go_at_call 42; (with_reducible refine (K2.out _).mono ?_); rintro _ _ ⟨rfl, rfl⟩)
    | (go_at_call 33; (with_reducible refine (K3.out _).mono ?_); rintro _ _ ⟨rfl, rfl⟩)
    | (go_at_call 35; (with_reducible refine (K4.out _).mono ?_); rintro _ _ ⟨rfl, rfl⟩)
    | (go_at_call 37; (with_reducible refine (K5.out _).mono ?_); rintro _ _ ⟨rfl, rfl⟩)
    | (go_at_call 29; (with_reducible refine (KL.out _).mono ?_); rintro _ w9 ⟨rfl, hb9⟩))
  go_ret
  exact ⟨by first | rfl | simp_all, bmore hb.out hb9⟩
end Go.Proofs.Ytodgkjmkjahkiaa
