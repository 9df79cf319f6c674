/- A net that is none. -/
import Derived.Test.YtlhfijjjfolldaaA8
import Derived.Test.YtlhfijjjfolldaaP0
namespace Go.Proofs.Ytlhfijjjfolldaa
open Go.RowKit Go.Maps

set_option maxRecDepth 100000 in
set_option maxHeartbeats 1000000 in
theorem twice_nil (i : Int) (w : World) : Calls Try.prog 20 #[.pointer none, .int .i64 i] w fun e w' => e = .returned (.bool false) ∧ Below w.heap.size w w' := by
  have hIn := inNonempty w.heap.size w
  go_enter Try.func20, Try.ntmps20
  go_upto_region 1 with fail
  refine region_in w.heap.size (by kernel_rfl) (by kernel_rfl) ?_
  repeat (go_big_quiet_step (first | (go_at_call 26; with_reducible exact Calls.in_of (Nat.le_refl _) ((size_nil _).mono fun _ _ q => ⟨q.1, by rw [← q.2]; exact Below.refl _ _⟩))))
  refine wpQuiet_nil ?_
  intro w6 hb6
  have L6 := Lib.hid hb6
  clear hb6
  go_wp2_with fail
  go_ret
  exact ⟨rfl, L6.out⟩
set_option maxRecDepth 100000 in
set_option maxHeartbeats 2000000 in
theorem nil_law (HT : TwiceC) (o : Oq) (w : World) : Calls Try.prog 5 #[.agg o.cs] w fun e w' => e = .returned (.bool true) ∧ Below w.heap.size w w' := by
  have KL := Lib.hid (live_any HT)
  clear HT
  have low := below_alloc w (.cells o.cs 32)
  have kb := Bk.new w 32 o.cs
  have HL := Lib.hid low
  have KB := Lib.hid kb
  have d2 := kb.cell 2 _ rfl
  clear kb low
  go_enter Try.func5, Try.ntmps5
  go_wp2_with fail
  refine (take_nil o.i _).mono ?_
  rintro _ w1 ⟨rfl, rfl⟩
  have d1 := KB.out.cell 1 _ rfl
  go_wp2_with fail
  refine (send_nil o.A o.zs.length o.cap _).mono ?_
  rintro _ w1 ⟨rfl, rfl⟩
  go_wp2_with fail
  refine (drop_nil o.i _).mono ?_
  rintro _ w1 ⟨rfl, rfl⟩
  go_wp2_with fail
  refine (twice_nil o.i _).mono ?_
  rintro _ w1 ⟨rfl, b1⟩
  have B1 := Lib.hid (bmore HL.out b1)
  clear d1 d2 b1
  go_wp2_with fail
  refine (list_nil _).mono ?_
  rintro _ w2 ⟨rfl, rfl⟩
  go_wp2_with fail
  refine (lost_nil _).mono ?_
  rintro _ w2 ⟨rfl, rfl⟩
  go_wp2_with fail
  refine (KL.out _).mono ?_
  rintro _ w3 ⟨rfl, b3⟩
  go_wp2_with fail
  go_ret
  exact ⟨rfl, bmore B1.out b3⟩
end Go.Proofs.Ytlhfijjjfolldaa
