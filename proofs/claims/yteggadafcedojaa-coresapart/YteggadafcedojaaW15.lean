/- wish; ranks of fewer, of more. -/
import Derived.Test.YteggadafcedojaaW14
namespace Go.Proofs.Yteggadafcedojaa
open Go.RowKit Go.Shelf

set_option maxRecDepth 100000 in
set_option maxHeartbeats 400000 in
theorem wish_any (a b c e r q d : Int) (w : World) :
    Calls Try.prog 20 #[.agg #[.int .u64 a, .int .u64 b, .int .u64 c, .int .u64 e, .int .i64 r, .int .i64 q, .int .i64 d]] w fun x w' => x = .returned (.agg #[.int .u64 a, .int .u64 b, .int .u64 c, .int .u64 e, .int .i64 r, .int .i64 q, .int .i64 d]) ∧ Below w.heap.size w w' := by
  go_enter Try.func20, Try.ntmps20
  go_wp2
  refine bodyPost_ret (v := .agg #[.int .u64 a, .int .u64 b, .int .u64 c, .int .u64 e, .int .i64 r, .int .i64 q, .int .i64 d]) (by simp [results, Try.results20, go_sem]) rfl ⟨rfl, ?_⟩
  exact ((Below.refl _ _).alloc (Nat.le_refl _) _).alloc (by simp) _
end Go.Proofs.Yteggadafcedojaa
