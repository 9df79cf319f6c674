/- Proved: for every credential and every time, ReplayNil answers true (a cache that is none keeps nothing: Use and Revoke tell ErrArg, Used and Revoked false, Len 0; and the document's examples hold), and the arguments read as they did.
   Conditions: none beyond the row's own (arguments that can be read). -/
import Derived.Test.YtiokpflciagdoaaL1
import Derived.Test.YtiokpflciagdoaaP0
namespace Go.Proofs.Ytiokpflciagdoaa
open Go.ChangeShapes Go.WideShapes Go.ChangeAt Go.RowKit Go.Joins

set_option maxRecDepth 100000 in
set_option maxHeartbeats 1000000 in
theorem replayNil_any (j e s f u : Int) (A : Option Addr) (n cap : Nat) (c now : Int) (w : World) :
    Calls Try.prog 6 #[.agg #[.int .i64 j, .int .i64 e, .int .i64 s, .int .i64 f, .int .i64 u, .slice A n cap, .int .i64 c], .int .i64 now] w fun x w' => x = .returned (.bool true) ∧ Below w.heap.size w w' := by
  have hb0 := below_alloc w (.cells #[.int .i64 j, .int .i64 e, .int .i64 s, .int .i64 f, .int .i64 u, .slice A n cap, .int .i64 c] 31)
  have k0 := Bk.new w 31 #[.int .i64 j, .int .i64 e, .int .i64 s, .int .i64 f, .int .i64 u, .slice A n cap, .int .i64 c]
  go_enter Try.func6, Try.ntmps6
  go_wp2_with fail
  refine (use_nil _ _ _ _ _ _ _ _ _ _ _).mono ?_
  rintro x w1 ⟨rfl, hb⟩
  replace hb0 := bmore hb0 hb; replace k0 := k0.next hb; clear hb
  obtain ⟨q0, q1, q2, q3, q4, q5, q6⟩ : w1.cell? ⟨w.heap.size, 0, none⟩ = some (.int .i64 j) ∧ w1.cell? ⟨w.heap.size, 1, none⟩ = some (.int .i64 e) ∧ w1.cell? ⟨w.heap.size, 2, none⟩ = some (.int .i64 s) ∧ w1.cell? ⟨w.heap.size, 3, none⟩ = some (.int .i64 f) ∧ w1.cell? ⟨w.heap.size, 4, none⟩ = some (.int .i64 u) ∧ w1.cell? ⟨w.heap.size, 5, none⟩ = some (.slice A n cap) ∧ w1.cell? ⟨w.heap.size, 6, none⟩ = some (.int .i64 c) := ⟨k0.cell 0 _ rfl, k0.cell 1 _ rfl, k0.cell 2 _ rfl, k0.cell 3 _ rfl, k0.cell 4 _ rfl, k0.cell 5 _ rfl, k0.cell 6 _ rfl⟩
  go_wp2_with fail
  refine (used_nil _ _ _ _ _ _ _ _ _ _ _).mono ?_
  rintro x w2 ⟨rfl, hb⟩
  replace hb0 := bmore hb0 hb; replace k0 := k0.next hb; clear hb q0 q1 q2 q3 q4 q5 q6
  obtain ⟨q0, q1, q2, q3, q4, q5, q6⟩ : w2.cell? ⟨w.heap.size, 0, none⟩ = some (.int .i64 j) ∧ w2.cell? ⟨w.heap.size, 1, none⟩ = some (.int .i64 e) ∧ w2.cell? ⟨w.heap.size, 2, none⟩ = some (.int .i64 s) ∧ w2.cell? ⟨w.heap.size, 3, none⟩ = some (.int .i64 f) ∧ w2.cell? ⟨w.heap.size, 4, none⟩ = some (.int .i64 u) ∧ w2.cell? ⟨w.heap.size, 5, none⟩ = some (.slice A n cap) ∧ w2.cell? ⟨w.heap.size, 6, none⟩ = some (.int .i64 c) := ⟨k0.cell 0 _ rfl, k0.cell 1 _ rfl, k0.cell 2 _ rfl, k0.cell 3 _ rfl, k0.cell 4 _ rfl, k0.cell 5 _ rfl, k0.cell 6 _ rfl⟩
  go_wp2_with fail
  refine (revoke_nil _ _ _).mono ?_
  rintro x w3 ⟨rfl, rfl⟩
  go_wp2_with fail
  refine (revoked_nil _ _ _ _ _ _ _ _ _ _).mono ?_
  rintro x w4 ⟨rfl, hb⟩
  replace hb0 := bmore hb0 hb; clear hb q0 q1 q2 q3 q4 q5 q6 k0
  go_wp2_with fail
  refine (len_nil _).mono ?_
  rintro x w5 ⟨rfl, rfl⟩
  go_wp2_with fail
  refine (live_any _).mono ?_
  rintro x w6 ⟨rfl, hb⟩
  replace hb0 := bmore hb0 hb; clear hb
  go_wp2_with fail
  go_ret
  exact ⟨rfl, hb0⟩

set_option maxRecDepth 100000 in
set_option maxHeartbeats 2000000 in
theorem replayNil_lifted (os : Os) (started : os.Started) (H : Type) (enc : TypeId × Value → H) :
    ReturnsInHanded {} Try.checked os 6 .any (Rows.replayNilSpec.pre6 enc Try.prog Try.f6 Rows.replayNilRow.domain false) (Rows.replayNilSpec.post enc Try.prog Try.f6 false true false false) := by
  refine returnsInHanded_of_change (C := Try.checked) own started (by kernel_rfl) Try.func6
    (ChangeSpec.witness6 (enc := enc) (C := Try.checked) false ⟨#[], #[.agg #[.int .i64 0, .int .i64 0, .int .i64 0, .int .i64 0, .int .i64 0, .slice none 0 0, .int .i64 0], .int .i64 0], []⟩ 8 (by kernel_rfl) (by kernel_rfl) (by kernel_rfl) (by kernel_rfl)) ?_
  intro W base args ds gs before hval0 hW _ _
  have hval : ∀ (j : Nat) t v, Try.f6.params[j]? = some t → args[j]? = some v → Value.okWide Try.prog W .any base t v := hval0
  have hW' := hW
  obtain ⟨p, q, hA0, hV, rfl, hfz, hnd⟩ := hW
  have hA : DataW.TrodAll enc Try.prog W 0 (fun _ => true) true Try.f6.params.toList args.toList ds p := hA0
  rw [Try.params6] at hA hval
  obtain ⟨v0, vs0, d0, ds0, p0, q0, hargs, rfl, rfl, h0, r0⟩ := trodAll_cons hA
  obtain ⟨v1, vs1, d1, ds1, p1, q1, rfl, rfl, rfl, h1, r1⟩ := trodAll_cons r0
  obtain ⟨rfl, rfl, rfl⟩ := trodAll_nil r1
  obtain rfl : args = #[v0, v1] := by cases args; simp_all
  obtain ⟨rfl, rfl⟩ := trodVars_none hV
  obtain ⟨x, rfl, hx⟩ := open_cred (hval 0 31 v0 rfl rfl) h0
  obtain ⟨n, rfl, rfl, rfl, wn⟩ := open_int Try.underlying3 (hval 1 3 v1 rfl rfl) h1
  clear hA0 hA hval0
  refine (replayNil_any x.j x.e x.s x.f x.u x.A x.n x.cap x.c n W).mono fun e W' ⟨he, hg⟩ => ?_
  subst he
  exact ⟨_, rfl, answerAll rfl (by kernel_rfl) rfl rfl rfl (by kernel_rfl) hW' hg⟩

theorem replayNil_holds : Rows.ReplayNilSaid :=
  OpenClaim.holds_of_wide 6 Try.f6 rfl rfl rfl rfl rfl rfl rfl ⟨rfl, rfl, rfl, rfl, rfl⟩ rfl rfl rfl rfl rfl (by kernel_rfl) Try.func6 (by kernel_rfl)
    (of_decide_eq_true (by kernel_rfl)) (by unfold Func.isWrapper; rw [if_neg (by decide +kernel)]; exact ⟨rfl, rfl⟩)
    (fun os started H enc _ => replayNil_lifted os started H enc)
#print axioms replayNil_holds
end Go.Proofs.Ytiokpflciagdoaa
