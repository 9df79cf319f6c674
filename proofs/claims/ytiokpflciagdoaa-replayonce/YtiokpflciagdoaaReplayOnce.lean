/- Proved: for every most, credential, time and script, ReplayOnce answers true (no place is used twice while the credential that was used first lasts, whatever comes between; a cache keeps no more than its most; and the document's examples hold), and the argument reads as it did.
   Conditions: none beyond the row's own (arguments that can be read). -/
import Derived.Test.YtiokpflciagdoaaO1
import Derived.Test.YtiokpflciagdoaaP3
namespace Go.Proofs.Ytiokpflciagdoaa
open Go.ChangeShapes Go.WideShapes Go.ChangeAt Go.RowKit Go.Joins

theorem replayOnce_any (most now : Int) (A : Option Addr) (n cap : Nat) (os : List OpR) (x : Cr) (w : World) (hs : ScriptAt w A os) (hn : os.length = n) (hm : n ≤ maxLen) (hx : CrAt w x) :
    Calls Try.prog 4 #[.agg #[.int .i64 most, .int .i64 x.j, .int .i64 x.e, .int .i64 x.s, .int .i64 x.f, .int .i64 x.u, .slice x.A x.n x.cap, .int .i64 x.c, .int .i64 now, .slice A n cap]] w fun e w' => e = .returned (.bool true) ∧ Below w.heap.size w w' := by
  cases hsm : smallB os 60
  · exact once_big most now A n cap os x w hs hn hm hx hsm
  · by_cases h20 : x.n ≤ 20
    · by_cases hmo : most < 1 ∨ 64 < most
      · exact once_none most now A n cap os x w hs hn hm hx hsm h20 hmo
      · exact once_go most now A n cap os x w hs hn hm hx hsm h20 (by omega) (by omega)
    · exact once_long most now A n cap os x w hs hn hm hx hsm (by omega)

set_option maxRecDepth 100000 in
set_option maxHeartbeats 2000000 in
theorem replayOnce_lifted (os : Os) (started : os.Started) (H : Type) (enc : TypeId × Value → H) :
    ReturnsInHanded {} Try.checked os 4 .any (Rows.replayOnceSpec.pre6 enc Try.prog Try.f4 Rows.replayOnceRow.domain false) (Rows.replayOnceSpec.post enc Try.prog Try.f4 false true false false) := by
  refine returnsInHanded_of_change (C := Try.checked) own started (by kernel_rfl) Try.func4
    (ChangeSpec.witness6 (enc := enc) (C := Try.checked) false ⟨#[], #[.agg #[.int .i64 0, .int .i64 0, .int .i64 0, .int .i64 0, .int .i64 0, .int .i64 0, .slice none 0 0, .int .i64 0, .int .i64 0, .slice none 0 0]], []⟩ 8 (by kernel_rfl) (by kernel_rfl) (by kernel_rfl) (by kernel_rfl)) ?_
  intro W base args ds gs before hval0 hW _ _
  have hval : ∀ (j : Nat) t v, Try.f4.params[j]? = some t → args[j]? = some v → Value.okWide Try.prog W .any base t v := hval0
  have hW' := hW
  obtain ⟨p, q, hA0, hV, rfl, hfz, hnd⟩ := hW
  have hA : DataW.TrodAll enc Try.prog W 0 (fun _ => true) true Try.f4.params.toList args.toList ds p := hA0
  rw [Try.params4] at hA hval
  obtain ⟨v0, vs0, d0, ds0, p0, q0, hargs, rfl, rfl, h0, r0⟩ := trodAll_cons hA
  obtain ⟨rfl, rfl, rfl⟩ := trodAll_nil r0
  obtain rfl : args = #[v0] := by cases args; simp_all
  obtain ⟨rfl, rfl⟩ := trodVars_none hV
  obtain ⟨most, x, now, A, n, cap, l, rfl, hx, wn, hn, hm, hs⟩ := open_once (hval 0 _ v0 rfl rfl) h0
  clear hA0 hA hval0
  refine (replayOnce_any most now A n cap l x W hs hn hm hx).mono fun e W' ⟨he, hg⟩ => ?_
  subst he
  exact ⟨_, rfl, answerAll rfl (by kernel_rfl) rfl rfl rfl (by kernel_rfl) hW' hg⟩

theorem replayOnce_holds : Rows.ReplayOnceSaid :=
  OpenClaim.holds_of_wide 4 Try.f4 rfl rfl rfl rfl rfl rfl rfl ⟨rfl, rfl, rfl, rfl, rfl⟩ rfl rfl rfl rfl rfl (by kernel_rfl) Try.func4 (by kernel_rfl)
    (of_decide_eq_true (by kernel_rfl)) (by unfold Func.isWrapper; rw [if_neg (by decide +kernel)]; exact ⟨rfl, rfl⟩)
    (fun os started H enc _ => replayOnce_lifted os started H enc)
#print axioms replayOnce_holds
end Go.Proofs.Ytiokpflciagdoaa
