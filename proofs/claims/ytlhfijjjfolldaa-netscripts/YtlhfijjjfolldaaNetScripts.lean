/- Proved: for every most and every script of calls, NetScripts answers true (of at most 60 calls of at most 50 messages: whatever is sent, taken, dropped, and doubled, a net tells what the document's net tells, has the same messages in the same order, and has lost as many; where there can be no net there is none; and the document's examples hold), and the arguments read as they did.
   Conditions: none beyond the row's own (arguments that can be read). -/
import Derived.Test.YtlhfijjjfolldaaA6
import Derived.Test.YtlhfijjjfolldaaC6
namespace Go.Proofs.Ytlhfijjjfolldaa
open Go.ChangeShapes Go.WideShapes Go.ChangeAt Go.RowKit Go.Joins

set_option maxRecDepth 100000 in
set_option maxHeartbeats 2000000 in
theorem netScripts_lifted (os : Os) (started : os.Started) (H : Type) (enc : TypeId × Value → H) :
    ReturnsInHanded {} Try.checked os 3 .any (Rows.netScriptsSpec.pre6 enc Try.prog Try.f3 Rows.netScriptsRow.domain false) (Rows.netScriptsSpec.post enc Try.prog Try.f3 false true false false) := by
  refine returnsInHanded_of_change (C := Try.checked) own started (by kernel_rfl) Try.func3
    (ChangeSpec.witness6 (enc := enc) (C := Try.checked) false ⟨#[], #[.int .i64 0, .slice none 0 0], []⟩ 8 (by kernel_rfl) (by kernel_rfl) (by kernel_rfl) (by kernel_rfl)) ?_
  intro W base args ds gs before hval0 hW _ _
  have hval : ∀ (j : Nat) t v, Try.f3.params[j]? = some t → args[j]? = some v → Value.okWide Try.prog W .any base t v := hval0
  have hW' := hW
  obtain ⟨p, q, hA0, hV, rfl, hfz, hnd⟩ := hW
  have hA : DataW.TrodAll enc Try.prog W 0 (fun _ => true) true Try.f3.params.toList args.toList ds p := hA0
  rw [Try.params3] at hA hval
  obtain ⟨v0, vs0, d0, ds0, p0, q0, hargs, rfl, rfl, h0, r0⟩ := trodAll_cons hA
  obtain ⟨v1, vs1, d1, ds1, p1, q1, rfl, rfl, rfl, h1, r1⟩ := trodAll_cons r0
  obtain ⟨rfl, rfl, rfl⟩ := trodAll_nil r1
  obtain rfl : args = #[v0, v1] := by cases args; simp_all
  obtain ⟨rfl, rfl⟩ := trodVars_none hV
  obtain ⟨n0, rfl, rfl, rfl, wn0⟩ := open_int Try.underlying3 (hval 0 3 v0 rfl rfl) h0
  obtain ⟨A1, m1, cap1, os1, rfl, hq1⟩ := open_scr (hval 1 22 v1 rfl rfl) h1
  clear hA0 hA hval0
  refine (scripts_law twice_c n0 A1 m1 cap1 os1 W hq1).mono fun e W' ⟨he, hg⟩ => ?_
  subst he
  exact ⟨_, rfl, answerAll rfl (by kernel_rfl) rfl rfl rfl (by kernel_rfl) hW' hg⟩

theorem netScripts_holds : Rows.NetScriptsSaid :=
  OpenClaim.holds_of_wide 3 Try.f3 rfl rfl rfl rfl rfl rfl rfl ⟨rfl, rfl, rfl, rfl, rfl⟩ rfl rfl rfl rfl rfl (by kernel_rfl) Try.func3 (by kernel_rfl)
    (of_decide_eq_true (by kernel_rfl)) (by unfold Func.isWrapper; rw [if_neg (by decide +kernel)]; exact ⟨rfl, rfl⟩)
    (fun os started H enc _ => netScripts_lifted os started H enc)
#print axioms netScripts_holds
end Go.Proofs.Ytlhfijjjfolldaa
