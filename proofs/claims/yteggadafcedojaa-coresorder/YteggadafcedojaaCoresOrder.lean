/- Proved: for every layout and every number of a distribution, CoresOrder answers true (an order has each core of the layout once; of a cyclic one no two that follow each other are of one socket, if there are several; of a block one each core is its forerunner's next; and the document's examples hold), and the arguments read as they did.
   Conditions: none beyond the row's own (arguments that can be read). -/
import Derived.Test.YteggadafcedojaaL1
import Derived.Test.YteggadafcedojaaP0
namespace Go.Proofs.Yteggadafcedojaa
open Go.ChangeShapes Go.WideShapes Go.ChangeAt Go.RowKit Go.Joins

theorem coresOrder_any (s p d : Int) (w : World) : Calls Try.prog 6 #[.agg #[.int .i64 s, .int .i64 p], .int .i64 d] w fun e w' => e = .returned (.bool true) ∧ Below w.heap.size w w' := by
  rcases LOk_or s p with ⟨a, b, rfl, rfl, h⟩ | h
  · rcases dist_or d a b with ⟨fid, of, hd⟩ | ⟨h0, h1⟩
    · exact coresOrder_ok hd w h
    · exact coresOrder_no _ _ d w fun W => dist_none a b d W h h0 h1
  · exact coresOrder_no s p d w fun W => dist_bad s p d W h

set_option maxRecDepth 100000 in
theorem coresOrder_lifted (os : Os) (started : os.Started) (H : Type) (enc : TypeId × Value → H) :
    ReturnsInHanded {} Try.checked os 6 .any (Rows.coresOrderSpec.pre6 enc Try.prog Try.f6 Rows.coresOrderRow.domain false) (Rows.coresOrderSpec.post enc Try.prog Try.f6 false true false false) := by
  refine returnsInHanded_of_change (C := Try.checked) own started (by kernel_rfl) Try.func6
    (ChangeSpec.witness6 (enc := enc) (C := Try.checked) false ⟨#[], #[.agg #[.int .i64 0, .int .i64 0], .int .i64 0], []⟩ 8 (by kernel_rfl) (by kernel_rfl) (by kernel_rfl) (by kernel_rfl)) ?_
  intro W base args ds gs before hval0 hW _ _
  have hval : ∀ (j : Nat) t v, Try.f6.params[j]? = some t → args[j]? = some v → Value.okWide Try.prog W .any base t v := hval0
  have hW' := hW
  obtain ⟨p, q, hA0, hV, rfl, hfz, hnd⟩ := hW
  have hA : DataW.TrodAll enc Try.prog W 0 (fun _ => true) true Try.f6.params.toList args.toList ds p := hA0
  rw [Try.params6] at hA hval
  obtain ⟨v0, vs0, d0, ds0, p0, q0, hargs, rfl, rfl, h0, r0⟩ := trodAll_cons hA
  obtain ⟨v1, vs1, d1, ds1, p1, q1, rfl, rfl, rfl, h1, r1⟩ := trodAll_cons r0
  obtain ⟨rfl, rfl, rfl⟩ := trodAll_nil r1
  obtain rfl : args = #[v0, v1] := by cases args; simp_all
  obtain ⟨rfl, rfl⟩ := trodVars_none hV
  obtain ⟨s, t, rfl, rfl, rfl, ws, wt⟩ := open_lay (hval 0 23 v0 rfl rfl) h0
  obtain ⟨n, rfl, rfl, rfl, wn⟩ := open_int Try.underlying3 (hval 1 3 v1 rfl rfl) h1
  clear hA0 hA hval0
  simp only [List.append_nil] at hW'
  refine (coresOrder_any s t n W).mono fun e W' ⟨he, hg⟩ => ?_
  subst he
  exact ⟨_, rfl, answer (vals := [.agg #[.int .i64 s, .int .i64 t], .int .i64 n]) rfl rfl (by kernel_rfl) rfl rfl rfl hW' (fun q => trodAll_cons_mk (shut_lay ws wt) (trodAll_cons_mk (shut_int Try.underlying3 wn) trodAll_mk0)) hg⟩

theorem coresOrder_holds : Rows.CoresOrderSaid :=
  OpenClaim.holds_of_wide 6 Try.f6 rfl rfl rfl rfl rfl rfl rfl ⟨rfl, rfl, rfl, rfl, rfl⟩ rfl rfl rfl rfl rfl (by kernel_rfl) Try.func6 (by kernel_rfl)
    (of_decide_eq_true (by kernel_rfl)) (by unfold Func.isWrapper; rw [if_neg (by decide +kernel)]; exact ⟨rfl, rfl⟩)
    (fun os started H enc _ => coresOrder_lifted os started H enc)
#print axioms coresOrder_holds

end Go.Proofs.Yteggadafcedojaa
