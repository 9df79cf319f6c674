/- Proved: for every input, MaskAlgebra answers true (and, or and minus of any three masks keep their laws, and the document's examples hold), and the arguments read as they did.
   Conditions: none beyond the row's own (arguments that can be read; the library's tables and two errors as the program's text lays them, tied by the card; internal/bytealg.MaxLen whatever it is).
   The card ties the listed variables to a pruned copy of the project (the packages that this law loads, no test file): of the project's other packages it says nothing, and that nothing else writes them is the translator's report. -/
import Derived.Test.YthmlibapjhmdbaaDoorL1
import Derived.Test.YthmlibapjhmdbaaDoorP0
namespace Go.Proofs.YthmlibapjhmdbaaDoor
open Go.ChangeShapes Go.WideShapes Go.ChangeAt Go.WideMaps Go.WideElems Go.RowKit
open Go.ChangeMaps (open_string shut_string)

set_option maxRecDepth 100000 in
theorem maskAlgebra_contract (H : Type) (enc : TypeId × Value → H) (W : World) (base : Nat) (args : Array Value) (ds gs : List (DataW H)) (before : List MemPlace)
    (hval : ∀ (j : Nat) t v, Tryd.f7.params[j]? = some t → args[j]? = some v → Value.okWide Tryd.prog W .any base t v)
    (hW : DataW.Whole enc Tryd.prog Tryd.f7.params.toList Rows.maskAlgebraSpec.vars false W args.toList ds gs before) (hL : laidMetH Tryd.prog Rows.maskAlgebraRow.laid W) (hS : W.ShapedOpen Tryd.prog) :
    Calls Tryd.prog 7 args W fun e W' => ∃ v, e = .returned v ∧ Rows.maskAlgebraSpec.post enc Tryd.prog Tryd.f7 false true false false W args v W' := by
  have hW' := hW
  obtain ⟨p, q, hA0, hV, rfl, hfz, hnd⟩ := hW
  have hA : DataW.TrodAll enc Tryd.prog W 0 (fun _ => true) true Tryd.f7.params.toList args.toList ds p := hA0
  rw [Tryd.params7] at hA hval
  obtain ⟨v0, vs0, d0, ds0, p0, q0, hargs, rfl, rfl, h0, r0⟩ := trodAll_cons hA
  obtain ⟨v1, vs1, d1, ds1, p1, q1, rfl, rfl, rfl, h1, r1⟩ := trodAll_cons r0
  obtain ⟨v2, vs2, d2, ds2, p2, q2, rfl, rfl, rfl, h2, r2⟩ := trodAll_cons r1
  obtain ⟨rfl, rfl, rfl⟩ := trodAll_nil r2
  obtain rfl : args = #[v0, v1, v2] := by cases args; simp_all
  obtain ⟨rfl, rfl⟩ := trodVars_none hV
  obtain ⟨a0, a1, a2, a3, rfl, rfl, rfl, ga0, ga1, ga2, ga3⟩ := open_bits (hval 0 24 v0 rfl rfl) h0
  obtain ⟨a0, rfl, ka0⟩ := u64_of_wf ga0
  obtain ⟨a1, rfl, ka1⟩ := u64_of_wf ga1
  obtain ⟨a2, rfl, ka2⟩ := u64_of_wf ga2
  obtain ⟨a3, rfl, ka3⟩ := u64_of_wf ga3
  obtain ⟨b0, b1, b2, b3, rfl, rfl, rfl, gb0, gb1, gb2, gb3⟩ := open_bits (hval 1 24 v1 rfl rfl) h1
  obtain ⟨b0, rfl, kb0⟩ := u64_of_wf gb0
  obtain ⟨b1, rfl, kb1⟩ := u64_of_wf gb1
  obtain ⟨b2, rfl, kb2⟩ := u64_of_wf gb2
  obtain ⟨b3, rfl, kb3⟩ := u64_of_wf gb3
  obtain ⟨c0, c1, c2, c3, rfl, rfl, rfl, gc0, gc1, gc2, gc3⟩ := open_bits (hval 2 24 v2 rfl rfl) h2
  obtain ⟨c0, rfl, kc0⟩ := u64_of_wf gc0
  obtain ⟨c1, rfl, kc1⟩ := u64_of_wf gc1
  obtain ⟨c2, rfl, kc2⟩ := u64_of_wf gc2
  obtain ⟨c3, rfl, kc3⟩ := u64_of_wf gc3
  clear hA0 hA
  simp only [List.append_nil] at hW'
  refine (maskAlgebra_any a0 a1 a2 a3 b0 b1 b2 b3 c0 c1 c2 c3 W (of_laid hL hS) (W4_of ka0 ka1 ka2 ka3) (W4_of kb0 kb1 kb2 kb3) (W4_of kc0 kc1 kc2 kc3)).mono fun e W' ⟨he, hg⟩ => ?_
  subst he
  exact ⟨_, rfl, answer (vals := [.agg #[.int .u64 a0, .int .u64 a1, .int .u64 a2, .int .u64 a3], .agg #[.int .u64 b0, .int .u64 b1, .int .u64 b2, .int .u64 b3], .agg #[.int .u64 c0, .int .u64 c1, .int .u64 c2, .int .u64 c3]]) rfl rfl (by kernel_rfl) rfl rfl rfl hW' (fun q => (trodAll_cons_mk (shut_bits ga0 ga1 ga2 ga3) (trodAll_cons_mk (shut_bits gb0 gb1 gb2 gb3) (trodAll_cons_mk (shut_bits gc0 gc1 gc2 gc3) trodAll_mk0)))) hg⟩

theorem maskAlgebra_reads (os : Os) {H : Type} (enc : TypeId × Value → H) : ∃ places, DataW.whole enc Tryd.prog ((World.doorLaid Tryd.prog 62 os).forCall (fun _ _ => 0) ⟨#[], #[.agg #[.int .u64 0, .int .u64 0, .int .u64 0, .int .u64 0], .agg #[.int .u64 0, .int .u64 0, .int .u64 0, .int .u64 0], .agg #[.int .u64 0, .int .u64 0, .int .u64 0, .int .u64 0]], []⟩).memory Tryd.f7.params.toList Rows.maskAlgebraSpec.vars false #[.agg #[.int .u64 0, .int .u64 0, .int .u64 0, .int .u64 0], .agg #[.int .u64 0, .int .u64 0, .int .u64 0, .int .u64 0], .agg #[.int .u64 0, .int .u64 0, .int .u64 0, .int .u64 0]].toList 8 = some ([.agg [.lit (.int .u64 0), .lit (.int .u64 0), .lit (.int .u64 0), .lit (.int .u64 0)], .agg [.lit (.int .u64 0), .lit (.int .u64 0), .lit (.int .u64 0), .lit (.int .u64 0)], .agg [.lit (.int .u64 0), .lit (.int .u64 0), .lit (.int .u64 0), .lit (.int .u64 0)]], [], places) :=
  ⟨[], by kernel_rfl⟩

set_option maxRecDepth 100000 in
theorem maskAlgebra_lifted (os : Os) (started : os.Started) (H : Type) (enc : TypeId × Value → H) (F : Stop.Interp) :
    ReturnsInHanded {} Tryd.checked os 7 .any ((OpenSpec.ofChange Rows.maskAlgebraSpec).preRow enc Tryd.prog Tryd.f7 Rows.maskAlgebraRow.domain false Rows.maskAlgebraRow.laid) (((OpenSpec.ofChange Rows.maskAlgebraSpec).at F).post enc Tryd.prog Tryd.f7 false true false false) := by
  obtain ⟨places, hx⟩ := maskAlgebra_reads os enc
  refine returnsInHanded_of_row (C := Tryd.checked) (s := OpenSpec.ofChange Rows.maskAlgebraSpec) own started (by kernel_rfl) Tryd.func7
    (witness_row_at (enc := enc) (C := Tryd.checked) false (World.doorLaid Tryd.prog 62 os) #[.agg #[.int .u64 0, .int .u64 0, .int .u64 0, .int .u64 0], .agg #[.int .u64 0, .int .u64 0, .int .u64 0, .int .u64 0], .agg #[.int .u64 0, .int .u64 0, .int .u64 0, .int .u64 0]] rfl (by kernel_rfl) (by kernel_rfl) (by kernel_rfl)
      (OpenSpec.preRow_of_cond 8 hx (by kernel_rfl) (fun k hk => by cases hk) (by kernel_rfl) (laidMet_of_run' 8 (by kernel_rfl) (by kernel_rfl)))) ?_
  intro W base args ds gs before hval hW _ _ _ hL hS _
  exact maskAlgebra_contract H enc W base args ds gs before hval hW hL hS

theorem maskAlgebra_said : Rows.MaskAlgebraSaid :=
  OpenClaim.holds_of_cond 7 Tryd.f7 rfl rfl rfl rfl rfl rfl rfl ⟨rfl, rfl, rfl, rfl, rfl⟩ rfl rfl rfl rfl rfl (by kernel_rfl) Tryd.func7 (by kernel_rfl)
    (of_decide_eq_true (by kernel_rfl)) (by unfold Func.isWrapper; rw [if_neg (by decide +kernel)]; exact ⟨rfl, rfl⟩)
    (fun os started H enc _ F => by rw [OpenClaim.pre_eq_preRow]; exact maskAlgebra_lifted os started H enc F)

theorem maskAlgebra_plain (f : FuncId) (fn : Func) (hf : Tryd.pinned.checked.prog.funcNamed "roundhouse/roundhouselaw03.MaskAlgebra" = some f) (hfn : Tryd.pinned.checked.prog.funcs[f]? = some fn) :
    true = Tryd.pinned.checked.prog.looks [] ∧ ∀ (j : Nat) t, fn.params[j]? = some t → Tryd.pinned.checked.prog.wantsStandIn t = false := by
  obtain rfl : f = 7 := Option.some.inj ((show Tryd.prog.funcNamed "roundhouse/roundhouselaw03.MaskAlgebra" = some 7 by kernel_rfl).symm.trans hf) |>.symm
  obtain rfl : fn = Tryd.f7 := (Option.some.inj (Tryd.func7.symm.trans hfn)).symm
  refine ⟨by kernel_rfl, fun j t ht => ?_⟩
  rw [Tryd.params7] at ht
  obtain rfl : t = 24 := by simpa using Array.mem_of_getElem? ht
  exact (show Tryd.prog.wantsStandIn 24 = false by kernel_rfl)

theorem maskAlgebra_card : Rows.MaskAlgebraCardSaid :=
  Claim7.holds_tied_plain_at .later [] _ _ _ _ maskAlgebra_said (fun _ h => by cases h) (by kernel_rfl) (fun _ h => by cases h) maskAlgebra_row_tie rfl ⟨rfl, rfl⟩ (by kernel_rfl) rfl maskAlgebra_plain (by kernel_rfl)
#print axioms maskAlgebra_card

end Go.Proofs.YthmlibapjhmdbaaDoor
