/- Proved: for every input, MaskTexts answers true (the text of any mask, and the mask of any text of at most 200 bytes, are as the document says, and its examples hold), and the arguments read as they did.
   Conditions: none beyond the row's own (arguments that can be read; the library's tables and two errors as the program's text lays them, tied by the card; internal/bytealg.MaxLen whatever it is).
   The card ties the listed variables to a pruned copy of the project (the packages that this law loads, no test file): of the project's other packages it says nothing, and that nothing else writes them is the translator's report. -/
import Derived.Test.YthmlibapjhmdbaaDoorL5
import Derived.Test.YthmlibapjhmdbaaDoorP0
namespace Go.Proofs.YthmlibapjhmdbaaDoor
open Go.ChangeShapes Go.WideShapes Go.ChangeAt Go.WideMaps Go.WideElems Go.RowKit
open Go.ChangeMaps (open_string shut_string)

set_option maxRecDepth 100000 in
theorem maskTexts_contract (H : Type) (enc : TypeId × Value → H) (W : World) (base : Nat) (args : Array Value) (ds gs : List (DataW H)) (before : List MemPlace)
    (hval : ∀ (j : Nat) t v, Tryd.f5.params[j]? = some t → args[j]? = some v → Value.okWide Tryd.prog W .any base t v)
    (hW : DataW.Whole enc Tryd.prog Tryd.f5.params.toList Rows.maskTextsSpec.vars false W args.toList ds gs before) (hL : laidMetH Tryd.prog Rows.maskTextsRow.laid W) (hS : W.ShapedOpen Tryd.prog) :
    Calls Tryd.prog 5 args W fun e W' => ∃ v, e = .returned v ∧ Rows.maskTextsSpec.post enc Tryd.prog Tryd.f5 false true false false W args v W' := by
  have hW' := hW
  obtain ⟨p, q, hA0, hV, rfl, hfz, hnd⟩ := hW
  have hA : DataW.TrodAll enc Tryd.prog W 0 (fun _ => true) true Tryd.f5.params.toList args.toList ds p := hA0
  rw [Tryd.params5] at hA hval
  obtain ⟨v0, vs0, d0, ds0, p0, q0, hargs, rfl, rfl, h0, r0⟩ := trodAll_cons hA
  obtain ⟨v1, vs1, d1, ds1, p1, q1, rfl, rfl, rfl, h1, r1⟩ := trodAll_cons r0
  obtain ⟨rfl, rfl, rfl⟩ := trodAll_nil r1
  obtain rfl : args = #[v0, v1] := by cases args; simp_all
  obtain ⟨rfl, rfl⟩ := trodVars_none hV
  obtain ⟨a0, a1, a2, a3, rfl, rfl, rfl, ga0, ga1, ga2, ga3⟩ := open_bits (hval 0 24 v0 rfl rfl) h0
  obtain ⟨a0, rfl, ka0⟩ := u64_of_wf ga0
  obtain ⟨a1, rfl, ka1⟩ := u64_of_wf ga1
  obtain ⟨a2, rfl, ka2⟩ := u64_of_wf ga2
  obtain ⟨a3, rfl, ka3⟩ := u64_of_wf ga3
  obtain ⟨s, rfl, rfl, rfl, hs⟩ := open_string Tryd.underlying9 (hval 1 9 v1 rfl rfl) h1
  clear hA0 hA
  simp only [List.append_nil] at hW'
  refine (maskTexts_any a0 a1 a2 a3 s W (of_laid hL hS) (W4_of ka0 ka1 ka2 ka3)).mono fun e W' ⟨he, hg⟩ => ?_
  subst he
  exact ⟨_, rfl, answer (vals := [.agg #[.int .u64 a0, .int .u64 a1, .int .u64 a2, .int .u64 a3], .string s]) rfl rfl (by kernel_rfl) rfl rfl rfl hW' (fun q => (trodAll_cons_mk (shut_bits ga0 ga1 ga2 ga3) (trodAll_cons_mk (shut_string Tryd.underlying9 hs) trodAll_mk0))) hg⟩

theorem maskTexts_reads (os : Os) {H : Type} (enc : TypeId × Value → H) : ∃ places, DataW.whole enc Tryd.prog ((World.doorLaid Tryd.prog 62 os).forCall (fun _ _ => 0) ⟨#[], #[.agg #[.int .u64 0, .int .u64 0, .int .u64 0, .int .u64 0], .string ByteArray.empty], []⟩).memory Tryd.f5.params.toList Rows.maskTextsSpec.vars false #[.agg #[.int .u64 0, .int .u64 0, .int .u64 0, .int .u64 0], .string ByteArray.empty].toList 8 = some ([.agg [.lit (.int .u64 0), .lit (.int .u64 0), .lit (.int .u64 0), .lit (.int .u64 0)], .lit (.string [])], [], places) :=
  ⟨[], by kernel_rfl⟩

set_option maxRecDepth 100000 in
theorem maskTexts_lifted (os : Os) (started : os.Started) (H : Type) (enc : TypeId × Value → H) (F : Stop.Interp) :
    ReturnsInHanded {} Tryd.checked os 5 .any ((OpenSpec.ofChange Rows.maskTextsSpec).preRow enc Tryd.prog Tryd.f5 Rows.maskTextsRow.domain false Rows.maskTextsRow.laid) (((OpenSpec.ofChange Rows.maskTextsSpec).at F).post enc Tryd.prog Tryd.f5 false true false false) := by
  obtain ⟨places, hx⟩ := maskTexts_reads os enc
  refine returnsInHanded_of_row (C := Tryd.checked) (s := OpenSpec.ofChange Rows.maskTextsSpec) own started (by kernel_rfl) Tryd.func5
    (witness_row_at (enc := enc) (C := Tryd.checked) false (World.doorLaid Tryd.prog 62 os) #[.agg #[.int .u64 0, .int .u64 0, .int .u64 0, .int .u64 0], .string ByteArray.empty] rfl (by kernel_rfl) (by kernel_rfl) (by kernel_rfl)
      (OpenSpec.preRow_of_cond 8 hx (by kernel_rfl) (fun k hk => by cases hk) (by kernel_rfl) (laidMet_of_run' 8 (by kernel_rfl) (by kernel_rfl)))) ?_
  intro W base args ds gs before hval hW _ _ _ hL hS _
  exact maskTexts_contract H enc W base args ds gs before hval hW hL hS

theorem maskTexts_said : Rows.MaskTextsSaid :=
  OpenClaim.holds_of_cond 5 Tryd.f5 rfl rfl rfl rfl rfl rfl rfl ⟨rfl, rfl, rfl, rfl, rfl⟩ rfl rfl rfl rfl rfl (by kernel_rfl) Tryd.func5 (by kernel_rfl)
    (of_decide_eq_true (by kernel_rfl)) (by unfold Func.isWrapper; rw [if_neg (by decide +kernel)]; exact ⟨rfl, rfl⟩)
    (fun os started H enc _ F => by rw [OpenClaim.pre_eq_preRow]; exact maskTexts_lifted os started H enc F)

theorem maskTexts_plain (f : FuncId) (fn : Func) (hf : Tryd.pinned.checked.prog.funcNamed "roundhouse/roundhouselaw03.MaskTexts" = some f) (hfn : Tryd.pinned.checked.prog.funcs[f]? = some fn) :
    true = Tryd.pinned.checked.prog.looks [] ∧ ∀ (j : Nat) t, fn.params[j]? = some t → Tryd.pinned.checked.prog.wantsStandIn t = false := by
  obtain rfl : f = 5 := Option.some.inj ((show Tryd.prog.funcNamed "roundhouse/roundhouselaw03.MaskTexts" = some 5 by kernel_rfl).symm.trans hf) |>.symm
  obtain rfl : fn = Tryd.f5 := (Option.some.inj (Tryd.func5.symm.trans hfn)).symm
  refine ⟨by kernel_rfl, fun j t ht => ?_⟩
  rw [Tryd.params5] at ht
  have hm := Array.mem_of_getElem? ht
  simp only [List.mem_toArray, List.mem_cons, List.not_mem_nil, or_false] at hm
  rcases hm with rfl | rfl
  · exact (show Tryd.prog.wantsStandIn 24 = false by kernel_rfl)
  · exact (show Tryd.prog.wantsStandIn 9 = false by kernel_rfl)

theorem maskTexts_card : Rows.MaskTextsCardSaid :=
  Claim7.holds_tied_plain_at .later [] _ _ _ _ maskTexts_said (fun _ h => by cases h) (by kernel_rfl) (fun _ h => by cases h) maskTexts_row_tie rfl ⟨rfl, rfl⟩ (by kernel_rfl) rfl maskTexts_plain (by kernel_rfl)
#print axioms maskTexts_card

end Go.Proofs.YthmlibapjhmdbaaDoor
