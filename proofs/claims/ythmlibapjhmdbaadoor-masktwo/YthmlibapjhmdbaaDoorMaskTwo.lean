/- Proved: for every input, MaskTwo answers true (what is in both, in one, and in one alone, of any two masks, and the least ones, are as the document says, and its examples hold), and the arguments read as they did.
   Conditions: none beyond the row's own (arguments that can be read; the library's tables and two errors as the program's text lays them, tied by the card; internal/bytealg.MaxLen whatever it is).
   The card ties the listed variables to a pruned copy of the project (the packages that this law loads, no test file): of the project's other packages it says nothing, and that nothing else writes them is the translator's report. -/
import Derived.Test.YthmlibapjhmdbaaDoorL3
import Derived.Test.YthmlibapjhmdbaaDoorP0
namespace Go.Proofs.YthmlibapjhmdbaaDoor
open Go.ChangeShapes Go.WideShapes Go.ChangeAt Go.WideMaps Go.WideElems Go.RowKit
open Go.ChangeMaps (open_string shut_string)

set_option maxRecDepth 100000 in
theorem maskTwo_contract (H : Type) (enc : TypeId × Value → H) (W : World) (base : Nat) (args : Array Value) (ds gs : List (DataW H)) (before : List MemPlace)
    (hval : ∀ (j : Nat) t v, Tryd.f4.params[j]? = some t → args[j]? = some v → Value.okWide Tryd.prog W .any base t v)
    (hW : DataW.Whole enc Tryd.prog Tryd.f4.params.toList Rows.maskTwoSpec.vars false W args.toList ds gs before) (hL : laidMetH Tryd.prog Rows.maskTwoRow.laid W) (hS : W.ShapedOpen Tryd.prog) :
    Calls Tryd.prog 4 args W fun e W' => ∃ v, e = .returned v ∧ Rows.maskTwoSpec.post enc Tryd.prog Tryd.f4 false true false false W args v W' := by
  have hW' := hW
  obtain ⟨p, q, hA0, hV, rfl, hfz, hnd⟩ := hW
  have hA : DataW.TrodAll enc Tryd.prog W 0 (fun _ => true) true Tryd.f4.params.toList args.toList ds p := hA0
  rw [Tryd.params4] at hA hval
  obtain ⟨v0, vs0, d0, ds0, p0, q0, hargs, rfl, rfl, h0, r0⟩ := trodAll_cons hA
  obtain ⟨v1, vs1, d1, ds1, p1, q1, rfl, rfl, rfl, h1, r1⟩ := trodAll_cons r0
  obtain ⟨v2, vs2, d2, ds2, p2, q2, rfl, rfl, rfl, h2, r2⟩ := trodAll_cons r1
  obtain ⟨rfl, rfl, rfl⟩ := trodAll_nil r2
  obtain rfl : args = #[v0, v1, v2] := by cases args; simp_all
  obtain ⟨rfl, rfl⟩ := trodVars_none hV
  obtain ⟨a0, a1, a2, a3, rfl, rfl, rfl, ga0, ga1, ga2, ga3⟩ := open_bits (hval 0 24 v0 rfl rfl) h0
  obtain ⟨a0, rfl, ka0⟩ := u64_of_wf ga0
  obtain ⟨a1, rfl, ka1⟩ := u64_of_wf ga1
  obtain ⟨a2, rfl, ka2⟩ := u64_of_wf ga2
  obtain ⟨a3, rfl, ka3⟩ := u64_of_wf ga3
  obtain ⟨b0, b1, b2, b3, rfl, rfl, rfl, gb0, gb1, gb2, gb3⟩ := open_bits (hval 1 24 v1 rfl rfl) h1
  obtain ⟨b0, rfl, kb0⟩ := u64_of_wf gb0
  obtain ⟨b1, rfl, kb1⟩ := u64_of_wf gb1
  obtain ⟨b2, rfl, kb2⟩ := u64_of_wf gb2
  obtain ⟨b3, rfl, kb3⟩ := u64_of_wf gb3
  obtain ⟨n, rfl, rfl, rfl, wn⟩ := open_int Tryd.underlying3 (hval 2 3 v2 rfl rfl) h2
  clear hA0 hA
  simp only [List.append_nil] at hW'
  refine (maskTwo_any a0 a1 a2 a3 b0 b1 b2 b3 n W (of_laid hL hS) (W4_of ka0 ka1 ka2 ka3) (W4_of kb0 kb1 kb2 kb3) (i64_of_wf wn)).mono fun e W' ⟨he, hg⟩ => ?_
  subst he
  exact ⟨_, rfl, answer (vals := [.agg #[.int .u64 a0, .int .u64 a1, .int .u64 a2, .int .u64 a3], .agg #[.int .u64 b0, .int .u64 b1, .int .u64 b2, .int .u64 b3], .int .i64 n]) rfl rfl (by kernel_rfl) rfl rfl rfl hW' (fun q => (trodAll_cons_mk (shut_bits ga0 ga1 ga2 ga3) (trodAll_cons_mk (shut_bits gb0 gb1 gb2 gb3) (trodAll_cons_mk (shut_int Tryd.underlying3 wn) trodAll_mk0)))) hg⟩

theorem maskTwo_reads (os : Os) {H : Type} (enc : TypeId × Value → H) : ∃ places, DataW.whole enc Tryd.prog ((World.doorLaid Tryd.prog 62 os).forCall (fun _ _ => 0) ⟨#[], #[.agg #[.int .u64 0, .int .u64 0, .int .u64 0, .int .u64 0], .agg #[.int .u64 0, .int .u64 0, .int .u64 0, .int .u64 0], .int .i64 0], []⟩).memory Tryd.f4.params.toList Rows.maskTwoSpec.vars false #[.agg #[.int .u64 0, .int .u64 0, .int .u64 0, .int .u64 0], .agg #[.int .u64 0, .int .u64 0, .int .u64 0, .int .u64 0], .int .i64 0].toList 8 = some ([.agg [.lit (.int .u64 0), .lit (.int .u64 0), .lit (.int .u64 0), .lit (.int .u64 0)], .agg [.lit (.int .u64 0), .lit (.int .u64 0), .lit (.int .u64 0), .lit (.int .u64 0)], .lit (.int .i64 0)], [], places) :=
  ⟨[], by kernel_rfl⟩

set_option maxRecDepth 100000 in
theorem maskTwo_lifted (os : Os) (started : os.Started) (H : Type) (enc : TypeId × Value → H) (F : Stop.Interp) :
    ReturnsInHanded {} Tryd.checked os 4 .any ((OpenSpec.ofChange Rows.maskTwoSpec).preRow enc Tryd.prog Tryd.f4 Rows.maskTwoRow.domain false Rows.maskTwoRow.laid) (((OpenSpec.ofChange Rows.maskTwoSpec).at F).post enc Tryd.prog Tryd.f4 false true false false) := by
  obtain ⟨places, hx⟩ := maskTwo_reads os enc
  refine returnsInHanded_of_row (C := Tryd.checked) (s := OpenSpec.ofChange Rows.maskTwoSpec) own started (by kernel_rfl) Tryd.func4
    (witness_row_at (enc := enc) (C := Tryd.checked) false (World.doorLaid Tryd.prog 62 os) #[.agg #[.int .u64 0, .int .u64 0, .int .u64 0, .int .u64 0], .agg #[.int .u64 0, .int .u64 0, .int .u64 0, .int .u64 0], .int .i64 0] rfl (by kernel_rfl) (by kernel_rfl) (by kernel_rfl)
      (OpenSpec.preRow_of_cond 8 hx (by kernel_rfl) (fun k hk => by cases hk) (by kernel_rfl) (laidMet_of_run' 8 (by kernel_rfl) (by kernel_rfl)))) ?_
  intro W base args ds gs before hval hW _ _ _ hL hS _
  exact maskTwo_contract H enc W base args ds gs before hval hW hL hS

theorem maskTwo_said : Rows.MaskTwoSaid :=
  OpenClaim.holds_of_cond 4 Tryd.f4 rfl rfl rfl rfl rfl rfl rfl ⟨rfl, rfl, rfl, rfl, rfl⟩ rfl rfl rfl rfl rfl (by kernel_rfl) Tryd.func4 (by kernel_rfl)
    (of_decide_eq_true (by kernel_rfl)) (by unfold Func.isWrapper; rw [if_neg (by decide +kernel)]; exact ⟨rfl, rfl⟩)
    (fun os started H enc _ F => by rw [OpenClaim.pre_eq_preRow]; exact maskTwo_lifted os started H enc F)

theorem maskTwo_plain (f : FuncId) (fn : Func) (hf : Tryd.pinned.checked.prog.funcNamed "roundhouse/roundhouselaw03.MaskTwo" = some f) (hfn : Tryd.pinned.checked.prog.funcs[f]? = some fn) :
    true = Tryd.pinned.checked.prog.looks [] ∧ ∀ (j : Nat) t, fn.params[j]? = some t → Tryd.pinned.checked.prog.wantsStandIn t = false := by
  obtain rfl : f = 4 := Option.some.inj ((show Tryd.prog.funcNamed "roundhouse/roundhouselaw03.MaskTwo" = some 4 by kernel_rfl).symm.trans hf) |>.symm
  obtain rfl : fn = Tryd.f4 := (Option.some.inj (Tryd.func4.symm.trans hfn)).symm
  refine ⟨by kernel_rfl, fun j t ht => ?_⟩
  rw [Tryd.params4] at ht
  have hm := Array.mem_of_getElem? ht
  simp only [List.mem_toArray, List.mem_cons, List.not_mem_nil, or_false] at hm
  rcases hm with rfl | rfl | rfl
  · exact (show Tryd.prog.wantsStandIn 24 = false by kernel_rfl)
  · exact (show Tryd.prog.wantsStandIn 24 = false by kernel_rfl)
  · exact (show Tryd.prog.wantsStandIn 3 = false by kernel_rfl)

theorem maskTwo_card : Rows.MaskTwoCardSaid :=
  Claim7.holds_tied_plain_at .later [] _ _ _ _ maskTwo_said (fun _ h => by cases h) (by kernel_rfl) (fun _ h => by cases h) maskTwo_row_tie rfl ⟨rfl, rfl⟩ (by kernel_rfl) rfl maskTwo_plain (by kernel_rfl)
#print axioms maskTwo_card

end Go.Proofs.YthmlibapjhmdbaaDoor
