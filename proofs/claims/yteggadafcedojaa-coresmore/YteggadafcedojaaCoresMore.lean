/- Proved: for every layout, every wish, and every further mask, CoresMore answers true (with more cores free nobody who was laid is refused; the first ranks of more ranks lie where fewer lie; and the document's examples hold), and the arguments read as they did.
   Conditions: none beyond the row's own (arguments that can be read). -/
import Derived.Test.YteggadafcedojaaL3
import Derived.Test.YteggadafcedojaaP1
import Derived.Test.YteggadafcedojaaL1
namespace Go.Proofs.Yteggadafcedojaa
open Go.ChangeShapes Go.WideShapes Go.ChangeAt Go.RowKit Go.Joins

theorem coresMore_any (s p a b c e r q d m0 m1 m2 m3 : Int) (wa : (Lit.int .u64 a).wf = true) (wb : (Lit.int .u64 b).wf = true) (wc : (Lit.int .u64 c).wf = true) (we : (Lit.int .u64 e).wf = true)
    (wm0 : (Lit.int .u64 m0).wf = true) (wm1 : (Lit.int .u64 m1).wf = true) (wm2 : (Lit.int .u64 m2).wf = true) (wm3 : (Lit.int .u64 m3).wf = true) (w : World) :
    Calls Try.prog 7 #[.agg #[.int .i64 s, .int .i64 p], .agg #[.int .u64 a, .int .u64 b, .int .u64 c, .int .u64 e, .int .i64 r, .int .i64 q, .int .i64 d], .agg #[.int .u64 m0, .int .u64 m1, .int .u64 m2, .int .u64 m3]] w fun x w' => x = .returned (.bool true) ∧ Below w.heap.size w w' := by
  obtain ⟨a, rfl, ha⟩ := u64_of_wf wa
  obtain ⟨b, rfl, hb⟩ := u64_of_wf wb
  obtain ⟨c, rfl, hc⟩ := u64_of_wf wc
  obtain ⟨e, rfl, he⟩ := u64_of_wf we
  obtain ⟨m0, rfl, hm0⟩ := u64_of_wf wm0
  obtain ⟨m1, rfl, hm1⟩ := u64_of_wf wm1
  obtain ⟨m2, rfl, hm2⟩ := u64_of_wf wm2
  obtain ⟨m3, rfl, hm3⟩ := u64_of_wf wm3
  have hF := W4_of ha hb hc he
  have hM := W4_of hm0 hm1 hm2 hm3
  rcases LOk_or s p with ⟨x, y, rfl, rfl, h⟩ | h
  · rcases dist_or d x y with ⟨fid, of, hd⟩ | ⟨h0, h1⟩
    · rcases ROk_or r q with ⟨R, Q, rfl, rfl, hR⟩ | hR
      · by_cases hf : R * Q ≤ (fr [a, b, c, e] (upto of (x * y))).length
        · exact coresMore_ok hd R (R - 1) Q a b c e m0 m1 m2 m3 w h hR (by have := hR.1; omega) hF hM hf
        · exact coresMore_no x y R Q d m0 m1 m2 m3 12 a b c e w rfl fun W => assign_few hd R Q a b c e W h hR hF (by omega)
      · exact coresMore_no x y r q d m0 m1 m2 m3 1 a b c e w rfl fun W => assign_arg hd r q a b c e W h hR
    · exact coresMore_no x y r q d m0 m1 m2 m3 1 a b c e w rfl fun W => assign_no x y d r q a b c e W fun W => dist_none x y d W h h0 h1
  · exact coresMore_no s p r q d m0 m1 m2 m3 1 a b c e w rfl fun W => assign_no s p d r q a b c e W fun W => dist_bad s p d W h

set_option maxRecDepth 100000 in
set_option maxHeartbeats 2000000 in
theorem coresMore_lifted (os : Os) (started : os.Started) (H : Type) (enc : TypeId × Value → H) :
    ReturnsInHanded {} Try.checked os 7 .any (Rows.coresMoreSpec.pre6 enc Try.prog Try.f7 Rows.coresMoreRow.domain false) (Rows.coresMoreSpec.post enc Try.prog Try.f7 false true false false) := by
  refine returnsInHanded_of_change (C := Try.checked) own started (by kernel_rfl) Try.func7
    (ChangeSpec.witness6 (enc := enc) (C := Try.checked) false ⟨#[], #[.agg #[.int .i64 0, .int .i64 0], .agg #[.int .u64 0, .int .u64 0, .int .u64 0, .int .u64 0, .int .i64 0, .int .i64 0, .int .i64 0], .agg #[.int .u64 0, .int .u64 0, .int .u64 0, .int .u64 0]], []⟩ 8 (by kernel_rfl) (by kernel_rfl) (by kernel_rfl) (by kernel_rfl)) ?_
  intro W base args ds gs before hval0 hW _ _
  have hval : ∀ (j : Nat) t v, Try.f7.params[j]? = some t → args[j]? = some v → Value.okWide Try.prog W .any base t v := hval0
  have hW' := hW
  obtain ⟨p, q, hA0, hV, rfl, hfz, hnd⟩ := hW
  have hA : DataW.TrodAll enc Try.prog W 0 (fun _ => true) true Try.f7.params.toList args.toList ds p := hA0
  rw [Try.params7] at hA hval
  obtain ⟨v0, vs0, d0, ds0, p0, q0, hargs, rfl, rfl, h0, r0⟩ := trodAll_cons hA
  obtain ⟨v1, vs1, d1, ds1, p1, q1, rfl, rfl, rfl, h1, r1⟩ := trodAll_cons r0
  obtain ⟨v2, vs2, d2, ds2, p2, q2, rfl, rfl, rfl, h2, r2⟩ := trodAll_cons r1
  obtain ⟨rfl, rfl, rfl⟩ := trodAll_nil r2
  obtain rfl : args = #[v0, v1, v2] := by cases args; simp_all
  obtain ⟨rfl, rfl⟩ := trodVars_none hV
  obtain ⟨s0, t0, rfl, rfl, rfl, ws0, wt0⟩ := open_lay (hval 0 23 v0 rfl rfl) h0
  obtain ⟨a1, b1, c1, e1, k1, g1, t1, rfl, rfl, rfl, wa1, wb1, wc1, we1, wk1, wg1, wt1⟩ := open_wish (hval 1 45 v1 rfl rfl) h1
  obtain ⟨a2, b2, c2, e2, rfl, rfl, rfl, wa2, wb2, wc2, we2⟩ := open_bits (hval 2 40 v2 rfl rfl) h2
  clear hA0 hA hval0
  simp only [List.append_nil] at hW'
  refine (coresMore_any s0 t0 a1 b1 c1 e1 k1 g1 t1 a2 b2 c2 e2 wa1 wb1 wc1 we1 wa2 wb2 wc2 we2 W).mono fun e W' ⟨he, hg⟩ => ?_
  subst he
  exact ⟨_, rfl, answer (vals := [.agg #[.int .i64 s0, .int .i64 t0], .agg #[.int .u64 a1, .int .u64 b1, .int .u64 c1, .int .u64 e1, .int .i64 k1, .int .i64 g1, .int .i64 t1], .agg #[.int .u64 a2, .int .u64 b2, .int .u64 c2, .int .u64 e2]]) rfl rfl (by kernel_rfl) rfl rfl rfl hW' (fun q => (trodAll_cons_mk (shut_lay ws0 wt0) (trodAll_cons_mk (shut_wish wa1 wb1 wc1 we1 wk1 wg1 wt1) (trodAll_cons_mk (shut_bits wa2 wb2 wc2 we2) trodAll_mk0)))) hg⟩

theorem coresMore_holds : Rows.CoresMoreSaid :=
  OpenClaim.holds_of_wide 7 Try.f7 rfl rfl rfl rfl rfl rfl rfl ⟨rfl, rfl, rfl, rfl, rfl⟩ rfl rfl rfl rfl rfl (by kernel_rfl) Try.func7 (by kernel_rfl)
    (of_decide_eq_true (by kernel_rfl)) (by unfold Func.isWrapper; rw [if_neg (by decide +kernel)]; exact ⟨rfl, rfl⟩)
    (fun os started H enc _ => coresMore_lifted os started H enc)
#print axioms coresMore_holds

end Go.Proofs.Yteggadafcedojaa
