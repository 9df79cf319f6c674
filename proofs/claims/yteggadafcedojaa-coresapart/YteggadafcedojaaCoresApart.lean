/- Proved: for every layout and every wish, CoresApart answers true (the masks that Assign tells are apart, free, of the layout, and have as many cores as were asked), and the arguments read as they did.
   Conditions: none beyond the row's own (arguments that can be read). -/
import Derived.Test.YteggadafcedojaaL6
import Derived.Test.YteggadafcedojaaCoresAssign
import Derived.Test.YteggadafcedojaaP1
namespace Go.Proofs.Yteggadafcedojaa
open Go.ChangeShapes Go.WideShapes Go.ChangeAt Go.RowKit Go.Joins

theorem apart_of {d : Int} {fid s p : Nat} {of : Nat → Nat} (hd : IsDist d fid s p of) (R Q a b c e : Nat) (h : LOk s p) (hF : Mk.W4 [a, b, c, e]) (hf : R * Q ≤ (fr [a, b, c, e] (upto of (s * p))).length) :
    Apart (ranks (wished [a, b, c, e] of (s * p) (R * Q)) R Q) (first ((wished [a, b, c, e] of (s * p) (R * Q)).map (·.1)) Q) [a, b, c, e] (Mk.ofL (List.range (s * p))) R Q := by
  have hz := core_lt (wished [a, b, c, e] of (s * p) (R * Q))
  have hn := wished_nodup hd h [a, b, c, e] (R * Q)
  have hlen : ((wished [a, b, c, e] of (s * p) (R * Q)).map (·.1)).length = R * Q := by
    rw [List.length_map]
    unfold wished
    rw [List.length_take, Nat.min_eq_left hf]
  have hfree : ∀ x ∈ (wished [a, b, c, e] of (s * p) (R * Q)).map (·.1), Mk.hasB [a, b, c, e] x = true := by
    intro x hx
    obtain ⟨y, hy, rfl⟩ := List.mem_map.1 hx
    exact (List.mem_filter.1 (List.mem_of_mem_take hy)).2
  have hin : ∀ x ∈ (wished [a, b, c, e] of (s * p) (R * Q)).map (·.1), Mk.hasB (Mk.ofL (List.range (s * p))) x = true := by
    intro x hx
    obtain ⟨y, hy, rfl⟩ := List.mem_map.1 hx
    have h2 : y.1 ∈ (upto of (s * p)).map (·.1) := List.mem_map.2 ⟨y, (List.mem_filter.1 (List.mem_of_mem_take hy)).1, rfl⟩
    rw [dist_vals hd h] at h2
    obtain ⟨k, hk, e2⟩ := List.mem_map.1 h2
    rw [range_has h.2.2.2.2, ← e2]
    exact decide_eq_true ((dist_of hd h).1 k (List.mem_range.1 hk))
  refine ⟨by simp [ranks], first_zero _ _, fun k => first_W4 hz, hF, range_W4 h.2.2.2.2, ?_, first_cnt hz hn hlen⟩
  intro k m hm
  unfold ranks at hm
  have hk : k < R := by
    have := (List.getElem?_eq_some_iff.1 hm).1
    simpa using this
  rw [List.getElem?_map, List.getElem?_range hk] at hm
  obtain rfl : rankAt ((wished [a, b, c, e] of (s * p) (R * Q)).map (·.1)) Q k = m := by simpa [rankAt] using hm
  exact ⟨rankAt_W4 hz, rank_cnt hz hn hlen hk, rank_apart hz hn, rank_free hz hF hfree, rank_free hz (range_W4 h.2.2.2.2) hin, first_step hz⟩
theorem coresApart_any (s p a b c e r q d : Int) (wa : (Lit.int .u64 a).wf = true) (wb : (Lit.int .u64 b).wf = true) (wc : (Lit.int .u64 c).wf = true) (we : (Lit.int .u64 e).wf = true) (w : World) :
    Calls Try.prog 5 #[.agg #[.int .i64 s, .int .i64 p], .agg #[.int .u64 a, .int .u64 b, .int .u64 c, .int .u64 e, .int .i64 r, .int .i64 q, .int .i64 d]] w fun x w' => x = .returned (.bool true) ∧ Below w.heap.size w w' := by
  obtain ⟨a, rfl, ha⟩ := u64_of_wf wa
  obtain ⟨b, rfl, hb⟩ := u64_of_wf wb
  obtain ⟨c, rfl, hc⟩ := u64_of_wf wc
  obtain ⟨e, rfl, he⟩ := u64_of_wf we
  have hF := W4_of ha hb hc he
  rcases LOk_or s p with ⟨x, y, rfl, rfl, h⟩ | h
  · rcases dist_or d x y with ⟨fid, of, hd⟩ | ⟨h0, h1⟩
    · rcases ROk_or r q with ⟨R, Q, rfl, rfl, hR⟩ | hR
      · by_cases hf : R * Q ≤ (fr [a, b, c, e] (upto of (x * y))).length
        · refine coresApart_laid x y d a b c e R Q _ _ _ w hR.2.1 hR.2.2.2 (apart_of hd R Q a b c e h hF hf) (fun W => ?_) (fun W => call_ok x y W h)
          refine (assign_ok hd R Q a b c e W h hR hF hf).mono ?_
          rintro z w' ⟨g, rfl, _, hr, hb⟩
          have h4 : All4 (ranks (wished [a, b, c, e] of (x * y) (R * Q)) R Q) := fun m hm => (ranks_W4 _ _ _ m hm).1
          exact ⟨g, R, rfl, masks_row hr h4, hb⟩
        · exact coresApart_nil x y a b c e R Q d 12 w rfl (fun W => assign_few hd R Q a b c e W h hR hF (by omega))
      · exact coresApart_nil x y a b c e r q d 1 w rfl (fun W => assign_arg hd r q a b c e W h hR)
    · exact coresApart_nil x y a b c e r q d 1 w rfl (fun W => assign_no x y d r q a b c e W fun W => dist_none x y d W h h0 h1)
  · exact coresApart_nil s p a b c e r q d 1 w rfl (fun W => assign_no s p d r q a b c e W fun W => dist_bad s p d W h)

set_option maxRecDepth 100000 in
set_option maxHeartbeats 2000000 in
theorem coresApart_lifted (os : Os) (started : os.Started) (H : Type) (enc : TypeId × Value → H) :
    ReturnsInHanded {} Try.checked os 5 .any (Rows.coresApartSpec.pre6 enc Try.prog Try.f5 Rows.coresApartRow.domain false) (Rows.coresApartSpec.post enc Try.prog Try.f5 false true false false) := by
  refine returnsInHanded_of_change (C := Try.checked) own started (by kernel_rfl) Try.func5
    (ChangeSpec.witness6 (enc := enc) (C := Try.checked) false ⟨#[], #[.agg #[.int .i64 0, .int .i64 0], .agg #[.int .u64 0, .int .u64 0, .int .u64 0, .int .u64 0, .int .i64 0, .int .i64 0, .int .i64 0]], []⟩ 8 (by kernel_rfl) (by kernel_rfl) (by kernel_rfl) (by kernel_rfl)) ?_
  intro W base args ds gs before hval0 hW _ _
  have hval : ∀ (j : Nat) t v, Try.f5.params[j]? = some t → args[j]? = some v → Value.okWide Try.prog W .any base t v := hval0
  have hW' := hW
  obtain ⟨p, q, hA0, hV, rfl, hfz, hnd⟩ := hW
  have hA : DataW.TrodAll enc Try.prog W 0 (fun _ => true) true Try.f5.params.toList args.toList ds p := hA0
  rw [Try.params5] at hA hval
  obtain ⟨v0, vs0, d0, ds0, p0, q0, hargs, rfl, rfl, h0, r0⟩ := trodAll_cons hA
  obtain ⟨v1, vs1, d1, ds1, p1, q1, rfl, rfl, rfl, h1, r1⟩ := trodAll_cons r0
  obtain ⟨rfl, rfl, rfl⟩ := trodAll_nil r1
  obtain rfl : args = #[v0, v1] := by cases args; simp_all
  obtain ⟨rfl, rfl⟩ := trodVars_none hV
  obtain ⟨s0, t0, rfl, rfl, rfl, ws0, wt0⟩ := open_lay (hval 0 23 v0 rfl rfl) h0
  obtain ⟨a1, b1, c1, e1, k1, g1, t1, rfl, rfl, rfl, wa1, wb1, wc1, we1, wk1, wg1, wt1⟩ := open_wish (hval 1 45 v1 rfl rfl) h1
  clear hA0 hA hval0
  simp only [List.append_nil] at hW'
  refine (coresApart_any s0 t0 a1 b1 c1 e1 k1 g1 t1 wa1 wb1 wc1 we1 W).mono fun e W' ⟨he, hg⟩ => ?_
  subst he
  exact ⟨_, rfl, answer (vals := [.agg #[.int .i64 s0, .int .i64 t0], .agg #[.int .u64 a1, .int .u64 b1, .int .u64 c1, .int .u64 e1, .int .i64 k1, .int .i64 g1, .int .i64 t1]]) rfl rfl (by kernel_rfl) rfl rfl rfl hW' (fun q => (trodAll_cons_mk (shut_lay ws0 wt0) (trodAll_cons_mk (shut_wish wa1 wb1 wc1 we1 wk1 wg1 wt1) trodAll_mk0))) hg⟩

theorem coresApart_holds : Rows.CoresApartSaid :=
  OpenClaim.holds_of_wide 5 Try.f5 rfl rfl rfl rfl rfl rfl rfl ⟨rfl, rfl, rfl, rfl, rfl⟩ rfl rfl rfl rfl rfl (by kernel_rfl) Try.func5 (by kernel_rfl)
    (of_decide_eq_true (by kernel_rfl)) (by unfold Func.isWrapper; rw [if_neg (by decide +kernel)]; exact ⟨rfl, rfl⟩)
    (fun os started H enc _ => coresApart_lifted os started H enc)
#print axioms coresApart_holds

end Go.Proofs.Yteggadafcedojaa
