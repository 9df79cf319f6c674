/- Proved: for every layout and every wish, CoresAssign answers true (Assign tells what the document says, and the document's examples hold), and the arguments read as they did.
   Conditions: none beyond the row's own (arguments that can be read). -/
import Derived.Test.YteggadafcedojaaL5
import Derived.Test.YteggadafcedojaaCoresTell
import Derived.Test.YteggadafcedojaaP1
namespace Go.Proofs.Yteggadafcedojaa
open Go.ChangeShapes Go.WideShapes Go.ChangeAt Go.RowKit Go.Joins

theorem frk_whole {d : Int} {fid s p : Nat} {of : Nat → Nat} (hd : IsDist d fid s p of) (h : LOk s p) (F : List Nat) : frk F ((List.range (s * p)).map of) (s * p) = (fr F (upto of (s * p))).map (·.1) := by
  rw [fr_vals, dist_vals hd h]
  unfold frk
  rw [List.take_of_length_le (by simp)]
theorem ranks_rk (zs : List Core) (R Q : Nat) : ranks (zs.take (R * Q)) R Q = rk (zs.map (·.1)) R Q := by
  unfold ranks rk
  apply List.map_congr_left
  intro i hi
  rw [List.mem_range] at hi
  congr 1
  rw [List.map_take, List.drop_take, List.take_take]
  have h1 : (i + 1) * Q ≤ R * Q := Nat.mul_le_mul_right Q hi
  rw [Nat.add_mul, Nat.one_mul] at h1
  rw [Nat.min_eq_left (by omega)]
theorem out_assign {d : Int} {fid s p : Nat} {of : Nat → Nat} (hd : IsDist d fid s p of) (R Q a b c e : Nat) (h : LOk s p) (hR : ROk R Q) (hF : Mk.W4 [a, b, c, e]) (hf : R * Q ≤ (fr [a, b, c, e] (upto of (s * p))).length) (W : World) :
    Calls Try.prog 19 #[.agg #[.int .i64 s, .int .i64 p], .agg #[.int .u64 a, .int .u64 b, .int .u64 c, .int .u64 e, .int .i64 R, .int .i64 Q, .int .i64 d]] W (Out W (rk (frk [a, b, c, e] ((List.range (s * p)).map of) (s * p)) R Q) R 0) := by
  refine (assign_ok hd R Q a b c e W h hR hF hf).mono ?_
  rintro x w' ⟨g, rfl, _, hr, hb⟩
  have h4 : All4 (ranks (wished [a, b, c, e] of (s * p) (R * Q)) R Q) := fun m hm => (ranks_W4 _ _ _ m hm).1
  have hm := masks_row hr h4
  rw [show wished [a, b, c, e] of (s * p) (R * Q) = (fr [a, b, c, e] (upto of (s * p))).take (R * Q) from rfl, ranks_rk, ← frk_whole hd h] at hm
  exact ⟨g, R, rfl, hm, hb⟩
theorem of_lt {d : Int} {fid s p : Nat} {of : Nat → Nat} (hd : IsDist d fid s p of) (h : LOk s p) : ∀ x ∈ (List.range (s * p)).map of, x < 256 := by
  intro x hx
  obtain ⟨k, hk, rfl⟩ := List.mem_map.1 hx
  exact Nat.lt_of_lt_of_le ((dist_of hd h).1 k (List.mem_range.1 hk)) h.2.2.2.2
theorem ref_assign {d : Int} {fid s p : Nat} {of : Nat → Nat} (hd : IsDist d fid s p of) (R Q a b c e : Nat) (h : LOk s p) (hR : ROk R Q) (hF : Mk.W4 [a, b, c, e]) (W : World) :
    Calls Try.prog 21 #[.agg #[.int .i64 s, .int .i64 p], .agg #[.int .u64 a, .int .u64 b, .int .u64 c, .int .u64 e, .int .i64 R, .int .i64 Q, .int .i64 d]] W (AsgOut W (frk [a, b, c, e] ((List.range (s * p)).map of) (s * p)) R Q) :=
  rAssign_in s p d _ (s * p) R Q a b c e W (told_ref hd h) (by simp) h.2.2.2.2 (of_lt hd h) hR hF

theorem coresAssign_any (s p a b c e r q d : Int) (wa : (Lit.int .u64 a).wf = true) (wb : (Lit.int .u64 b).wf = true) (wc : (Lit.int .u64 c).wf = true) (we : (Lit.int .u64 e).wf = true) (w : World) :
    Calls Try.prog 4 #[.agg #[.int .i64 s, .int .i64 p], .agg #[.int .u64 a, .int .u64 b, .int .u64 c, .int .u64 e, .int .i64 r, .int .i64 q, .int .i64 d]] w fun x w' => x = .returned (.bool true) ∧ Below w.heap.size w w' := by
  obtain ⟨a, rfl, ha⟩ := u64_of_wf wa
  obtain ⟨b, rfl, hb⟩ := u64_of_wf wb
  obtain ⟨c, rfl, hc⟩ := u64_of_wf wc
  obtain ⟨e, rfl, he⟩ := u64_of_wf we
  have hF := W4_of ha hb hc he
  rcases LOk_or s p with ⟨x, y, rfl, rfl, h⟩ | h
  · rcases dist_or d x y with ⟨fid, of, hd⟩ | ⟨h0, h1⟩
    · rcases ROk_or r q with ⟨R, Q, rfl, rfl, hR⟩ | hR
      · have hlen : (frk [a, b, c, e] ((List.range (x * y)).map of) (x * y)).length = (fr [a, b, c, e] (upto of (x * y))).length := by rw [frk_whole hd h, List.length_map]
        by_cases hf : R * Q ≤ (fr [a, b, c, e] (upto of (x * y))).length
        · refine coresAssign_laid x y a b c e R Q d (rk (frk [a, b, c, e] ((List.range (x * y)).map of) (x * y)) R Q) R w (rk_len _ _ _) hR.2.1 hR.1 (out_assign hd R Q a b c e h hR hF hf) ?_
          intro W
          refine (ref_assign hd R Q a b c e h hR hF W).mono ?_
          rintro z w' (⟨hlt, _, _⟩ | ⟨_, g, cap, rfl, hm, hb⟩)
          · omega
          · exact ⟨g, cap, rfl, hm, hb⟩
        · refine coresAssign_nil x y a b c e R Q d 12 w (fun W => assign_few hd R Q a b c e W h hR hF (by omega)) ?_
          intro W
          refine (ref_assign hd R Q a b c e h hR hF W).mono ?_
          rintro z w' (⟨_, rfl, hb⟩ | ⟨hle, _⟩)
          · exact ⟨rfl, hb⟩
          · omega
      · exact coresAssign_nil x y a b c e r q d 1 w (fun W => assign_arg hd r q a b c e W h hR) (fun W => rAssign_arg x y d r q _ _ a b c e W (told_ref hd h) hR)
    · have hd : d < 0 ∨ 1 < d := by
        have e0 : d ≠ 0 := by simpa using h0
        have e1 : d ≠ 1 := by simpa using h1
        omega
      exact coresAssign_nil x y a b c e r q d 1 w (fun W => assign_no x y d r q a b c e W fun W => dist_none x y d W h h0 h1) (fun W => rAssign_no x y d r q a b c e W fun W => rOrder_none x y d W h hd)
  · exact coresAssign_nil s p a b c e r q d 1 w (fun W => assign_no s p d r q a b c e W fun W => dist_bad s p d W h) (fun W => rAssign_no s p d r q a b c e W fun W => rOrder_bad s p d W h)

set_option maxRecDepth 100000 in
set_option maxHeartbeats 2000000 in
theorem coresAssign_lifted (os : Os) (started : os.Started) (H : Type) (enc : TypeId × Value → H) :
    ReturnsInHanded {} Try.checked os 4 .any (Rows.coresAssignSpec.pre6 enc Try.prog Try.f4 Rows.coresAssignRow.domain false) (Rows.coresAssignSpec.post enc Try.prog Try.f4 false true false false) := by
  refine returnsInHanded_of_change (C := Try.checked) own started (by kernel_rfl) Try.func4
    (ChangeSpec.witness6 (enc := enc) (C := Try.checked) false ⟨#[], #[.agg #[.int .i64 0, .int .i64 0], .agg #[.int .u64 0, .int .u64 0, .int .u64 0, .int .u64 0, .int .i64 0, .int .i64 0, .int .i64 0]], []⟩ 8 (by kernel_rfl) (by kernel_rfl) (by kernel_rfl) (by kernel_rfl)) ?_
  intro W base args ds gs before hval0 hW _ _
  have hval : ∀ (j : Nat) t v, Try.f4.params[j]? = some t → args[j]? = some v → Value.okWide Try.prog W .any base t v := hval0
  have hW' := hW
  obtain ⟨p, q, hA0, hV, rfl, hfz, hnd⟩ := hW
  have hA : DataW.TrodAll enc Try.prog W 0 (fun _ => true) true Try.f4.params.toList args.toList ds p := hA0
  rw [Try.params4] at hA hval
  obtain ⟨v0, vs0, d0, ds0, p0, q0, hargs, rfl, rfl, h0, r0⟩ := trodAll_cons hA
  obtain ⟨v1, vs1, d1, ds1, p1, q1, rfl, rfl, rfl, h1, r1⟩ := trodAll_cons r0
  obtain ⟨rfl, rfl, rfl⟩ := trodAll_nil r1
  obtain rfl : args = #[v0, v1] := by cases args; simp_all
  obtain ⟨rfl, rfl⟩ := trodVars_none hV
  obtain ⟨s0, t0, rfl, rfl, rfl, ws0, wt0⟩ := open_lay (hval 0 23 v0 rfl rfl) h0
  obtain ⟨a1, b1, c1, e1, k1, g1, t1, rfl, rfl, rfl, wa1, wb1, wc1, we1, wk1, wg1, wt1⟩ := open_wish (hval 1 45 v1 rfl rfl) h1
  clear hA0 hA hval0
  simp only [List.append_nil] at hW'
  refine (coresAssign_any s0 t0 a1 b1 c1 e1 k1 g1 t1 wa1 wb1 wc1 we1 W).mono fun e W' ⟨he, hg⟩ => ?_
  subst he
  exact ⟨_, rfl, answer (vals := [.agg #[.int .i64 s0, .int .i64 t0], .agg #[.int .u64 a1, .int .u64 b1, .int .u64 c1, .int .u64 e1, .int .i64 k1, .int .i64 g1, .int .i64 t1]]) rfl rfl (by kernel_rfl) rfl rfl rfl hW' (fun q => (trodAll_cons_mk (shut_lay ws0 wt0) (trodAll_cons_mk (shut_wish wa1 wb1 wc1 we1 wk1 wg1 wt1) trodAll_mk0))) hg⟩

theorem coresAssign_holds : Rows.CoresAssignSaid :=
  OpenClaim.holds_of_wide 4 Try.f4 rfl rfl rfl rfl rfl rfl rfl ⟨rfl, rfl, rfl, rfl, rfl⟩ rfl rfl rfl rfl rfl (by kernel_rfl) Try.func4 (by kernel_rfl)
    (of_decide_eq_true (by kernel_rfl)) (by unfold Func.isWrapper; rw [if_neg (by decide +kernel)]; exact ⟨rfl, rfl⟩)
    (fun os started H enc _ => coresAssign_lifted os started H enc)
#print axioms coresAssign_holds

end Go.Proofs.Yteggadafcedojaa
