/- All blocks: mixAll. -/
import Derived.Test.YtalknjokamfggaaDoorW3
namespace Go.Proofs.YtalknjokamfggaaDoor
open Go.RowKit

theorem still_load {P : Program} {ops : Array Oper} {rest : List Oper} {o : Oper} {a : Act} {w : World} {Q : Act → Prop} (hgd : o.guard = none) (ty : TypeId) (x : Operand) (ho : o.op = .load ty x)
    (g : Nat) (k : IntKind) (l : List Nat) (hx : a.eval x = .pointer (some ⟨g, 0, none⟩)) (t : TypeId) (fr : Nat × Nat) (d : TypeDesc) (hg : w.heap[g]? = some (.cells (vs k l) t fr))
    (hu : P.underlying ty = some d) (hd : (match d with | .struct _ | .array _ _ => true | _ => false) = true) (hi : (P.info? ty).map (·.size) = some l.length)
    (h : wpStill P ops w Q rest (a.put o.dst (.agg (vs k l)))) : wpStill P ops w Q (o :: rest) a := by
  refine wpStill_step (fun K hK => ?_)
  have hw : Region.wanted o (yielded ops a.tmps) = true := by simp [Region.wanted, hgd]
  rw [if_pos hw]
  unfold Oper.still execOp
  simp only [ho, hx, Instr.loadAt, Instr.sureAddr, Sem.run_bind, Sem.run_pure, Result.andThen_ok, run_loadVar_row w g t ty (vs k l) fr d hg hu hd (by rw [vs_size]; exact hi)]
  simp only [Oper.stillUpon]
  exact ⟨trivial, hK _ h⟩

set_option maxRecDepth 100000 in
set_option maxHeartbeats 400000 in
theorem mixAll_any (h8 : List Nat) (s : ByteArray) (w : World) (G : Glob w) (hh : h8.length = 8) (hw : Sh.Words h8) (hs : s.size ≤ maxLen) :
    Calls Tryd.prog 16 #[.agg (vs .u32 h8), .string s] w fun e w' => e = .returned (.agg (vs .u32 (Sh.mixs h8 (Sh.bl s) (s.size / 64)))) ∧ Below w.heap.size w w' := by
  have hs2 := hs
  unfold maxLen at hs2
  have HH := Lib.hid hh
  clear hh
  go_enter Tryd.func16, Tryd.ntmps16
  go_wp2_with fail
  go_loopw [9] (fun i wr => ∃ k : Nat, k ≤ s.size / 64 ∧ i = .int .i64 k ∧ Row .u32 28 wr w.heap.size (Sh.mixs h8 (Sh.bl s) k) ∧ Row .u32 28 wr (w.heap.size + 1) (List.replicate 8 0) ∧ Below w.heap.size w wr)
    (fun i _ => s.size / 64 - (intOf i).toNat)
  case atStart =>
    refine ⟨0, by omega, rfl, (Row.new w .u32 28 _ _ rfl).alloc _, ?_, ((Below.refl _ _).alloc (Nat.le_refl _) _).alloc (by simp) _⟩
    have q := Row.new (w.alloc (.cells (vs .u32 h8) 28)) .u32 28 (List.replicate 8 0) _ zeros8
    rw [size_alloc] at q
    exact q
  case round =>
    obtain ⟨k, hk, rfl, r0, r1, hb⟩ := hrel
    have hvl := Lib.hid (Sh.mixs_len h8 (Sh.bl s) HH.out k)
    have hvw := Lib.hid (Sh.mixs_words h8 (Sh.bl s) HH.out hw k)
    by_cases hlt : k < s.size / 64
    · have hz28 := Lib.hid (show (Tryd.prog.info? 28).map (·.size) = some (Sh.mixs h8 (Sh.bl s) k).length by rw [hvl.out]; exact info28)
      have HV : Hid (Sh.mixs h8 (Sh.bl s) (k + 1) = Sh.mixP (Sh.mixs h8 (Sh.bl s) k) ((Sh.bl s).drop (64 * k))) := rfl
      generalize Sh.mixs h8 (Sh.bl s) k = v at hvl hvw HV r0 hz28
      have hm : 64 * k + 64 ≤ s.size := by omega
      have a1 : IntKind.i64.wrap (64 * (k : Int)) = 64 * (k : Int) := IntWalk.i64_in _ (by omega)
      have b1 : 0 ≤ 64 * (k : Int) := by omega
      have c1 : (64 * (k : Int)).toNat = 64 * k := by omega
      have d1 : 64 * (k : Int) ≤ s.size := by omega
      go_wp2_with fail
      refine region_tail 5 (by kernel_rfl) (by kernel_rfl) (fun w5 hw2 => ?_)
      replace r0 := r0.hid hw2
      replace r1 := r1.hid hw2
      replace hb := below_hid hb hw2
      clear hw2
      simp only [List.take_succ_cons, List.take_zero, List.drop_succ_cons, List.drop_zero]
      refine still_load rfl 28 _ rfl w.heap.size .u32 v rfl 28 (0, 0) _ r0 Tryd.underlying28 rfl hz28.out ?_
      repeat still_step
      refine wpStill_nil ?_
      clear a1 b1 c1 d1
      go_wp2_with fail
      refine (mix_any v (s.extract (64 * k) s.size) _ (G.below hb G.two) hvl.out hvw.out (by simp; omega) (by simp; omega)).mono ?_
      rintro e w6 ⟨rfl, hb6⟩
      have r06 := r0.below hb6 r0.lt
      have r16 := r1.below hb6 r1.lt
      have hb6' := hb.trans (hb6.mono (by have := hb.size; omega))
      rw [Sh.bl_extract, ← HV.out]
      have hv6 : Hid ((Sh.mixs h8 (Sh.bl s) (k + 1)).length = 8) := by show _ = _; rw [HV.out]; exact Sh.mixP_len _ _ hvl.out
      clear HV hb6 r0 r1 hb
      have hz6 := Lib.hid (show (Tryd.prog.info? 28).map (·.size) = some (Sh.mixs h8 (Sh.bl s) (k + 1)).length by rw [hv6.out]; exact info28)
      go_wp2_with (first
        | (refine store_law rfl 28 _ _ rfl w.heap.size .u32 v (Sh.mixs h8 (Sh.bl s) (k + 1)) rfl rfl 28 r06 (by rw [hvl.out, hv6.out]) hz6.out ?_; intro w7 hw7; replace r06 := r06.hidSet hw7; replace r16 := r16.hidOther hw7 (by omega); replace hb6' := below_hidSet hb6' hw7 (by omega); clear hw7))
      go_roundw
      case rel => exact ⟨k + 1, by omega, by go_num, r06, r16, hb6'⟩
      case measure => simp [intOf]; omega
    · obtain rfl : k = s.size / 64 := by omega
      have hz28 := Lib.hid (show (Tryd.prog.info? 28).map (·.size) = some (Sh.mixs h8 (Sh.bl s) (s.size / 64)).length by rw [hvl.out]; exact info28)
      go_wp2_with (first
        | (refine load_law rfl 28 _ rfl w.heap.size .u32 _ rfl 28 _ r0 Tryd.underlying28 rfl hz28.out ?_)
        | (refine store_law rfl 28 _ _ rfl (w.heap.size + 1) .u32 (List.replicate 8 0) (Sh.mixs h8 (Sh.bl s) (s.size / 64)) rfl rfl 28 r1 (by rw [hvl.out]; simp) hz28.out ?_; intro w7 hw7))
      refine bodyPost_ret (v := .agg (vs .u32 (Sh.mixs h8 (Sh.bl s) (s.size / 64)))) ?_ rfl ⟨rfl, below_hidSet hb hw7 (by omega)⟩
      exact results_row rfl _ _ (w.heap.size + 1) .u32 28 _ _ rfl (r1.hidSet hw7) Tryd.underlying28 rfl hz28.out

end Go.Proofs.YtalknjokamfggaaDoor
