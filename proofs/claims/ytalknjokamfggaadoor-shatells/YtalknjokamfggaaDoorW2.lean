/- The words of a block: schedule. -/
import Derived.Test.YtalknjokamfggaaDoorW1
import Derived.Test.YtalknjokamfggaaDoorRow
import Derived.Deep.RegionHeld3
import Derived.Deep.DeepCutAuto
import Derived.StillTailTactics
namespace Go.Proofs.YtalknjokamfggaaDoor
open Go.RowKit

theorem wordAt_int (s : ByteArray) (a : Int) (w : World) (h0 : 0 ≤ a) (hi : a + 3 < s.size) (hs : s.size ≤ maxLen) :
    Calls Tryd.prog 31 #[.string s, .int .i64 a] w fun e w' => e = .returned (.int .u32 (Sh.word (Sh.bl s) a.toNat : Nat)) ∧ ∃ n, w' = w.drewN n := by
  obtain ⟨i, rfl⟩ := Int.eq_ofNat_of_zero_le h0
  exact wordAt_any s i w (by omega) hs

theorem rot_still (x k : Nat) (w : World) (hx2 : x < 4294967296) (hk : 1 ≤ k) (hk2 : k < 32) :
    Calls Tryd.prog 30 #[.int .u32 x, .int .i64 (k : Int)] w fun e w' => e = .returned (.int .u32 (Sh.rotr x k : Nat)) ∧ w' = w :=
  (rot_any x k w hx2 hk hk2).mono fun _ _ h => ⟨h.1, h.2.symm⟩

theorem rot_lit (x k : Nat) (a : Int) (ha : (k : Int) = a) (w : World) (hx2 : x < 4294967296) (hk : 1 ≤ k) (hk2 : k < 32) :
    Calls Tryd.prog 30 #[.int .u32 x, .int .i64 a] w fun e w' => e = .returned (.int .u32 (Sh.rotr x k : Nat)) ∧ w' = w := by
  subst ha; exact rot_still x k w hx2 hk hk2

theorem xor3 (a b c : Nat) (ha : a < 4294967296) (hb : b < 4294967296) (hc : c < 4294967296) :
    bits .xor .u32 (bits .xor .u32 (a : Int) (b : Int)) (c : Int) = (((a ^^^ b) ^^^ c : Nat) : Int) := by
  rw [u32_xor_nat a b ha hb, u32_xor_nat _ c (Sh.xor_lt ha hb) hc]
theorem sg0_bits (y : Nat) (h : y < 4294967296) : bits .xor .u32 (bits .xor .u32 (Sh.rotr y 7 : Nat) (Sh.rotr y 18 : Nat)) ((y : Int) / 8) = ((Sh.sg0 y : Nat) : Int) :=
  xor3 _ _ (y / 8) (Sh.rotr_lt _ _ h) (Sh.rotr_lt _ _ h) (by omega)
theorem sg1_bits (y : Nat) (h : y < 4294967296) : bits .xor .u32 (bits .xor .u32 (Sh.rotr y 17 : Nat) (Sh.rotr y 19 : Nat)) ((y : Int) / 1024) = ((Sh.sg1 y : Nat) : Int) :=
  xor3 _ _ (y / 1024) (Sh.rotr_lt _ _ h) (Sh.rotr_lt _ _ h) (by omega)

theorem row16 (l : List Nat) (k : Nat) (hk : k < 16) : (Sh.sched0 l k ++ List.replicate (64 - k) 0).set k (Sh.word l (4 * k)) = Sh.sched0 l (k + 1) ++ List.replicate (64 - (k + 1)) 0 := by
  have h := set_zero (Sh.sched0 l k) (64 - k) (Sh.word l (4 * k)) (by omega)
  rw [Sh.sched0_len] at h
  rw [h, show 64 - k - 1 = 64 - (k + 1) from by omega]; rfl
theorem row48 (l : List Nat) (k : Nat) (hk : k < 48) : (Sh.sched l k ++ List.replicate (48 - k) 0).set (k + 16) (Sh.next (Sh.sched l k) k) = Sh.sched l (k + 1) ++ List.replicate (48 - (k + 1)) 0 := by
  have h := set_zero (Sh.sched l k) (48 - k) (Sh.next (Sh.sched l k) k) (by omega)
  rw [Sh.sched_len] at h
  rw [show k + 16 = 16 + k from by omega, h, show 48 - k - 1 = 48 - (k + 1) from by omega]; rfl

theorem zeros64 : vs .u32 (List.replicate 64 0) = #[.int .u32 0, .int .u32 0, .int .u32 0, .int .u32 0, .int .u32 0, .int .u32 0, .int .u32 0, .int .u32 0, .int .u32 0, .int .u32 0, .int .u32 0, .int .u32 0, .int .u32 0, .int .u32 0, .int .u32 0, .int .u32 0,
   .int .u32 0, .int .u32 0, .int .u32 0, .int .u32 0, .int .u32 0, .int .u32 0, .int .u32 0, .int .u32 0, .int .u32 0, .int .u32 0, .int .u32 0, .int .u32 0, .int .u32 0, .int .u32 0, .int .u32 0, .int .u32 0,
   .int .u32 0, .int .u32 0, .int .u32 0, .int .u32 0, .int .u32 0, .int .u32 0, .int .u32 0, .int .u32 0, .int .u32 0, .int .u32 0, .int .u32 0, .int .u32 0, .int .u32 0, .int .u32 0, .int .u32 0, .int .u32 0,
   .int .u32 0, .int .u32 0, .int .u32 0, .int .u32 0, .int .u32 0, .int .u32 0, .int .u32 0, .int .u32 0, .int .u32 0, .int .u32 0, .int .u32 0, .int .u32 0, .int .u32 0, .int .u32 0, .int .u32 0, .int .u32 0] := rfl

theorem size_alloc (w : World) (o : Obj) : (w.alloc o).heap.size = w.heap.size + 1 := by simp

theorem next_int (l : List Nat) (k : Nat) : ((Sh.next l k : Nat) : Int) = ((Sh.nth l k : Nat) + (Sh.sg0 (Sh.nth l (k + 1)) : Nat) + (Sh.nth l (k + 9) : Nat) + (Sh.sg1 (Sh.nth l (k + 14)) : Nat) : Int) % 4294967296 := by
  simp [Sh.next]

set_option maxRecDepth 100000 in
set_option maxHeartbeats 400000 in
theorem schedule_any (s : ByteArray) (w : World) (hi : 64 ≤ s.size) (hs : s.size ≤ maxLen) :
    Calls Tryd.prog 29 #[.string s] w fun e w' => e = .returned (.agg (vs .u32 (Sh.sched (Sh.bl s) 48))) ∧ Below w.heap.size w w' := by
  have hs2 := hs
  unfold maxLen at hs2
  go_enter Tryd.func29, Tryd.ntmps29
  go_wp2_with fail
  go_loopw [8] (fun i wr => ∃ k : Nat, k ≤ 16 ∧ i = .int .i64 k ∧ Row .u32 45 wr w.heap.size (List.replicate 64 0) ∧ Row .u32 45 wr (w.heap.size + 1) (Sh.sched0 (Sh.bl s) k ++ List.replicate (64 - k) 0) ∧ Below w.heap.size w wr)
    (fun i _ => 16 - (intOf i).toNat)
  case atStart =>
    refine ⟨0, by omega, rfl, ?_, ?_, ?_⟩
    · exact (Row.new w .u32 45 _ _ zeros64.symm).alloc _
    · have := Row.new (w.alloc (.cells (vs .u32 (List.replicate 64 0)) 45)) .u32 45 (List.replicate 64 0) _ zeros64.symm
      rw [size_alloc] at this
      rw [zeros64] at this
      exact this
    · exact ((Below.refl _ _).alloc (Nat.le_refl _) _).alloc (by simp) _
  case round =>
    obtain ⟨k, hk, rfl, hr0, hr1, hb⟩ := hrel
    by_cases hlt : k < 16
    · have hc := hr1.cell k (by simp [Sh.sched0_len]; omega)
      have hf := hr1.frozen k
      go_wp2_with (go_at_call 31; refine (wordAt_int s _ _ (by omega) (by omega) hs).mono ?_; rintro e w' ⟨rfl, nq, rfl⟩)
      go_roundw
      case rel =>
        refine ⟨k + 1, by omega, by go_num, ?_, ?_, ?_⟩
        · exact (hr0.drewN nq).setOther _ (by simp)
        · have := (hr1.drewN nq).set k (Sh.word (Sh.bl s) (4 * k))
          rw [row16 _ _ hlt] at this
          exact this
        · exact (below_drewN hb nq).setCell (by simp) _
      case measure => simp [intOf]; omega
    · obtain rfl : k = 16 := by omega
      have hr1' : Row .u32 45 wr (w.heap.size + 1) (Sh.sched (Sh.bl s) 0 ++ List.replicate (48 - 0) 0) := hr1
      clear hr1 hlt hk
      go_wp2_with fail
      rw [show ((16 : Nat) : Int) = 16 from rfl]
      go_loopw [18] (fun i wr => ∃ k : Nat, k ≤ 48 ∧ i = .int .i64 k ∧ Row .u32 45 wr w.heap.size (List.replicate 64 0) ∧ Row .u32 45 wr (w.heap.size + 1) (Sh.sched (Sh.bl s) k ++ List.replicate (48 - k) 0) ∧ Below w.heap.size w wr)
        (fun i _ => 48 - (intOf i).toNat)
      case atStart => exact ⟨0, by omega, rfl, hr0, hr1', hb⟩
      case round =>
        clear hr0 hr1' hb
        obtain ⟨k, hk, rfl, hr0, hr1, hb⟩ := hrel
        by_cases hlt : k < 48
        · have hlen : (Sh.sched (Sh.bl s) k ++ List.replicate (48 - k) 0).length = 64 := by simp [Sh.sched_len]; omega
          have hc1 := hr1.cell (k + 1) (by omega)
          have hc14 := hr1.cell (k + 14) (by omega)
          rw [Sh.nth_append_left _ _ _ (by rw [Sh.sched_len]; omega)] at hc1 hc14
          have hw := Sh.sched_words (Sh.bl s) (Sh.bl_bytes s) k
          have w0 := hw k
          have w1 := hw (k + 1)
          have w9 := hw (k + 9)
          have w14 := hw (k + 14)
          clear hw
          have a1 : IntKind.i64.wrap ((k : Int) + 1) = (k : Int) + 1 := IntWalk.i64_in _ (by omega)
          have a9 : IntKind.i64.wrap ((k : Int) + 9) = (k : Int) + 9 := IntWalk.i64_in _ (by omega)
          have a14 : IntKind.i64.wrap ((k : Int) + 14) = (k : Int) + 14 := IntWalk.i64_in _ (by omega)
          have a16 : IntKind.i64.wrap ((k : Int) + 16) = (k : Int) + 16 := IntWalk.i64_in _ (by omega)
          have b1 : 0 ≤ (k : Int) + 1 := by omega
          have b9 : 0 ≤ (k : Int) + 9 := by omega
          have b14 : 0 ≤ (k : Int) + 14 := by omega
          have b16 : 0 ≤ (k : Int) + 16 := by omega
          have d1 : (k : Int) + 1 < 64 := by omega
          have d9 : (k : Int) + 9 < 64 := by omega
          have d14 : (k : Int) + 14 < 64 := by omega
          have d16 : (k : Int) + 16 < 64 := by omega
          have d0 : (k : Int) < 64 := by omega
          have c1 : ((k : Int) + 1).toNat = k + 1 := by omega
          have c9 : ((k : Int) + 9).toNat = k + 9 := by omega
          have c14 : ((k : Int) + 14).toNat = k + 14 := by omega
          have c16 : ((k : Int) + 16).toNat = k + 16 := by omega
          go_wp2_with fail
          go_quiet (fail)
          go_wp2_with fail
          have e0 := sg0_bits _ w1
          have e1 := sg1_bits _ w14
          refine region_tail 29 (by kernel_rfl) (by kernel_rfl) (fun w2 hw2 => ?_)
          have hr2 := (hr1.drewN nq).hid hw2
          have hb2 := below_hid (below_drewN hb nq) hw2
          have hr02 := (hr0.drewN nq).hid hw2
          clear hw2 hc1 hc14 hr1 hr0 hb
          have hc0 := hr2.cell k (by omega)
          have hc9 := hr2.cell (k + 9) (by omega)
          have hc16 := hr2.cell (k + 16) (by omega)
          have hf := hr2.frozen (k + 16)
          rw [Sh.nth_append_left _ _ _ (by rw [Sh.sched_len]; omega)] at hc0 hc9
          simp only [List.take_succ_cons, List.take_zero, List.drop_succ_cons, List.drop_zero]
          repeat still_step
          still_call (rot_lit _ 7 7 rfl _ w1 (by decide) (by decide))
          repeat still_step
          still_call (rot_lit _ 18 18 rfl _ w1 (by decide) (by decide))
          repeat still_step
          still_call (rot_lit _ 17 17 rfl _ w14 (by decide) (by decide))
          repeat still_step
          still_call (rot_lit _ 19 19 rfl _ w14 (by decide) (by decide))
          repeat still_step
          refine wpStill_nil ?_
          clear e0 e1
          go_wp2
          go_roundw
          case rel =>
            refine ⟨k + 1, by omega, by go_num, hr02.setOther _ (by simp), ?_, hb2.setCell (by simp) _⟩
            have h := hr2.set (k + 16) (Sh.next (Sh.sched (Sh.bl s) k) k)
            rw [row48 _ _ hlt] at h
            rw [next_int] at h
            exact h
          case measure => simp [intOf]; omega
        · obtain rfl : k = 48 := by omega
          have hr1' : Row .u32 45 wr (w.heap.size + 1) (Sh.sched (Sh.bl s) 48) := by simpa using hr1
          clear hr1 hlt hk
          have hz : (Tryd.prog.info? 45).map (·.size) = some (vs .u32 (Sh.sched (Sh.bl s) 48)).size := by
            rw [vs_size, Sh.sched_len]; kernel_rfl
          go_wp2_with (first | (refine wpList_load_row rfl 45 _ rfl (w.heap.size + 1) rfl 45 _ (0, 0) _ hr1' Tryd.underlying45 rfl hz ?_) | (refine wpList_store_row rfl 45 _ _ rfl w.heap.size _ rfl rfl 45 _ hr0 hz (by rw [vs_size, vs_size, Sh.sched_len]; simp) (vs_one _ _) ?_))
          refine bodyPost_ret (v := .agg (vs .u32 (Sh.sched (Sh.bl s) 48))) (results_cell_row rfl _ _ w.heap.size 45 _ (0, 0) _ rfl (hr0.setRow _) Tryd.underlying45 rfl hz) rfl ⟨rfl, ?_⟩
          exact below_setRow hb (Nat.le_refl _) _
end Go.Proofs.YtalknjokamfggaaDoor
