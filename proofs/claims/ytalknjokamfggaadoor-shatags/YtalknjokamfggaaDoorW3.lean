/- One block: mix. -/
import Derived.Test.YtalknjokamfggaaDoorW2
namespace Go.Proofs.YtalknjokamfggaaDoor
open Go.RowKit

/-- The package's two tables are there. -/
structure Glob (w : World) : Prop where
  st : ∃ t fr, w.heap[0]? = some (.cells (vs .u32 Sh.H0) t fr)
  rt : ∀ i, i < 64 → w.cell? ⟨1, i, none⟩ = some (.int .u32 (Sh.nth Sh.KK i))
  two : 2 ≤ w.heap.size
theorem Glob.below {B : Nat} {w w' : World} (h : Glob w) (hb : Below B w w') (hB : 2 ≤ B) : Glob w' :=
  ⟨by obtain ⟨t, fr, e⟩ := h.st; exact ⟨t, fr, (hb.block 0 (Nat.lt_of_lt_of_le (by decide : 0 < 2) hB)).trans e⟩, fun i hi => (hb.cell (p := ⟨1, i, none⟩) (Nat.lt_of_lt_of_le (by decide : 1 < 2) hB)).trans (h.rt i hi), Nat.le_trans h.two hb.size⟩

theorem rot_int (x : Nat) (a : Int) (w : World) (hx2 : x < 4294967296) (hk : 1 ≤ a) (hk2 : a < 32) :
    Calls Tryd.prog 30 #[.int .u32 x, .int .i64 a] w fun e w' => e = .returned (.int .u32 (Sh.rotr x a.toNat : Nat)) ∧ w = w' := by
  obtain ⟨k, rfl⟩ := Int.eq_ofNat_of_zero_le (show 0 ≤ a by omega)
  exact rot_any x k w hx2 (by omega) (by omega)

theorem bs1_bits (y : Nat) (h : y < 4294967296) : bits .xor .u32 (bits .xor .u32 (Sh.rotr y 6 : Nat) (Sh.rotr y 11 : Nat)) (Sh.rotr y 25 : Nat) = ((Sh.bs1 y : Nat) : Int) :=
  xor3 _ _ _ (Sh.rotr_lt _ _ h) (Sh.rotr_lt _ _ h) (Sh.rotr_lt _ _ h)
theorem bs0_bits (y : Nat) (h : y < 4294967296) : bits .xor .u32 (bits .xor .u32 (Sh.rotr y 2 : Nat) (Sh.rotr y 13 : Nat)) (Sh.rotr y 22 : Nat) = ((Sh.bs0 y : Nat) : Int) :=
  xor3 _ _ _ (Sh.rotr_lt _ _ h) (Sh.rotr_lt _ _ h) (Sh.rotr_lt _ _ h)
theorem not_bits (e : Nat) (h : e < 4294967296) : bits .xor .u32 IntKind.u32.max (e : Int) = ((4294967295 - e : Nat) : Int) := by
  have hm : IntKind.u32.max = ((4294967295 : Nat) : Int) := by decide +kernel
  rw [hm, u32_xor_nat _ _ (by decide) h]
  have hx := BitVec.toNat_not (x := BitVec.ofNat 32 e)
  have hn : BitVec.allOnes 32 ^^^ BitVec.ofNat 32 e = ~~~ BitVec.ofNat 32 e := BitVec.allOnes_xor
  have h2 := congrArg BitVec.toNat hn
  rw [hx, BitVec.toNat_xor, BitVec.toNat_allOnes, BitVec.toNat_ofNat, Nat.mod_eq_of_lt h] at h2
  have h3 : 4294967295 ^^^ e = 4294967295 - e := by simpa using h2
  rw [h3]
theorem ch_bits (e f g : Nat) (he : e < 4294967296) (hf : f < 4294967296) (hg : g < 4294967296) :
    bits .xor .u32 (bits .and .u32 (e : Int) (f : Int)) (bits .and .u32 (bits .xor .u32 IntKind.u32.max (e : Int)) (g : Int)) = ((Sh.ch e f g : Nat) : Int) := by
  rw [not_bits e he, u32_and_nat _ _ he hf, u32_and_nat _ _ (by omega) hg, u32_xor_nat _ _ (Sh.and_lt he) (Sh.and_lt (by omega))]
  rfl
theorem ch_bits' (e f g : Nat) (he : e < 4294967296) (hf : f < 4294967296) (hg : g < 4294967296) :
    bits .xor .u32 (bits .and .u32 (e : Int) (f : Int)) (bits .and .u32 (bits .xor .u32 (if IntKind.u32.signed = true then (-1 : Int) else IntKind.u32.max) (e : Int)) (g : Int)) = ((Sh.ch e f g : Nat) : Int) := by
  rw [if_neg (by decide)]; exact ch_bits e f g he hf hg
theorem maj_bits (a b c : Nat) (ha : a < 4294967296) (hb : b < 4294967296) (hc : c < 4294967296) :
    bits .xor .u32 (bits .xor .u32 (bits .and .u32 (a : Int) (b : Int)) (bits .and .u32 (a : Int) (c : Int))) (bits .and .u32 (b : Int) (c : Int)) = ((Sh.maj a b c : Nat) : Int) := by
  rw [u32_and_nat _ _ ha hb, u32_and_nat _ _ ha hc, u32_and_nat _ _ hb hc, u32_xor_nat _ _ (Sh.and_lt ha) (Sh.and_lt ha), u32_xor_nat _ _ (Sh.xor_lt (Sh.and_lt ha) (Sh.and_lt ha)) (Sh.and_lt hb)]
  rfl
theorem tt_wrap (v : List Nat) (k w : Nat) :
    IntKind.u32.wrap (IntKind.u32.wrap (IntKind.u32.wrap (IntKind.u32.wrap (((Sh.nth v 7 : Nat) : Int) + (Sh.bs1 (Sh.nth v 4) : Nat)) + (Sh.ch (Sh.nth v 4) (Sh.nth v 5) (Sh.nth v 6) : Nat)) + (k : Nat)) + (w : Nat)) = ((Sh.tt v k w : Nat) : Int) := by
  simp only [IntKind.wrap_u32', Sh.tt]
  omega
theorem uu_mod (v : List Nat) : (((Sh.bs0 (Sh.nth v 0) : Nat) : Int) + (Sh.maj (Sh.nth v 0) (Sh.nth v 1) (Sh.nth v 2) : Nat)) % 4294967296 = ((Sh.uu v : Nat) : Int) := by
  simp only [Sh.uu]
  omega

theorem mod_int (a b : Nat) : (((a + b) % 4294967296 : Nat) : Int) = ((a : Int) + (b : Int)) % 4294967296 := by omega

theorem zeros8 : #[Value.int .u32 0, .int .u32 0, .int .u32 0, .int .u32 0, .int .u32 0, .int .u32 0, .int .u32 0, .int .u32 0] = vs .u32 (List.replicate 8 0) := rfl
theorem info45 : (Tryd.prog.info? 45).map (·.size) = some 64 := by kernel_rfl
theorem info28 : (Tryd.prog.info? 28).map (·.size) = some 8 := by kernel_rfl

set_option maxRecDepth 100000 in
set_option maxHeartbeats 400000 in
theorem mix_any (h8 : List Nat) (s : ByteArray) (w : World) (G : Glob w) (hh : h8.length = 8) (hw : Sh.Words h8) (hi : 64 ≤ s.size) (hs : s.size ≤ maxLen) :
    Calls Tryd.prog 23 #[.agg (vs .u32 h8), .string s] w fun e w' => e = .returned (.agg (vs .u32 (Sh.mixP h8 (Sh.bl s)))) ∧ Below w.heap.size w w' := by
  have hz45 : (Tryd.prog.info? 45).map (·.size) = some (Sh.sched (Sh.bl s) 48).length := by rw [Sh.sched_len]; exact info45
  have hz28 : (Tryd.prog.info? 28).map (·.size) = some h8.length := by rw [hh]; exact info28
  have HH := Lib.hid hh
  have HZ := Lib.hid hz45
  have HZ8 := Lib.hid hz28
  clear hh hz45 hz28
  go_enter Tryd.func23, Tryd.ntmps23
  go_wp2_with fail
  refine (schedule_any s _ hi hs).mono ?_
  rintro e w1 ⟨rfl, hb1⟩
  have r0 : Row .u32 28 w1 w.heap.size h8 := ((Row.new w .u32 28 h8 _ rfl).alloc _).below hb1 (by simp; omega)
  have r1 : Row .u32 28 w1 (w.heap.size + 1) (List.replicate 8 0) := by
    have q := Row.new (w.alloc (.cells (vs .u32 h8) 28)) .u32 28 (List.replicate 8 0) _ zeros8
    rw [size_alloc] at q
    exact q.below hb1 (by simp)
  have hz1 : w.heap.size + 2 ≤ w1.heap.size := by have := hb1.size; simp at this; omega
  have hb : Below w.heap.size w w1 := (((Below.refl _ _).alloc (Nat.le_refl _) _).alloc (by simp) _).trans (hb1.mono (by simp; omega))
  clear hb1
  go_wp2_with (first
    | (refine store_law rfl 45 _ _ rfl w1.heap.size .u32 (List.replicate 64 0) (Sh.sched (Sh.bl s) 48) rfl rfl 45 (Row.new w1 .u32 45 _ _ zeros64.symm) (by rw [Sh.sched_len]; simp) HZ.out ?_; intro w2 hw2; have r02 := (r0.alloc _).hidOther hw2 (by omega))
    | (refine load_law rfl 28 _ rfl w.heap.size .u32 h8 rfl 28 _ r02 Tryd.underlying28 rfl HZ8.out ?_)
    | (refine store_law rfl 28 _ _ rfl w2.heap.size .u32 (List.replicate 8 0) h8 rfl rfl 28 (Row.new w2 .u32 28 _ _ zeros8) (by rw [HH.out]; simp) HZ8.out ?_; intro w3 hw3))
  have hs2 := size_hidSet hw2
  rw [size_alloc] at hs2
  have r12 := (r1.alloc _).hidOther hw2 (by omega)
  have r52 := (Row.new w1 .u32 45 _ _ zeros64.symm).hidSet hw2
  have hb2 := below_hidSet (hb.alloc (by omega) _) hw2 (by omega)
  have r03 := (r02.alloc _).hidOther hw3 (by omega)
  have r13 := (r12.alloc _).hidOther hw3 (by omega)
  have r53 := (r52.alloc _).hidOther hw3 (by omega)
  have r63 := (Row.new w2 .u32 28 _ _ zeros8).hidSet hw3
  have hb3 := below_hidSet (hb2.alloc (by omega) _) hw3 (by omega)
  clear r0 r1 hb hw2 r02 r12 r52 hb2 hw3
  rw [hs2] at r63
  rw [hs2]
  clear hs2 w2
  go_loopw [20] (fun i wr => ∃ k : Nat, k ≤ 64 ∧ i = .int .i64 k ∧ Row .u32 28 wr w.heap.size h8 ∧ Row .u32 28 wr (w.heap.size + 1) (List.replicate 8 0) ∧ Row .u32 45 wr w1.heap.size (Sh.sched (Sh.bl s) 48) ∧ Row .u32 28 wr (w1.heap.size + 1) (Sh.rounds h8 (Sh.sched (Sh.bl s) 48) k) ∧ Below w.heap.size w wr)
    (fun i _ => 64 - (intOf i).toNat)
  case atStart => exact ⟨0, by omega, rfl, r03, r13, r53, r63, hb3⟩
  case round =>
    clear r03 r13 r53 r63 hb3 w3
    obtain ⟨k, hk, rfl, r0, r1, r5, r6, hb⟩ := hrel
    by_cases hlt : k < 64
    · have hvl := Lib.hid (Sh.rounds_len h8 (Sh.sched (Sh.bl s) 48) HH.out k)
      have hvw := Sh.rounds_words h8 (Sh.sched (Sh.bl s) 48) hw k
      have HV : Hid (Sh.rounds h8 (Sh.sched (Sh.bl s) 48) (k + 1) = Sh.step (Sh.rounds h8 (Sh.sched (Sh.bl s) 48) k) (Sh.nth Sh.KK k) (Sh.nth (Sh.sched (Sh.bl s) 48) k)) := rfl
      generalize Sh.rounds h8 (Sh.sched (Sh.bl s) 48) k = v at hvl hvw HV r6
      have d0 : (k : Int) < 64 := by omega
      have x0 := hvw 0
      have x1 := hvw 1
      have x2 := hvw 2
      have x3 := hvw 3
      have x4 := hvw 4
      have x5 := hvw 5
      have x6 := hvw 6
      have x7 := hvw 7
      clear hvw
      go_wp2_with fail
      refine region_still (by kernel_rfl) (by kernel_rfl) (fun w2 hw2 => ?_)
      replace r0 := r0.hid hw2
      replace r1 := r1.hid hw2
      replace r5 := r5.hid hw2
      replace r6 := r6.hid hw2
      replace hb := below_hid hb hw2
      clear hw2
      have c0 := r6.cell 0 (by rw [hvl.out]; decide)
      have c1 := r6.cell 1 (by rw [hvl.out]; decide)
      have c2 := r6.cell 2 (by rw [hvl.out]; decide)
      repeat still_step
      refine wpStill_nil ?_
      clear c0 c1 c2
      go_wp2_with fail
      refine region_still (by kernel_rfl) (by kernel_rfl) (fun w3 hw2 => ?_)
      replace r0 := r0.hid hw2
      replace r1 := r1.hid hw2
      replace r5 := r5.hid hw2
      replace r6 := r6.hid hw2
      replace hb := below_hid hb hw2
      clear hw2
      have c4 := r6.cell 4 (by rw [hvl.out]; decide)
      have c5 := r6.cell 5 (by rw [hvl.out]; decide)
      have c6 := r6.cell 6 (by rw [hvl.out]; decide)
      repeat still_step
      refine wpStill_nil ?_
      clear c4 c5 c6
      go_wp2_with fail
      refine region_still (by kernel_rfl) (by kernel_rfl) (fun w4 hw2 => ?_)
      replace r0 := r0.hid hw2
      replace r1 := r1.hid hw2
      replace r5 := r5.hid hw2
      replace r6 := r6.hid hw2
      replace hb := below_hid hb hw2
      clear hw2
      have c7 := r6.cell 7 (by rw [hvl.out]; decide)
      have ck := (G.below hb G.two).rt k hlt
      have cw := r5.cell k (by rw [Sh.sched_len]; omega)
      have e1 := bs1_bits _ x4
      have e2 := ch_bits' _ _ _ x4 x5 x6
      have e3 := tt_wrap v (Sh.nth Sh.KK k) (Sh.nth (Sh.sched (Sh.bl s) 48) k)
      repeat still_step
      still_call (rot_lit _ 6 6 rfl _ x4 (by decide) (by decide))
      repeat still_step
      still_call (rot_lit _ 11 11 rfl _ x4 (by decide) (by decide))
      repeat still_step
      still_call (rot_lit _ 25 25 rfl _ x4 (by decide) (by decide))
      repeat still_step
      refine wpStill_nil ?_
      clear c7 ck cw e1 e2 e3
      have e1 := bs0_bits _ x0
      have e2 := maj_bits _ _ _ x0 x1 x2
      have e3 := uu_mod v
      go_wp2_with (go_at_call 30; refine (rot_int _ _ _ (by omega) (by omega) (by omega)).mono ?_; rintro e w' ⟨rfl, rfl⟩)
      clear e1 e2 e3
      refine region_tail 2 (by kernel_rfl) (by kernel_rfl) (fun w5 hw2 => ?_)
      replace r0 := r0.hid hw2
      replace r1 := r1.hid hw2
      replace r5 := r5.hid hw2
      replace r6 := r6.hid hw2
      replace hb := below_hid hb hw2
      clear hw2
      simp only [List.take_succ_cons, List.take_zero, List.drop_succ_cons, List.drop_zero]
      repeat still_step
      refine wpStill_nil ?_
      refine copy_law rfl (.tmp 83) (.tmp 84) 48 48 rfl 27 Tryd.underlying48 (by kernel_rfl) (w1.heap.size + 1) .u32 28 v rfl rfl r6 hvl.out ?_
      intro w6 hw2
      replace r0 := r0.hidOther hw2 (by omega)
      replace r1 := r1.hidOther hw2 (by omega)
      replace r5 := r5.hidOther hw2 (by omega)
      replace r6 := r6.hidSet hw2
      replace hb := below_hidSet hb hw2 (by omega)
      clear hw2
      have hl8 : (v.take 1 ++ v.take 7).length = 8 := by simp [hvl.out]
      have HL := Lib.hid hl8
      clear hl8
      have c4 := r6.cell 4 (by rw [HL.out]; decide)
      have f4 := r6.frozen 4
      rw [shift_row v hvl.out] at c4
      have c0 := r6.cell 0 (by rw [HL.out]; decide)
      have f0 := r6.frozen 0
      go_wp2
      go_roundw
      case rel =>
        refine ⟨k + 1, by omega, by go_num, (r0.setOther _ (by simp; omega)).setOther _ (by simp; omega), (r1.setOther _ (by simp; omega)).setOther _ (by simp; omega), (r5.setOther _ (by simp)).setOther _ (by simp), ?_, (hb.setCell (by simp; omega) _).setCell (by simp; omega) _⟩
        have q := (r6.set 4 ((Sh.nth v 3 + Sh.tt v (Sh.nth Sh.KK k) (Sh.nth (Sh.sched (Sh.bl s) 48) k)) % 4294967296)).set 0 ((Sh.tt v (Sh.nth Sh.KK k) (Sh.nth (Sh.sched (Sh.bl s) 48) k) + Sh.uu v) % 4294967296)
        rw [step_row v _ _ hvl.out] at q
        rw [mod_int, mod_int] at q
        rw [HV.out]
        exact q
      case measure => simp [intOf]; omega
    · obtain rfl : k = 64 := by omega
      clear hlt hk
      have hvl := Lib.hid (Sh.rounds_len h8 (Sh.sched (Sh.bl s) 48) HH.out 64)
      have HM : Hid (Sh.mixP h8 (Sh.bl s) = Sh.addTo h8 (Sh.rounds h8 (Sh.sched (Sh.bl s) 48) 64) 8) := rfl
      generalize Sh.rounds h8 (Sh.sched (Sh.bl s) 48) 64 = v at hvl HM r6
      go_wp2_with fail
      rw [show ((64 : Nat) : Int) = 64 from rfl]
      go_loopw [96] (fun i wr => ∃ k : Nat, k ≤ 8 ∧ i = .int .i64 k ∧ Row .u32 28 wr w.heap.size (Sh.addTo h8 v k) ∧ Row .u32 28 wr (w.heap.size + 1) (List.replicate 8 0) ∧ Row .u32 28 wr (w1.heap.size + 1) v ∧ Below w.heap.size w wr)
        (fun i _ => 8 - (intOf i).toNat)
      case atStart => exact ⟨0, by omega, rfl, r0, r1, r6, hb⟩
      case round =>
        clear r0 r1 r5 r6 hb
        obtain ⟨k, hk, rfl, r0, r1, r6, hb⟩ := hrel
        by_cases hlt : k < 8
        · have d0 : (k : Int) < 8 := by omega
          go_wp2_with fail
          refine region_tail 8 (by kernel_rfl) (by kernel_rfl) (fun w5 hw2 => ?_)
          replace r0 := r0.hid hw2
          replace r1 := r1.hid hw2
          replace r6 := r6.hid hw2
          replace hb := below_hid hb hw2
          clear hw2
          have c0 := r0.cell k (by rw [Sh.addTo_len, HH.out]; exact hlt)
          rw [Sh.addTo_nth h8 v k k (Nat.le_refl _) (by rw [HH.out]; omega)] at c0
          have f0 := r0.frozen k
          have c6 := r6.cell k (by rw [hvl.out]; exact hlt)
          simp only [List.take_succ_cons, List.take_zero, List.drop_succ_cons, List.drop_zero]
          repeat still_step
          refine wpStill_nil ?_
          go_wp2
          go_roundw
          case rel =>
            refine ⟨k + 1, by omega, by go_num, ?_, r1.setOther _ (by simp), r6.setOther _ (by simp; omega), hb.setCell (by simp) _⟩
            have q := r0.set k ((Sh.nth h8 k + Sh.nth v k) % 4294967296)
            rw [mod_int] at q
            exact q
          case measure => simp [intOf]; omega
        · obtain rfl : k = 8 := by omega
          clear hlt hk
          have hz28 := Lib.hid (show (Tryd.prog.info? 28).map (·.size) = some (Sh.addTo h8 v 8).length by rw [Sh.addTo_len]; exact HZ8.out)
          go_wp2_with (first
            | (refine load_law rfl 28 _ rfl w.heap.size .u32 _ rfl 28 _ r0 Tryd.underlying28 rfl hz28.out ?_)
            | (refine store_law rfl 28 _ _ rfl (w.heap.size + 1) .u32 (List.replicate 8 0) (Sh.addTo h8 v 8) rfl rfl 28 r1 (by rw [Sh.addTo_len, HH.out]; simp) hz28.out ?_; intro w7 hw7))
          refine bodyPost_ret (v := .agg (vs .u32 (Sh.mixP h8 (Sh.bl s)))) ?_ rfl ⟨rfl, below_hidSet hb hw7 (by omega)⟩
          rw [HM.out]
          exact results_row rfl _ _ (w.heap.size + 1) .u32 28 _ _ rfl (r1.hidSet hw7) Tryd.underlying28 rfl hz28.out
end Go.Proofs.YtalknjokamfggaaDoor
