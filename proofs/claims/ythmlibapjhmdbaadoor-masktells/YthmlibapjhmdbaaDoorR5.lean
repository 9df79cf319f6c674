/- The document's Of. -/
import Derived.Test.YthmlibapjhmdbaaDoorR4
namespace Go.Proofs.YthmlibapjhmdbaaDoor
open Go.RowKit Go.Shelf

theorem in_below (A : Option Addr) (cap n x : Nat) (xs : List Nat) (w : World) (hA : NatsAt w w.heap.size A xs) (hn : xs.length = n) (hl : n ≤ 65536) :
    Calls Tryd.prog 36 #[.slice A n cap, .int .i64 x] w fun e w' => e = .returned (.bool (decide (x ∈ xs))) ∧ Below w.heap.size w w' :=
  (in_any A cap n x xs w hA hn hl).mono fun e w' h => ⟨h.1, by rw [← h.2]; exact Below.refl _ _⟩

set_option maxRecDepth 100000 in
set_option maxHeartbeats 1000000 in
theorem rOf_ok (A : Option Addr) (cap n : Nat) (xs : List Nat) (w : World) (hA : NatsAt w w.heap.size A xs) (hx : ∀ x ∈ xs, x < 256) (hn : xs.Nodup) (hxn : xs.length = n) (hl : n ≤ 300) (hcap : n ≤ cap) :
    Calls Tryd.prog 12 #[.slice A n cap] w fun e w' => e = .returned (.tuple #[.agg (vs .u64 (Mk.ofL xs)), .int .i64 0]) ∧ Below w.heap.size w w' := by
  have HX := Lib.hid hx
  have HN := Lib.hid hn
  have HL := Lib.hid hxn
  have HE := Lib.hid (wds_ofL hx)
  have HW := Lib.hid (Mk.ofL_W4 hx)
  clear hx hn hxn
  have hz := Lib.hid (info40 HW.out.1)
  have hl4 := Lib.hid (zero_len HW.out)
  go_enter Tryd.func12, Tryd.ntmps12
  go_wp2_with fail
  go_loopw [4] (fun i wr => ∃ k : Nat, k ≤ n ∧ i = .int .i64 k ∧ Row .u64 24 wr w.heap.size Mk.zero ∧ Below w.heap.size w wr)
    (fun i _ => n - (intOf i).toNat)
  case atStart => exact ⟨0, by omega, rfl, Row.new w .u64 24 Mk.zero _ rfl, (Below.refl _ _).alloc (Nat.le_refl _) _⟩
  case round =>
    obtain ⟨k, hk, rfl, r0, hb⟩ := hrel
    by_cases hlt : k < n
    · have hk2 : k < xs.length := by rw [HL.out]; exact hlt
      have hA2 := (hA.below hb).more hb.size
      obtain ⟨ad, rfl, hblk, hcell⟩ := hA2.at_ hk2
      have hc := HX.out _ (nth_mem xs k hk2)
      have HM : Hid (decide (Mk.nth xs k ∈ xs.take k) = false) := by
        show _ = _
        simpa using nodup_take xs k hk2 HN.out
      have SM := Lib.hid (fun i : In wr.heap.size wr => in_below (some ad) cap k (Mk.nth xs k) (xs.take k) i.val (natsIn (nats_take hA2 k) i) (by rw [List.length_take, HL.out]; omega) (by omega))
      rw [HM.out] at SM
      have C0 := In.cell (B := wr.heap.size) (by rw [block_add]; exact hblk) hcell
      clear hk2 hcell hA2
      generalize Mk.nth xs k = c at *
      have t0 : decide ((c : Int) < 0) = false := by simp
      have t1 : decide ((255 : Int) < (c : Int)) = false := by simp; omega
      have i1 : (k : Int) < (n : Int) := by omega
      have i2 : (k : Int) ≤ (cap : Int) := by omega
      have hIn := inNonempty wr.heap.size wr
      go_wp2_with fail
      refine region_in wr.heap.size (by kernel_rfl) (by kernel_rfl) ?_
      repeat (go_big_quiet_step (first | (go_at_call 36; with_reducible exact Calls.in_of (Nat.le_refl _) (SM.out _))))
      refine wpQuiet_nil ?_
      intro w6 hb6
      clear C0
      go_wp2_with fail
      go_roundw
      case rel => exact ⟨k + 1, by omega, by go_num, r0.next hb6, bmore hb hb6⟩
      case measure => simp [intOf]; omega
    · obtain rfl : k = n := by omega
      have hA2 := (hA.below hb).more hb.size
      go_wp2_with fail
      refine (make_any A cap k xs _ hA2 HL.out (by omega)).mono ?_
      rintro e w2 ⟨rfl, hb2⟩
      rw [HE.out]
      replace r0 := r0.next hb2
      replace hb := bmore hb hb2
      go_wp2_with (refine store_law rfl 24 _ _ rfl w.heap.size .u64 Mk.zero (Mk.ofL xs) rfl rfl 24 r0 hl4.out hz.out ?_; intro w7 hw7)
      exact bodyPost_ret (results_row_tmp rfl _ _ w.heap.size .u64 24 _ _ rfl (r0.hidSet hw7) Tryd.underlying24 rfl hz.out) rfl ⟨rfl, below_hidSet hb hw7 (by omega)⟩

set_option maxRecDepth 100000 in
set_option maxHeartbeats 1000000 in
theorem rOf_bad (ad : Addr) (cap p n : Nat) (z : Int) (xs : List Nat) (w : World) (hA : NatsAt w w.heap.size (some ad) xs) (hb0 : ad.block < w.heap.size) (hz0 : w.cell? (ad.add p) = some (.int .i64 z)) (hx : ∀ x ∈ xs, x < 256) (hn : xs.Nodup) (hl : n ≤ 300) (hcap : n ≤ cap) (hpn : p < n) (hxp : xs.length = p)
    (hd : z < 0 ∨ 256 ≤ z ∨ ∃ c : Nat, z = c ∧ c < 256 ∧ c ∈ xs) :
    Calls Tryd.prog 12 #[.slice (some ad) n cap] w fun e w' => e = .returned (.tuple #[.agg (vs .u64 Mk.zero), .int .i64 1]) ∧ Below w.heap.size w w' := by
  have HX := Lib.hid hx
  have HN := Lib.hid hn
  have HL := Lib.hid hxp
  have HD := Lib.hid hd
  clear hx hn hxp hd
  have hz := Lib.hid (info40 Mk.W4.zero.1)
  go_enter Tryd.func12, Tryd.ntmps12
  go_wp2_with fail
  go_loopw [4] (fun i wr => ∃ k : Nat, k ≤ p ∧ i = .int .i64 k ∧ Row .u64 24 wr w.heap.size Mk.zero ∧ Below w.heap.size w wr)
    (fun i _ => p - (intOf i).toNat)
  case atStart => exact ⟨0, by omega, rfl, Row.new w .u64 24 Mk.zero _ rfl, (Below.refl _ _).alloc (Nat.le_refl _) _⟩
  case round =>
    obtain ⟨k, hk, rfl, r0, hb⟩ := hrel
    have hA2 := (hA.below hb).more hb.size
    have i1 : (k : Int) < (n : Int) := by omega
    have i2 : (k : Int) ≤ (cap : Int) := by omega
    have hIn := inNonempty wr.heap.size wr
    by_cases hlt : k < p
    · have hk2 : k < xs.length := by rw [HL.out]; exact hlt
      obtain ⟨ad', e', hblk, hcell⟩ := hA2.at_ hk2
      cases e'
      have hc := HX.out _ (nth_mem xs k hk2)
      have HM : Hid (decide (Mk.nth xs k ∈ xs.take k) = false) := by
        show _ = _
        simpa using nodup_take xs k hk2 HN.out
      have SM := Lib.hid (fun i : In wr.heap.size wr => in_below (some ad) cap k (Mk.nth xs k) (xs.take k) i.val (natsIn (nats_take hA2 k) i) (by rw [List.length_take, HL.out]; omega) (by omega))
      rw [HM.out] at SM
      have C0 := In.cell (B := wr.heap.size) (by rw [block_add]; exact hblk) hcell
      clear hk2 hcell hA2
      generalize Mk.nth xs k = c at *
      have t0 : decide ((c : Int) < 0) = false := by simp
      have t1 : decide ((255 : Int) < (c : Int)) = false := by simp; omega
      go_wp2_with fail
      refine region_in wr.heap.size (by kernel_rfl) (by kernel_rfl) ?_
      repeat (go_big_quiet_step (first | (go_at_call 36; with_reducible exact Calls.in_of (Nat.le_refl _) (SM.out _))))
      refine wpQuiet_nil ?_
      intro w6 hb6
      clear C0
      go_wp2_with fail
      go_roundw
      case rel => exact ⟨k + 1, by omega, by go_num, r0.next hb6, bmore hb hb6⟩
      case measure => simp [intOf]; omega
    · obtain rfl : k = p := by omega
      have hcell : wr.cell? (ad.add k) = some (.int .i64 z) := (hb.cell (by rw [block_add]; exact hb0)).trans hz0
      have C0 := In.cell (B := wr.heap.size) (by rw [block_add]; have := hb.size; omega) hcell
      rcases HD.out with h0 | h0 | ⟨c, rfl, hc, hm⟩
      · have t0 : decide (z < 0) = true := by simpa using h0
        clear hcell hA2 HD
        go_wp2_with fail
        refine region_in wr.heap.size (by kernel_rfl) (by kernel_rfl) ?_
        repeat (go_big_quiet_step (fail))
        refine wpQuiet_nil ?_
        intro w6 hb6
        clear C0
        replace r0 := r0.next hb6; replace hb := bmore hb hb6
        go_wp2_with (refine store_law rfl 24 _ _ rfl w.heap.size .u64 Mk.zero Mk.zero rfl rfl 24 r0 rfl hz.out ?_; intro w7 hw7)
        exact bodyPost_ret (results_row_tmp rfl _ _ w.heap.size .u64 24 _ _ rfl (r0.hidSet hw7) Tryd.underlying24 rfl hz.out) rfl ⟨rfl, below_hidSet hb hw7 (by omega)⟩
      · have t0 : decide (z < 0) = false := by simp; omega
        have t1 : decide ((255 : Int) < z) = true := by simp; omega
        clear hcell hA2 HD
        go_wp2_with fail
        refine region_in wr.heap.size (by kernel_rfl) (by kernel_rfl) ?_
        repeat (go_big_quiet_step (fail))
        refine wpQuiet_nil ?_
        intro w6 hb6
        clear C0
        replace r0 := r0.next hb6; replace hb := bmore hb hb6
        go_wp2_with (refine store_law rfl 24 _ _ rfl w.heap.size .u64 Mk.zero Mk.zero rfl rfl 24 r0 rfl hz.out ?_; intro w7 hw7)
        exact bodyPost_ret (results_row_tmp rfl _ _ w.heap.size .u64 24 _ _ rfl (r0.hidSet hw7) Tryd.underlying24 rfl hz.out) rfl ⟨rfl, below_hidSet hb hw7 (by omega)⟩
      · have SM := Lib.hid (fun i : In wr.heap.size wr => in_below (some ad) cap k c xs i.val (natsIn hA2 i) HL.out (by omega))
        rw [decide_eq_true hm] at SM
        have t0 : decide ((c : Int) < 0) = false := by simp
        have t1 : decide ((255 : Int) < (c : Int)) = false := by simp; omega
        clear hcell hA2 HD hm
        go_wp2_with fail
        refine region_in wr.heap.size (by kernel_rfl) (by kernel_rfl) ?_
        repeat (go_big_quiet_step (first | (go_at_call 36; with_reducible exact Calls.in_of (Nat.le_refl _) (SM.out _))))
        refine wpQuiet_nil ?_
        intro w6 hb6
        clear C0
        replace r0 := r0.next hb6; replace hb := bmore hb hb6
        go_wp2_with (refine store_law rfl 24 _ _ rfl w.heap.size .u64 Mk.zero Mk.zero rfl rfl 24 r0 rfl hz.out ?_; intro w7 hw7)
        exact bodyPost_ret (results_row_tmp rfl _ _ w.heap.size .u64 24 _ _ rfl (r0.hidSet hw7) Tryd.underlying24 rfl hz.out) rfl ⟨rfl, below_hidSet hb hw7 (by omega)⟩
end Go.Proofs.YthmlibapjhmdbaaDoor
