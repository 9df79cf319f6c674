/- The document's Make. -/
import Derived.Test.YthmlibapjhmdbaaW16
namespace Go.Proofs.Ythmlibapjhmdbaa
open Go.RowKit Go.Shelf

/-- A word, bit by bit, the highest first. -/
def acc (f : Nat → Bool) : Nat → Nat
  | 0 => 0
  | i + 1 => acc f i * 2 + (if f (63 - i) then 1 else 0)
theorem acc_lt (f : Nat → Bool) : ∀ i, acc f i < 2 ^ i
  | 0 => by simp [acc]
  | i + 1 => by
    have := acc_lt f i
    unfold acc
    rw [Nat.pow_succ]
    split <;> omega
theorem acc_bit (f : Nat → Bool) : ∀ i j, i ≤ 64 → (acc f i).testBit j = (decide (j < i) && f (64 - i + j))
  | 0, j, _ => by simp [acc]
  | i + 1, 0, h => by
    unfold acc
    rw [Nat.testBit_zero, show 64 - (i + 1) + 0 = 63 - i by omega]
    cases f (63 - i) <;> simp <;> omega
  | i + 1, j + 1, h => by
    have ih := acc_bit f i j (by omega)
    unfold acc
    rw [Nat.testBit_succ, show 64 - (i + 1) + (j + 1) = 64 - i + j by omega]
    have : (acc f i * 2 + if f (63 - i) = true then 1 else 0) / 2 = acc f i := by split <;> omega
    rw [this, ih]
    congr 1
    simp
/-- The words of a list's cores. -/
def wd (xs : List Nat) (k : Nat) : Nat := acc (fun j => decide (64 * k + j ∈ xs)) 64
theorem wd_lt (xs : List Nat) (k : Nat) : wd xs k < 2 ^ 64 := acc_lt _ 64
theorem wds_W4 (xs : List Nat) : Mk.W4 [wd xs 0, wd xs 1, wd xs 2, wd xs 3] := by
  refine ⟨rfl, fun i => ?_⟩
  match i with
  | 0 => exact wd_lt xs 0
  | 1 => exact wd_lt xs 1
  | 2 => exact wd_lt xs 2
  | 3 => exact wd_lt xs 3
  | n + 4 => simp [Mk.nth]
theorem wds_has (xs : List Nat) (c : Nat) (hc : c < 256) : Mk.hasB [wd xs 0, wd xs 1, wd xs 2, wd xs 3] c = decide (c ∈ xs) := by
  unfold Mk.hasB
  have hk : c / 64 < 4 := by omega
  have e : Mk.nth [wd xs 0, wd xs 1, wd xs 2, wd xs 3] (c / 64) = wd xs (c / 64) := by
    generalize c / 64 = k at hk ⊢
    match k, hk with
    | 0, _ | 1, _ | 2, _ | 3, _ => rfl
  rw [e, wd, acc_bit _ 64 _ (Nat.le_refl _), show 64 * (c / 64) + (64 - 64 + c % 64) = c by omega]
  have : c % 64 < 64 := by omega
  simp [this]
theorem wds_ofL {xs : List Nat} (h : ∀ x ∈ xs, x < 256) : [wd xs 0, wd xs 1, wd xs 2, wd xs 3] = Mk.ofL xs :=
  Mk.ext (wds_W4 xs) (Mk.ofL_W4 h) fun c hc => by rw [wds_has xs c hc, Mk.has_ofL h]

/-- The first k words. -/
def wds (xs : List Nat) (k : Nat) : List Nat := [if 0 < k then wd xs 0 else 0, if 1 < k then wd xs 1 else 0, if 2 < k then wd xs 2 else 0, if 3 < k then wd xs 3 else 0]
theorem wds_set (xs : List Nat) (k : Nat) (hk : k < 4) : (wds xs k).set k (wd xs k) = wds xs (k + 1) := by
  match k, hk with
  | 0, _ | 1, _ | 2, _ | 3, _ => rfl
theorem wds_done (xs : List Nat) : wds xs 4 = [wd xs 0, wd xs 1, wd xs 2, wd xs 3] := rfl

theorem info40 {l : List Nat} (h : l.length = 4) : (Try.prog.info? 35).map (·.size) = some l.length := by rw [h]; kernel_rfl

set_option maxRecDepth 100000 in
set_option maxHeartbeats 1000000 in
theorem make_any (A : Option Addr) (cap n : Nat) (xs : List Nat) (w : World) (hA : NatsAt w w.heap.size A xs) (hn : xs.length = n) (hl : n ≤ 65536) :
    Calls Try.prog 54 #[.slice A n cap] w fun e w' => e = .returned (.agg (vs .u64 [wd xs 0, wd xs 1, wd xs 2, wd xs 3])) ∧ Below w.heap.size w w' := by
  have HN := Lib.hid hn
  clear hn
  go_enter Try.func54, Try.ntmps54
  go_wp2_with fail
  go_loopw [4] (fun i wr => ∃ k : Nat, k ≤ 4 ∧ i = .int .i64 k ∧ Row .u64 35 wr w.heap.size Mk.zero ∧ Row .u64 35 wr (w.heap.size + 1) (wds xs k) ∧ Below w.heap.size w wr)
    (fun i _ => 4 - (intOf i).toNat)
  case atStart =>
    refine ⟨0, by omega, rfl, (Row.new w .u64 35 Mk.zero _ rfl).alloc _, ?_, ((Below.refl _ _).alloc (Nat.le_refl _) _).alloc (by simp) _⟩
    have := Row.new (w.alloc (.cells (vs .u64 Mk.zero) 35)) .u64 35 Mk.zero _ rfl
    rw [size_alloc] at this
    exact this
  case round =>
    obtain ⟨k, hk, rfl, r0, r1, hb⟩ := hrel
    by_cases hlt : k < 4
    · have hAr := (hA.below hb).more hb.size
      have hd4 : decide ((k : Int) < 4) = true := by simp; omega
      go_wp2_with fail
      obtain ⟨Wk, hWk⟩ : ∃ Wk, Wk = wr := ⟨_, rfl⟩
      subst hWk
      go_loop [5, 6] (fun a i => ∃ j : Nat, j ≤ 64 ∧ i = .int .i64 (63 - (j : Int)) ∧ a = .int .u64 (acc (fun t => decide (64 * k + t ∈ xs)) j : Nat)) (fun _ i => (intOf i + 1).toNat)
      case atStart => exact ⟨0, by omega, rfl, rfl⟩
      case round =>
        obtain ⟨j, hj, rfl, rfl⟩ := hrel
        by_cases hlt2 : j < 64
        · have hac := acc_lt (fun t => decide (64 * k + t ∈ xs)) j
          have hp : (2 : Nat) ^ j ≤ 2 ^ 63 := Nat.pow_le_pow_right (by decide) (by omega)
          have HS : Hid (acc (fun t => decide (64 * k + t ∈ xs)) (j + 1) = acc (fun t => decide (64 * k + t ∈ xs)) j * 2 + (if decide (64 * k + (63 - j) ∈ xs) then 1 else 0)) := rfl
          have hac2 : acc (fun t => decide (64 * k + t ∈ xs)) j * 2 < 18446744073709551616 - 1 := by omega
          clear hac hp
          generalize acc (fun t => decide (64 * k + t ∈ xs)) j = v at *
          have e1 : IntKind.u64.wrap ((v : Int) * 2) = (v : Int) * 2 := by rw [IntKind.wrap_u64]; omega
          have e2 : IntKind.u64.wrap ((v : Int) * 2 + 1) = (v : Int) * 2 + 1 := by rw [IntKind.wrap_u64]; omega
          clear hac2
          have hin := Lib.hid (in_any A cap n (64 * k + (63 - j)) xs Wk hAr HN.out hl)
          have hcst : (64 * (k : Int) + (63 - (j : Int))) = 64 * (k : Int) + ((63 - j : Nat) : Int) := by omega
          have HC : Hid (64 * (k : Int) + ((63 - j : Nat) : Int) = ((64 * k + (63 - j) : Nat) : Int)) := by show _ = _; simp
          go_wp2_with fail
          rw [HC.out]
          refine hin.out.mono ?_
          rintro e w5 ⟨rfl, rfl⟩
          clear hcst
          by_cases hm : 64 * k + (63 - j) ∈ xs
          · have HD : Hid (decide (64 * k + (63 - j) ∈ xs) = true) := by show _ = _; simpa using hm
            rw [HD.out]
            clear hm
            go_wp2_with fail
            go_round
            case rel => exact ⟨j + 1, by omega, by go_num, by rw [HS.out, HD.out]; go_num⟩
            case measure => simp [intOf]; omega
          · have HD : Hid (decide (64 * k + (63 - j) ∈ xs) = false) := by show _ = _; simpa using hm
            rw [HD.out]
            clear hm
            go_wp2_with fail
            go_round
            case rel => exact ⟨j + 1, by omega, by go_num, by rw [HS.out, HD.out]; go_num⟩
            case measure => simp [intOf]; omega
        · obtain rfl : j = 64 := by omega
          have HW : Hid (acc (fun t => decide (64 * k + t ∈ xs)) 64 = wd xs k) := rfl
          rw [HW.out]
          have c0 := r1.cell k (show k < 4 from hlt)
          have f0 := r1.frozen k
          have HX := Lib.hid (wds_set xs k hlt)
          have i0 : (0 : Int) ≤ (k : Int) := by omega
          have i1 : (k : Int) < 4 := by omega
          go_wp2_with fail
          go_roundw
          case rel =>
            refine ⟨k + 1, by omega, by go_num, r0.setOther _ (by simp), ?_, hb.setCell (by simp) _⟩
            have h9 := r1.set k (wd xs k)
            rw [HX.out] at h9
            exact h9
          case measure => simp [intOf]; omega
    · obtain rfl : k = 4 := by omega
      rw [wds_done] at r1
      have hz := Lib.hid (info40 (wds_W4 xs).1)
      have hlen := Lib.hid (zero_len (wds_W4 xs))
      go_wp2_with (first | (refine load_w rfl 35 _ rfl (w.heap.size + 1) .u64 [wd xs 0, wd xs 1, wd xs 2, wd xs 3] rfl 35 _ r1 Try.underlying35 rfl hz.out ?_) | (refine store_law rfl 35 _ _ rfl w.heap.size .u64 Mk.zero [wd xs 0, wd xs 1, wd xs 2, wd xs 3] rfl rfl 35 r0 hlen.out hz.out ?_; intro w7 hw7))
      exact bodyPost_ret (results_row rfl _ _ w.heap.size .u64 35 _ _ rfl (r0.hidSet hw7) Try.underlying35 rfl hz.out) rfl ⟨rfl, below_hidSet hb hw7 (by omega)⟩
end Go.Proofs.Ythmlibapjhmdbaa
