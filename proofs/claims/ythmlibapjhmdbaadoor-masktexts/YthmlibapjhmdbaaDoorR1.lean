/- The document's in, Make, All, Has. -/
import Derived.Test.YthmlibapjhmdbaaDoorPl
import Derived.Deep.AppendLies
namespace Go.Proofs.YthmlibapjhmdbaaDoor
open Go.RowKit Go.Shelf

theorem range_lt {n : Nat} (h : n ≤ 256) : ∀ x ∈ List.range n, x < 256 := fun x hx => by rw [List.mem_range] at hx; omega
theorem range_W4 {n : Nat} (h : n ≤ 256) : Mk.W4 (Mk.ofL (List.range n)) := Mk.ofL_W4 (range_lt h)
set_option maxRecDepth 100000 in
set_option maxHeartbeats 400000 in
theorem in_any (A : Option Addr) (cap n x : Nat) (xs : List Nat) (w : World) (hA : NatsAt w w.heap.size A xs) (hn : xs.length = n) (hl : n ≤ 65536) :
    Calls Tryd.prog 36 #[.slice A n cap, .int .i64 x] w fun e w' => e = .returned (.bool (decide (x ∈ xs))) ∧ w = w' := by
  have HN := Lib.hid hn
  clear hn
  go_enter Tryd.func36, Tryd.ntmps36
  go_wp2_with fail
  go_loop [5] (fun i => ∃ k : Nat, k ≤ n ∧ i = .int .i64 k ∧ Hid (x ∉ xs.take k)) (fun i => n - (intOf i).toNat)
  case atStart => exact ⟨0, Nat.zero_le _, rfl, Lib.hid (by simp)⟩
  case round =>
    obtain ⟨k, hk, rfl, hx⟩ := hrel
    by_cases hlt : k < n
    · obtain ⟨ad, rfl, _, hc⟩ := hA.at_ (k := k) (by rw [HN.out]; exact hlt)
      have hkl : k < xs.length := by rw [HN.out]; exact hlt
      have HT := Lib.hid (take_snoc xs k hkl)
      have HM := Lib.hid (nth_mem xs k hkl)
      clear hkl
      generalize Mk.nth xs k = y at *
      by_cases hy : y = x
      · subst hy
        have HD : Hid (decide (y ∈ xs) = true) := by show _ = _; simpa using HM.out
        go_wp2_with fail
        go_ret
        exact ⟨by rw [HD.out]; rfl, rfl⟩
      · have e1 : ((y : Int) == (x : Int)) = false := by rw [beq_eq_false_iff_ne]; omega
        have e2 : (y == x) = false := by simpa using hy
        clear hy
        go_wp2_with fail
        go_round
        case rel =>
          refine ⟨k + 1, by omega, by go_num, Lib.hid ?_⟩
          rw [HT.out, List.mem_append]
          rintro (h | h)
          · exact hx.out h
          · rw [List.mem_singleton] at h; subst h; simp at e2
        case measure => simp [intOf]; omega
    · obtain rfl : k = n := by omega
      have HD : Hid (decide (x ∈ xs) = false) := by
        show _ = _
        have := hx.out
        rw [List.take_of_length_le (by rw [HN.out]; exact Nat.le_refl _)] at this
        simpa using this
      go_wp2_with fail
      go_ret
      exact ⟨by rw [HD.out]; rfl, rfl⟩


/-- A word, bit by bit, the highest first. -/
def acc (f : Nat → Bool) : Nat → Nat
  | 0 => 0
  | i + 1 => acc f i * 2 + (if f (63 - i) then 1 else 0)
theorem acc_lt (f : Nat → Bool) : ∀ i, acc f i < 2 ^ i
  | 0 => by simp [acc]
  | i + 1 => by
    have := acc_lt f i
    unfold acc
    rw [Nat.pow_succ]
    split <;> omega
theorem acc_bit (f : Nat → Bool) : ∀ i j, i ≤ 64 → (acc f i).testBit j = (decide (j < i) && f (64 - i + j))
  | 0, j, _ => by simp [acc]
  | i + 1, 0, h => by
    unfold acc
    rw [Nat.testBit_zero, show 64 - (i + 1) + 0 = 63 - i by omega]
    cases f (63 - i) <;> simp <;> omega
  | i + 1, j + 1, h => by
    have ih := acc_bit f i j (by omega)
    unfold acc
    rw [Nat.testBit_succ, show 64 - (i + 1) + (j + 1) = 64 - i + j by omega]
    have : (acc f i * 2 + if f (63 - i) = true then 1 else 0) / 2 = acc f i := by split <;> omega
    rw [this, ih]
    congr 1
    simp
/-- The words of a list's cores. -/
def wd (xs : List Nat) (k : Nat) : Nat := acc (fun j => decide (64 * k + j ∈ xs)) 64
theorem wd_lt (xs : List Nat) (k : Nat) : wd xs k < 2 ^ 64 := acc_lt _ 64
theorem wds_W4 (xs : List Nat) : Mk.W4 [wd xs 0, wd xs 1, wd xs 2, wd xs 3] := by
  refine ⟨rfl, fun i => ?_⟩
  match i with
  | 0 => exact wd_lt xs 0
  | 1 => exact wd_lt xs 1
  | 2 => exact wd_lt xs 2
  | 3 => exact wd_lt xs 3
  | n + 4 => simp [Mk.nth]
theorem wds_has (xs : List Nat) (c : Nat) (hc : c < 256) : Mk.hasB [wd xs 0, wd xs 1, wd xs 2, wd xs 3] c = decide (c ∈ xs) := by
  unfold Mk.hasB
  have hk : c / 64 < 4 := by omega
  have e : Mk.nth [wd xs 0, wd xs 1, wd xs 2, wd xs 3] (c / 64) = wd xs (c / 64) := by
    generalize c / 64 = k at hk ⊢
    match k, hk with
    | 0, _ | 1, _ | 2, _ | 3, _ => rfl
  rw [e, wd, acc_bit _ 64 _ (Nat.le_refl _), show 64 * (c / 64) + (64 - 64 + c % 64) = c by omega]
  have : c % 64 < 64 := by omega
  simp [this]
theorem wds_ofL {xs : List Nat} (h : ∀ x ∈ xs, x < 256) : [wd xs 0, wd xs 1, wd xs 2, wd xs 3] = Mk.ofL xs :=
  Mk.ext (wds_W4 xs) (Mk.ofL_W4 h) fun c hc => by rw [wds_has xs c hc, Mk.has_ofL h]

/-- The first k words. -/
def wds (xs : List Nat) (k : Nat) : List Nat := [if 0 < k then wd xs 0 else 0, if 1 < k then wd xs 1 else 0, if 2 < k then wd xs 2 else 0, if 3 < k then wd xs 3 else 0]
theorem wds_set (xs : List Nat) (k : Nat) (hk : k < 4) : (wds xs k).set k (wd xs k) = wds xs (k + 1) := by
  match k, hk with
  | 0, _ | 1, _ | 2, _ | 3, _ => rfl
theorem wds_done (xs : List Nat) : wds xs 4 = [wd xs 0, wd xs 1, wd xs 2, wd xs 3] := rfl

theorem info40 {l : List Nat} (h : l.length = 4) : (Tryd.prog.info? 24).map (·.size) = some l.length := by rw [h]; kernel_rfl

set_option maxRecDepth 100000 in
set_option maxHeartbeats 1000000 in
theorem make_any (A : Option Addr) (cap n : Nat) (xs : List Nat) (w : World) (hA : NatsAt w w.heap.size A xs) (hn : xs.length = n) (hl : n ≤ 65536) :
    Calls Tryd.prog 37 #[.slice A n cap] w fun e w' => e = .returned (.agg (vs .u64 [wd xs 0, wd xs 1, wd xs 2, wd xs 3])) ∧ Below w.heap.size w w' := by
  have HN := Lib.hid hn
  clear hn
  go_enter Tryd.func37, Tryd.ntmps37
  go_wp2_with fail
  go_loopw [4] (fun i wr => ∃ k : Nat, k ≤ 4 ∧ i = .int .i64 k ∧ Row .u64 24 wr w.heap.size Mk.zero ∧ Row .u64 24 wr (w.heap.size + 1) (wds xs k) ∧ Below w.heap.size w wr)
    (fun i _ => 4 - (intOf i).toNat)
  case atStart =>
    refine ⟨0, by omega, rfl, (Row.new w .u64 24 Mk.zero _ rfl).alloc _, ?_, ((Below.refl _ _).alloc (Nat.le_refl _) _).alloc (by simp) _⟩
    have := Row.new (w.alloc (.cells (vs .u64 Mk.zero) 24)) .u64 24 Mk.zero _ rfl
    rw [size_alloc] at this
    exact this
  case round =>
    obtain ⟨k, hk, rfl, r0, r1, hb⟩ := hrel
    by_cases hlt : k < 4
    · have hAr := (hA.below hb).more hb.size
      have hd4 : decide ((k : Int) < 4) = true := by simp; omega
      go_wp2_with fail
      obtain ⟨Wk, hWk⟩ : ∃ Wk, Wk = wr := ⟨_, rfl⟩
      subst hWk
      go_loop [5, 6] (fun a i => ∃ j : Nat, j ≤ 64 ∧ i = .int .i64 (63 - (j : Int)) ∧ a = .int .u64 (acc (fun t => decide (64 * k + t ∈ xs)) j : Nat)) (fun _ i => (intOf i + 1).toNat)
      case atStart => exact ⟨0, by omega, rfl, rfl⟩
      case round =>
        obtain ⟨j, hj, rfl, rfl⟩ := hrel
        by_cases hlt2 : j < 64
        · have hac := acc_lt (fun t => decide (64 * k + t ∈ xs)) j
          have hp : (2 : Nat) ^ j ≤ 2 ^ 63 := Nat.pow_le_pow_right (by decide) (by omega)
          have HS : Hid (acc (fun t => decide (64 * k + t ∈ xs)) (j + 1) = acc (fun t => decide (64 * k + t ∈ xs)) j * 2 + (if decide (64 * k + (63 - j) ∈ xs) then 1 else 0)) := rfl
          have hac2 : acc (fun t => decide (64 * k + t ∈ xs)) j * 2 < 18446744073709551616 - 1 := by omega
          clear hac hp
          generalize acc (fun t => decide (64 * k + t ∈ xs)) j = v at *
          have e1 : IntKind.u64.wrap ((v : Int) * 2) = (v : Int) * 2 := by rw [IntKind.wrap_u64]; omega
          have e2 : IntKind.u64.wrap ((v : Int) * 2 + 1) = (v : Int) * 2 + 1 := by rw [IntKind.wrap_u64]; omega
          clear hac2
          have hin := Lib.hid (in_any A cap n (64 * k + (63 - j)) xs Wk hAr HN.out hl)
          have hcst : (64 * (k : Int) + (63 - (j : Int))) = 64 * (k : Int) + ((63 - j : Nat) : Int) := by omega
          have HC : Hid (64 * (k : Int) + ((63 - j : Nat) : Int) = ((64 * k + (63 - j) : Nat) : Int)) := by show _ = _; simp
          go_wp2_with fail
          rw [HC.out]
          refine hin.out.mono ?_
          rintro e w5 ⟨rfl, rfl⟩
          clear hcst
          by_cases hm : 64 * k + (63 - j) ∈ xs
          · have HD : Hid (decide (64 * k + (63 - j) ∈ xs) = true) := by show _ = _; simpa using hm
            rw [HD.out]
            clear hm
            go_wp2_with fail
            go_round
            case rel => exact ⟨j + 1, by omega, by go_num, by rw [HS.out, HD.out]; go_num⟩
            case measure => simp [intOf]; omega
          · have HD : Hid (decide (64 * k + (63 - j) ∈ xs) = false) := by show _ = _; simpa using hm
            rw [HD.out]
            clear hm
            go_wp2_with fail
            go_round
            case rel => exact ⟨j + 1, by omega, by go_num, by rw [HS.out, HD.out]; go_num⟩
            case measure => simp [intOf]; omega
        · obtain rfl : j = 64 := by omega
          have HW : Hid (acc (fun t => decide (64 * k + t ∈ xs)) 64 = wd xs k) := rfl
          rw [HW.out]
          have c0 := r1.cell k (show k < 4 from hlt)
          have f0 := r1.frozen k
          have HX := Lib.hid (wds_set xs k hlt)
          have i0 : (0 : Int) ≤ (k : Int) := by omega
          have i1 : (k : Int) < 4 := by omega
          go_wp2_with fail
          go_roundw
          case rel =>
            refine ⟨k + 1, by omega, by go_num, r0.setOther _ (by simp), ?_, hb.setCell (by simp) _⟩
            have h9 := r1.set k (wd xs k)
            rw [HX.out] at h9
            exact h9
          case measure => simp [intOf]; omega
    · obtain rfl : k = 4 := by omega
      rw [wds_done] at r1
      have hz := Lib.hid (info40 (wds_W4 xs).1)
      have hlen := Lib.hid (zero_len (wds_W4 xs))
      go_wp2_with (first | (refine load_w rfl 24 _ rfl (w.heap.size + 1) .u64 [wd xs 0, wd xs 1, wd xs 2, wd xs 3] rfl 24 _ r1 Tryd.underlying24 rfl hz.out ?_) | (refine store_law rfl 24 _ _ rfl w.heap.size .u64 Mk.zero [wd xs 0, wd xs 1, wd xs 2, wd xs 3] rfl rfl 24 r0 hlen.out hz.out ?_; intro w7 hw7))
      exact bodyPost_ret (results_row rfl _ _ w.heap.size .u64 24 _ _ rfl (r0.hidSet hw7) Tryd.underlying24 rfl hz.out) rfl ⟨rfl, below_hidSet hb hw7 (by omega)⟩
/-- Numbers as ints. -/
def nv (l : List Nat) : List Value := l.map fun x : Nat => Value.int .i64 (x : Int)
theorem nv_snoc (l : List Nat) (x : Nat) : nv (l ++ [x]) = nv l ++ [Value.int .i64 (x : Int)] := by simp [nv]
theorem cv_nv (l : List Core) : cv l = nv (l.map (·.1)) := by simp [cv, nv]
theorem nats_nv {w : World} {base n cap : Nat} {xs : List Nat} {A : Option Addr} (hn : xs.length = n) (h : w.ownsRow base 3 1 (.slice A n cap) n (nv xs)) : NatsAt w w.heap.size A xs := by
  rcases h.2 with ⟨h0, h1⟩ | ⟨g', cap', cur, h1, h2, h3, h4, h5, h6, h7⟩
  · subst h1; exact .inl (List.length_eq_zero_iff.1 hn)
  · cases h1
    refine .inr ⟨_, rfl, (Array.getElem?_eq_some_iff.1 h3).1, fun j hj => ?_⟩
    have hadd : (⟨g', 0, none⟩ : Addr).add j = ⟨g', j, none⟩ := by unfold Addr.add; split <;> simp_all
    rw [hadd, cell_of_row w g' j cur 3 (0, 0) h3]
    have e1 : cur[j]? = (nv xs)[j]? := by
      rw [← h7, List.getElem?_take, if_pos (by omega)]; simp
    rw [e1]
    simp [nv, Mk.nth_getElem?, hj]
/-- Behind an append onto a slice of its own: what lies below is as it was. -/
theorem appended_below {W w1 : World} {n₀ : Nat} {e : TypeId} {size : Nat} {v : Value} {k : Nat} {xs : List Value} {tmp : Obj} (hrow : W.ownsRow n₀ e size v k xs) (hn₀ : n₀ ≤ W.heap.size) (hgrow : (W.alloc tmp).grownBy w1 v.ownBlock) : Below n₀ W w1 := by
  refine ((Below.refl n₀ W).alloc hn₀ tmp).grown hgrow (by simp; omega) fun j ej => ?_
  rcases hrow.2 with ⟨rfl, _⟩ | ⟨g, cap, cur, rfl, hb, _, _⟩
  · simp [Value.ownBlock] at ej
  · obtain rfl : g = j := by simpa [Value.ownBlock] using ej
    exact hb

set_option maxRecDepth 100000 in
set_option maxHeartbeats 1000000 in
theorem rAll_ok (n : Nat) (w : World) (h : n ≤ 256) :
    Calls Tryd.prog 14 #[.int .i64 (n : Int)] w fun e w' => e = .returned (.tuple #[.agg (vs .u64 (Mk.ofL (List.range n))), .int .i64 0]) ∧ Below w.heap.size w w' := by
  obtain ⟨i0, hi, hz0, hz1, hz2⟩ := info_parts info3
  have hd1 : decide ((n : Int) < 0) = false := by simp
  have hd2 : decide ((256 : Int) < (n : Int)) = false := by simp; omega
  have HW := Lib.hid (range_W4 h)
  have HE : Hid ([wd (List.range n) 0, wd (List.range n) 1, wd (List.range n) 2, wd (List.range n) 3] = Mk.ofL (List.range n)) := wds_ofL (fun x hx => by rw [List.mem_range] at hx; omega)
  go_enter Tryd.func14, Tryd.ntmps14
  go_wp2_with fail
  go_loopw [4, 5] (fun o i wr => ∃ (k : Nat), k ≤ n ∧ i = .int .i64 k ∧ wr.ownsRow (w.heap.size + 1) 3 1 o k (nv (List.range k)) ∧ Row .u64 24 wr w.heap.size Mk.zero ∧ Below w.heap.size w wr)
    (fun _ i _ => n - (intOf i).toNat)
  case atStart => exact ⟨0, Nat.zero_le _, rfl, World.ownsRow_nil _ _ _ _, Row.new w .u64 24 Mk.zero _ rfl, (Below.refl _ _).alloc (Nat.le_refl _) _⟩
  case round =>
    obtain ⟨k, hk, rfl, hrow, r0, hb⟩ := hrel
    obtain ⟨A, cap, rfl⟩ := own_form hrow
    by_cases hlt : k < n
    · have hl0 := r0.lt
      go_wp2_with (at_builtin; refine wpList_append_own _ rfl _ _ 25 rfl (w.heap.size + 1) 3 i0 (.int .i64 0) 1 8 Tryd.underlying25 hi hz0 hz1 hz2 rfl (by decide) _ _ _ rfl (hrow.alloc _) ⟨wr.heap.size, 0, none⟩ 1 1 [.int .i64 (k : Int)] rfl rfl (cell_one_new _ _ _) (by simp [Value.oneCell']) (by unfold maxLen; omega) (by omega) (by simp; omega) ?_; intro v' w1 hown' hgrow _; obtain ⟨g', cap', rfl⟩ := ownsRow_succ hown'; have hb1 := appended_below hrow (by omega) hgrow)
      go_roundw
      case rel => exact ⟨k + 1, by omega, by go_num, by rw [List.range_succ, nv_snoc]; exact hown', r0.below hb1 (by omega), hb.trans (hb1.mono (by omega))⟩
      case measure => simp [intOf]; omega
    · obtain rfl : k = n := by omega
      have hA := nats_nv (List.length_range) hrow
      have hz := Lib.hid (info40 (range_W4 h).1)
      have hlen := Lib.hid (zero_len (range_W4 h))
      go_wp2_with fail
      refine (make_any A cap k (List.range k) _ hA List.length_range (by omega)).mono ?_
      rintro e w2 ⟨rfl, hb2⟩
      rw [HE.out]
      replace r0 := r0.next hb2
      replace hb := bmore hb hb2
      go_wp2_with (refine store_law rfl 24 _ _ rfl w.heap.size .u64 Mk.zero (Mk.ofL (List.range k)) rfl rfl 24 r0 hlen.out hz.out ?_; intro w7 hw7)
      exact bodyPost_ret (results_row_tmp rfl _ _ w.heap.size .u64 24 _ _ rfl (r0.hidSet hw7) Tryd.underlying24 rfl hz.out) rfl ⟨rfl, below_hidSet hb hw7 (by omega)⟩

theorem half_pow (x k : Nat) : x / 2 ^ k / 2 = x / 2 ^ (k + 1) := by rw [Nat.div_div_eq_div_mul, Nat.pow_succ]

set_option maxRecDepth 100000 in
set_option maxHeartbeats 400000 in
theorem rHas_in (l : List Nat) (c : Nat) (w : World) (hl : Mk.W4 l) (hc : c < 256) :
    Calls Tryd.prog 20 #[.agg (vs .u64 l), .int .i64 c] w fun e w' => e = .returned (.bool (Mk.hasB l c)) ∧ Below w.heap.size w w' := by
  have HL := Lib.hid hl
  clear hl
  have r0 := Row.new w .u64 24 l _ rfl
  have hc0 := r0.cell (c / 64) (by rw [HL.out.1]; omega)
  have t1 : decide ((c : Int) < 0) = false := by simp
  have t2 : decide ((255 : Int) < (c : Int)) = false := by simp; omega
  go_enter Tryd.func20, Tryd.ntmps20
  go_wp2_with fail
  go_loop [5, 6] (fun a i => ∃ k : Nat, k ≤ c % 64 ∧ i = .int .i64 k ∧ a = .int .u64 (Mk.nth l (c / 64) / 2 ^ k : Nat)) (fun _ i => c % 64 - (intOf i).toNat)
  case atStart => exact ⟨0, Nat.zero_le _, rfl, by simp⟩
  case round =>
    obtain ⟨k, hk, rfl, rfl⟩ := hrel
    have HX : Hid (Mk.nth l (c / 64) / 2 ^ k < 2 ^ 64) := Nat.lt_of_le_of_lt (Nat.div_le_self _ _) (HL.out.2 _)
    by_cases hlt : k < c % 64
    · have HS := Lib.hid (half_pow (Mk.nth l (c / 64)) k)
      generalize Mk.nth l (c / 64) / 2 ^ k = x at *
      have hi1 : (k : Int) < (c : Int) % 64 := by omega
      have hq : IntKind.u64.wrap ((x : Int) / 2) = (x : Int) / 2 := by
        have := HX.out
        rw [IntKind.wrap_u64]
        omega
      go_wp2_with fail
      go_round
      case rel => exact ⟨k + 1, by omega, by go_num, by rw [← HS.out]; simp⟩
      case measure => simp [intOf]; omega
    · obtain rfl : k = c % 64 := by omega
      have hi1 : decide (((c % 64 : Nat) : Int) < (c : Int) % 64) = false := by simp
      have hq : ((((Mk.nth l (c / 64) / 2 ^ (c % 64) : Nat) : Int) % 2) == 1) = Mk.hasB l c := by
        unfold Mk.hasB
        rw [Nat.testBit_eq_decide_div_mod_eq]
        generalize Mk.nth l (c / 64) / 2 ^ (c % 64) = y
        rw [Bool.eq_iff_iff]
        simp
        omega
      have HQ := Lib.hid hq
      clear hq
      generalize Mk.nth l (c / 64) / 2 ^ (c % 64) = y at *
      go_wp2_with fail
      go_ret
      refine ⟨?_, (Below.refl _ _).alloc (Nat.le_refl _) _⟩
      rw [← HQ.out]
      rfl
end Go.Proofs.YthmlibapjhmdbaaDoor
