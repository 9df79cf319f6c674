/- The document's Make, of any ints. -/
import Derived.Test.YthmlibapjhmdbaaDoorR8
import Derived.Test.YthmlibapjhmdbaaDoorR4
namespace Go.Proofs.YthmlibapjhmdbaaDoor
open Go.RowKit Go.Shelf

/-- The numbers of a list of ints that are none below 0. -/
def natsOf (zs : List Int) : List Nat := zs.filterMap fun z => if 0 ≤ z then some z.toNat else none
theorem natsOf_mem {zs : List Int} {x : Nat} : x ∈ natsOf zs ↔ (x : Int) ∈ zs := by
  unfold natsOf
  rw [List.mem_filterMap]
  constructor
  · rintro ⟨z, hz, h⟩
    split at h
    · obtain rfl : (x : Int) = z := by simp at h; omega
      exact hz
    · cases h
  · intro h
    exact ⟨(x : Int), h, by rw [if_pos (by omega)]; simp⟩
theorem IntsAt.at_ {w : World} {B : Nat} {A : Option Addr} {zs : List Int} (h : IntsAt w B A zs) {k : Nat} (hk : k < zs.length) : ∃ ad, A = some ad ∧ ad.block < B ∧ w.cell? (ad.add k) = some (.int .i64 (zs.getD k 0)) := by
  rcases h with rfl | ⟨ad, rfl, hb, hc⟩
  · cases hk
  · exact ⟨ad, rfl, hb, hc k hk⟩
theorem ints_next {w w' : World} {A : Option Addr} {zs : List Int} (h : IntsAt w w.heap.size A zs) (hb : Below w.heap.size w w') : IntsAt w' w'.heap.size A zs := by
  rcases h with h | ⟨ad, e, hl, hc⟩
  · exact .inl h
  · exact .inr ⟨ad, e, Nat.lt_of_lt_of_le hl hb.size, fun j hj => (hb.cell (by rw [block_add]; exact hl)).trans (hc j hj)⟩
theorem take_snocI (zs : List Int) (k : Nat) (h : k < zs.length) : zs.take (k + 1) = zs.take k ++ [zs.getD k 0] := by
  rw [List.take_add_one]; simp [List.getD, h]
theorem getD_mem (zs : List Int) (k : Nat) (h : k < zs.length) : zs.getD k 0 ∈ zs := by simp [List.getD, h]

set_option maxRecDepth 100000 in
set_option maxHeartbeats 400000 in
theorem in_ints (A : Option Addr) (cap n x : Nat) (zs : List Int) (w : World) (hA : IntsAt w w.heap.size A zs) (hn : zs.length = n) (hl : n ≤ 65536) :
    Calls Tryd.prog 36 #[.slice A n cap, .int .i64 x] w fun e w' => e = .returned (.bool (decide (x ∈ natsOf zs))) ∧ w = w' := by
  have HN := Lib.hid hn
  clear hn
  go_enter Tryd.func36, Tryd.ntmps36
  go_wp2_with fail
  go_loop [5] (fun i => ∃ k : Nat, k ≤ n ∧ i = .int .i64 k ∧ Hid ((x : Int) ∉ zs.take k)) (fun i => n - (intOf i).toNat)
  case atStart => exact ⟨0, Nat.zero_le _, rfl, Lib.hid (by simp)⟩
  case round =>
    obtain ⟨k, hk, rfl, hx⟩ := hrel
    by_cases hlt : k < n
    · obtain ⟨ad, rfl, _, hc⟩ := hA.at_ (k := k) (by rw [HN.out]; exact hlt)
      have hkl : k < zs.length := by rw [HN.out]; exact hlt
      have HT := Lib.hid (take_snocI zs k hkl)
      have HM := Lib.hid (getD_mem zs k hkl)
      clear hkl
      generalize zs.getD k 0 = y at *
      by_cases hy : y = x
      · subst hy
        have HD : Hid (decide (x ∈ natsOf zs) = true) := by show _ = _; exact decide_eq_true (natsOf_mem.2 HM.out)
        go_wp2_with fail
        go_ret
        exact ⟨by rw [HD.out]; rfl, rfl⟩
      · have e1 : (y == (x : Int)) = false := by rw [beq_eq_false_iff_ne]; exact hy
        have HY := Lib.hid hy
        clear hy
        go_wp2_with fail
        go_round
        case rel =>
          refine ⟨k + 1, by omega, by go_num, Lib.hid ?_⟩
          rw [HT.out, List.mem_append]
          rintro (h | h)
          · exact hx.out h
          · rw [List.mem_singleton] at h; exact HY.out h.symm
        case measure => simp [intOf]; omega
    · obtain rfl : k = n := by omega
      have HD : Hid (decide (x ∈ natsOf zs) = false) := by
        show _ = _
        have := hx.out
        rw [List.take_of_length_le (by rw [HN.out]; exact Nat.le_refl _)] at this
        exact decide_eq_false fun h => this (natsOf_mem.1 h)
      go_wp2_with fail
      go_ret
      exact ⟨by rw [HD.out]; rfl, rfl⟩
set_option maxRecDepth 100000 in
set_option maxHeartbeats 1000000 in
theorem make_gen (A : Option Addr) (cap n : Nat) (xs : List Nat) (w : World) (KIN : ∀ (V : World) (x : Nat), Below w.heap.size w V → Calls Tryd.prog 36 #[.slice A n cap, .int .i64 x] V fun e w' => e = .returned (.bool (decide (x ∈ xs))) ∧ V = w') :
    Calls Tryd.prog 37 #[.slice A n cap] w fun e w' => e = .returned (.agg (vs .u64 [wd xs 0, wd xs 1, wd xs 2, wd xs 3])) ∧ Below w.heap.size w w' := by
  replace KIN := Lib.hid KIN
  go_enter Tryd.func37, Tryd.ntmps37
  go_wp2_with fail
  go_loopw [4] (fun i wr => ∃ k : Nat, k ≤ 4 ∧ i = .int .i64 k ∧ Row .u64 24 wr w.heap.size Mk.zero ∧ Row .u64 24 wr (w.heap.size + 1) (wds xs k) ∧ Below w.heap.size w wr)
    (fun i _ => 4 - (intOf i).toNat)
  case atStart =>
    refine ⟨0, by omega, rfl, (Row.new w .u64 24 Mk.zero _ rfl).alloc _, ?_, ((Below.refl _ _).alloc (Nat.le_refl _) _).alloc (by simp) _⟩
    have := Row.new (w.alloc (.cells (vs .u64 Mk.zero) 24)) .u64 24 Mk.zero _ rfl
    rw [size_alloc] at this
    exact this
  case round =>
    obtain ⟨k, hk, rfl, r0, r1, hb⟩ := hrel
    by_cases hlt : k < 4
    · have hd4 : decide ((k : Int) < 4) = true := by simp; omega
      go_wp2_with fail
      obtain ⟨Wk, hWk⟩ : ∃ Wk, Wk = wr := ⟨_, rfl⟩
      subst hWk
      go_loop [5, 6] (fun a i => ∃ j : Nat, j ≤ 64 ∧ i = .int .i64 (63 - (j : Int)) ∧ a = .int .u64 (acc (fun t => decide (64 * k + t ∈ xs)) j : Nat)) (fun _ i => (intOf i + 1).toNat)
      case atStart => exact ⟨0, by omega, rfl, rfl⟩
      case round =>
        obtain ⟨j, hj, rfl, rfl⟩ := hrel
        by_cases hlt2 : j < 64
        · have hac := acc_lt (fun t => decide (64 * k + t ∈ xs)) j
          have hp : (2 : Nat) ^ j ≤ 2 ^ 63 := Nat.pow_le_pow_right (by decide) (by omega)
          have HS : Hid (acc (fun t => decide (64 * k + t ∈ xs)) (j + 1) = acc (fun t => decide (64 * k + t ∈ xs)) j * 2 + (if decide (64 * k + (63 - j) ∈ xs) then 1 else 0)) := rfl
          have hac2 : acc (fun t => decide (64 * k + t ∈ xs)) j * 2 < 18446744073709551616 - 1 := by omega
          clear hac hp
          generalize acc (fun t => decide (64 * k + t ∈ xs)) j = v at *
          have e1 : IntKind.u64.wrap ((v : Int) * 2) = (v : Int) * 2 := by rw [IntKind.wrap_u64]; omega
          have e2 : IntKind.u64.wrap ((v : Int) * 2 + 1) = (v : Int) * 2 + 1 := by rw [IntKind.wrap_u64]; omega
          clear hac2
          have hin := Lib.hid (KIN.out Wk (64 * k + (63 - j)) hb)
          have hcst : (64 * (k : Int) + (63 - (j : Int))) = 64 * (k : Int) + ((63 - j : Nat) : Int) := by omega
          have HC : Hid (64 * (k : Int) + ((63 - j : Nat) : Int) = ((64 * k + (63 - j) : Nat) : Int)) := by show _ = _; simp
          go_wp2_with fail
          rw [HC.out]
          refine hin.out.mono ?_
          rintro e w5 ⟨rfl, rfl⟩
          clear hcst
          by_cases hm : 64 * k + (63 - j) ∈ xs
          · have HD : Hid (decide (64 * k + (63 - j) ∈ xs) = true) := by show _ = _; simpa using hm
            rw [HD.out]
            clear hm
            go_wp2_with fail
            go_round
            case rel => exact ⟨j + 1, by omega, by go_num, by rw [HS.out, HD.out]; go_num⟩
            case measure => simp [intOf]; omega
          · have HD : Hid (decide (64 * k + (63 - j) ∈ xs) = false) := by show _ = _; simpa using hm
            rw [HD.out]
            clear hm
            go_wp2_with fail
            go_round
            case rel => exact ⟨j + 1, by omega, by go_num, by rw [HS.out, HD.out]; go_num⟩
            case measure => simp [intOf]; omega
        · obtain rfl : j = 64 := by omega
          have HW : Hid (acc (fun t => decide (64 * k + t ∈ xs)) 64 = wd xs k) := rfl
          rw [HW.out]
          have c0 := r1.cell k (show k < 4 from hlt)
          have f0 := r1.frozen k
          have HX := Lib.hid (wds_set xs k hlt)
          have i0 : (0 : Int) ≤ (k : Int) := by omega
          have i1 : (k : Int) < 4 := by omega
          go_wp2_with fail
          go_roundw
          case rel =>
            refine ⟨k + 1, by omega, by go_num, r0.setOther _ (by simp), ?_, hb.setCell (by simp) _⟩
            have h9 := r1.set k (wd xs k)
            rw [HX.out] at h9
            exact h9
          case measure => simp [intOf]; omega
    · obtain rfl : k = 4 := by omega
      rw [wds_done] at r1
      have hz := Lib.hid (info40 (wds_W4 xs).1)
      have hlen := Lib.hid (zero_len (wds_W4 xs))
      go_wp2_with (first | (refine load_w rfl 24 _ rfl (w.heap.size + 1) .u64 [wd xs 0, wd xs 1, wd xs 2, wd xs 3] rfl 24 _ r1 Tryd.underlying24 rfl hz.out ?_) | (refine store_law rfl 24 _ _ rfl w.heap.size .u64 Mk.zero [wd xs 0, wd xs 1, wd xs 2, wd xs 3] rfl rfl 24 r0 hlen.out hz.out ?_; intro w7 hw7))
      exact bodyPost_ret (results_row rfl _ _ w.heap.size .u64 24 _ _ rfl (r0.hidSet hw7) Tryd.underlying24 rfl hz.out) rfl ⟨rfl, below_hidSet hb hw7 (by omega)⟩

theorem make_ints (A : Option Addr) (cap n : Nat) (zs : List Int) (w : World) (hA : IntsAt w w.heap.size A zs) (hn : zs.length = n) (hl : n ≤ 65536) :
    Calls Tryd.prog 37 #[.slice A n cap] w fun e w' => e = .returned (.agg (vs .u64 [wd (natsOf zs) 0, wd (natsOf zs) 1, wd (natsOf zs) 2, wd (natsOf zs) 3])) ∧ Below w.heap.size w w' :=
  make_gen A cap n (natsOf zs) w fun V x hb => in_ints A cap n x zs V (ints_next hA hb) hn hl
/-- Ints as values. -/
def iv (l : List Int) : List Value := l.map fun x => Value.int .i64 x
theorem iv_snoc (l : List Int) (x : Int) : iv (l ++ [x]) = iv l ++ [Value.int .i64 x] := by simp [iv]
theorem ints_iv {w : World} {base n cap : Nat} {zs : List Int} {A : Option Addr} (hn : zs.length = n) (h : w.ownsRow base 3 1 (.slice A n cap) n (iv zs)) : IntsAt w w.heap.size A zs := by
  rcases h.2 with ⟨h0, h1⟩ | ⟨g', cap', cur, h1, h2, h3, h4, h5, h6, h7⟩
  · subst h1; exact .inl (List.length_eq_zero_iff.1 hn)
  · cases h1
    refine .inr ⟨_, rfl, (Array.getElem?_eq_some_iff.1 h3).1, fun j hj => ?_⟩
    have hadd : (⟨g', 0, none⟩ : Addr).add j = ⟨g', j, none⟩ := by unfold Addr.add; split <;> simp_all
    rw [hadd, cell_of_row w g' j cur 3 (0, 0) h3]
    have e1 : cur[j]? = (iv zs)[j]? := by
      rw [← h7, List.getElem?_take, if_pos (by omega)]; simp
    rw [e1]
    simp [iv, List.getD, hj]
end Go.Proofs.YthmlibapjhmdbaaDoor
