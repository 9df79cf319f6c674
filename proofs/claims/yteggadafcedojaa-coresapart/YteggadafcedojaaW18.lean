/- The document's All, of masks and of layouts. -/
import Derived.Test.YteggadafcedojaaW17
namespace Go.Proofs.Yteggadafcedojaa
open Go.RowKit Go.Shelf

/-- Numbers as ints. -/
def nv (l : List Nat) : List Value := l.map fun x : Nat => Value.int .i64 (x : Int)
theorem nv_snoc (l : List Nat) (x : Nat) : nv (l ++ [x]) = nv l ++ [Value.int .i64 (x : Int)] := by simp [nv]
theorem cv_nv (l : List Core) : cv l = nv (l.map (·.1)) := by simp [cv, nv]
theorem nats_nv {w : World} {base n cap : Nat} {xs : List Nat} {A : Option Addr} (hn : xs.length = n) (h : w.ownsRow base 3 1 (.slice A n cap) n (nv xs)) : NatsAt w w.heap.size A xs := by
  rcases h.2 with ⟨h0, h1⟩ | ⟨g', cap', cur, h1, h2, h3, h4, h5, h6, h7⟩
  · subst h1; exact .inl (List.length_eq_zero_iff.1 hn)
  · cases h1
    refine .inr ⟨_, rfl, (Array.getElem?_eq_some_iff.1 h3).1, fun j hj => ?_⟩
    have hadd : (⟨g', 0, none⟩ : Addr).add j = ⟨g', j, none⟩ := by unfold Addr.add; split <;> simp_all
    rw [hadd, cell_of_row w g' j cur 3 (0, 0) h3]
    have e1 : cur[j]? = (nv xs)[j]? := by
      rw [← h7, List.getElem?_take, if_pos (by omega)]; simp
    rw [e1]
    simp [nv, Mk.nth_getElem?, hj]
/-- Behind an append onto a slice of its own: what lies below is as it was. -/
theorem appended_below {W w1 : World} {n₀ : Nat} {e : TypeId} {size : Nat} {v : Value} {k : Nat} {xs : List Value} {tmp : Obj} (hrow : W.ownsRow n₀ e size v k xs) (hn₀ : n₀ ≤ W.heap.size) (hgrow : (W.alloc tmp).grownBy w1 v.ownBlock) : Below n₀ W w1 := by
  refine ((Below.refl n₀ W).alloc hn₀ tmp).grown hgrow (by simp; omega) fun j ej => ?_
  rcases hrow.2 with ⟨rfl, _⟩ | ⟨g, cap, cur, rfl, hb, _, _⟩
  · simp [Value.ownBlock] at ej
  · obtain rfl : g = j := by simpa [Value.ownBlock] using ej
    exact hb

set_option maxRecDepth 100000 in
set_option maxHeartbeats 1000000 in
theorem rAll_ok (n : Nat) (w : World) (h : n ≤ 256) :
    Calls Try.prog 35 #[.int .i64 (n : Int)] w fun e w' => e = .returned (.tuple #[.agg (vs .u64 (Mk.ofL (List.range n))), .int .i64 0]) ∧ Below w.heap.size w w' := by
  obtain ⟨i0, hi, hz0, hz1, hz2⟩ := info_parts info3
  have hd1 : decide ((n : Int) < 0) = false := by simp
  have hd2 : decide ((256 : Int) < (n : Int)) = false := by simp; omega
  have HW := Lib.hid (range_W4 h)
  have HE : Hid ([wd (List.range n) 0, wd (List.range n) 1, wd (List.range n) 2, wd (List.range n) 3] = Mk.ofL (List.range n)) := wds_ofL (fun x hx => by rw [List.mem_range] at hx; omega)
  go_enter Try.func35, Try.ntmps35
  go_wp2_with fail
  go_loopw [4, 5] (fun o i wr => ∃ (k : Nat), k ≤ n ∧ i = .int .i64 k ∧ wr.ownsRow (w.heap.size + 1) 3 1 o k (nv (List.range k)) ∧ Row .u64 40 wr w.heap.size Mk.zero ∧ Below w.heap.size w wr)
    (fun _ i _ => n - (intOf i).toNat)
  case atStart => exact ⟨0, Nat.zero_le _, rfl, World.ownsRow_nil _ _ _ _, Row.new w .u64 40 Mk.zero _ rfl, (Below.refl _ _).alloc (Nat.le_refl _) _⟩
  case round =>
    obtain ⟨k, hk, rfl, hrow, r0, hb⟩ := hrel
    obtain ⟨A, cap, rfl⟩ := own_form hrow
    by_cases hlt : k < n
    · have hl0 := r0.lt
      go_wp2_with (at_builtin; refine wpList_append_own _ rfl _ _ 24 rfl (w.heap.size + 1) 3 i0 (.int .i64 0) 1 8 Try.underlying24 hi hz0 hz1 hz2 rfl (by decide) _ _ _ rfl (hrow.alloc _) ⟨wr.heap.size, 0, none⟩ 1 1 [.int .i64 (k : Int)] rfl rfl (cell_one_new _ _ _) (by simp [Value.oneCell']) (by unfold maxLen; omega) (by omega) (by simp; omega) ?_; intro v' w1 hown' hgrow _; obtain ⟨g', cap', rfl⟩ := ownsRow_succ hown'; have hb1 := appended_below hrow (by omega) hgrow)
      go_roundw
      case rel => exact ⟨k + 1, by omega, by go_num, by rw [List.range_succ, nv_snoc]; exact hown', r0.below hb1 (by omega), hb.trans (hb1.mono (by omega))⟩
      case measure => simp [intOf]; omega
    · obtain rfl : k = n := by omega
      have hA := nats_nv (List.length_range) hrow
      have hz := Lib.hid (info40 (range_W4 h).1)
      have hlen := Lib.hid (zero_len (range_W4 h))
      go_wp2_with fail
      refine (make_any A cap k (List.range k) _ hA List.length_range (by omega)).mono ?_
      rintro e w2 ⟨rfl, hb2⟩
      rw [HE.out]
      replace r0 := r0.next hb2
      replace hb := bmore hb hb2
      go_wp2_with (refine store_law rfl 40 _ _ rfl w.heap.size .u64 Mk.zero (Mk.ofL (List.range k)) rfl rfl 40 r0 hlen.out hz.out ?_; intro w7 hw7)
      exact bodyPost_ret (results_row_tmp rfl _ _ w.heap.size .u64 40 _ _ rfl (r0.hidSet hw7) Try.underlying40 rfl hz.out) rfl ⟨rfl, below_hidSet hb hw7 (by omega)⟩

set_option maxRecDepth 100000 in
set_option maxHeartbeats 1000000 in
theorem rLayAll (s p : Int) (n : Nat) (w : World) (h : n ≤ 256) (hc : ∀ W, Calls Try.prog 30 #[.agg #[.int .i64 s, .int .i64 p]] W fun e w' => e = .returned (.int .i64 (n : Int)) ∧ Below W.heap.size W w') :
    Calls Try.prog 17 #[.agg #[.int .i64 s, .int .i64 p]] w fun e w' => e = .returned (.agg (vs .u64 (Mk.ofL (List.range n)))) ∧ Below w.heap.size w w' := by
  have HC := Lib.hid hc
  have HA := Lib.hid (fun W => rAll_ok n W h)
  have hz := Lib.hid (info40 (range_W4 h).1)
  have hlen := Lib.hid (zero_len (range_W4 h))
  clear hc
  generalize Mk.ofL (List.range n) = m at *
  have hb0 := ((Below.refl _ w).alloc (Nat.le_refl _) (.cells #[.int .i64 s, .int .i64 p] 23)).alloc (by simp) (.cells (vs .u64 Mk.zero) 40)
  have r0 : Row .u64 40 ((w.alloc (.cells #[.int .i64 s, .int .i64 p] 23)).alloc (.cells (vs .u64 Mk.zero) 40)) (w.heap.size + 1) Mk.zero := by
    have := Row.new (w.alloc (.cells #[.int .i64 s, .int .i64 p] 23)) .u64 40 Mk.zero _ rfl
    rw [size_alloc] at this
    exact this
  go_enter Try.func17, Try.ntmps17
  go_wp2_with fail
  refine (HC.out _).mono ?_
  rintro e w2 ⟨rfl, hb2⟩
  replace r0 := r0.next hb2
  replace hb0 := bmore hb0 hb2
  clear hb2
  go_wp2_with fail
  refine (HA.out _).mono ?_
  rintro e w4 ⟨rfl, hb4⟩
  replace r0 := r0.next hb4
  replace hb0 := bmore hb0 hb4
  clear hb4
  have r1 := Row.new w4 .u64 40 Mk.zero _ rfl
  have hs4 := hb0.size
  have hl4 := r0.lt
  replace r0 := r0.alloc (.cells (vs .u64 Mk.zero) 40)
  replace hb0 := hb0.alloc (by omega) (.cells (vs .u64 Mk.zero) 40)
  go_wp2_with (first | (refine store_law rfl 40 _ _ rfl w4.heap.size .u64 Mk.zero m rfl rfl 40 r1 hlen.out hz.out ?_; intro w7 hw7; have r11 := r1.hidSet hw7; have r01 := r0.hidOther hw7 (by omega); have hb1 := below_hidSet hb0 hw7 (by omega); clear hw7) | (refine load_w rfl 40 _ rfl w4.heap.size .u64 m rfl 40 _ r11 Try.underlying40 rfl hz.out ?_) | (refine store_law rfl 40 _ _ rfl (w.heap.size + 1) .u64 Mk.zero m rfl rfl 40 r01 hlen.out hz.out ?_; intro w8 hw8))
  exact bodyPost_ret (results_row rfl _ _ (w.heap.size + 1) .u64 40 _ _ rfl (r01.hidSet hw8) Try.underlying40 rfl hz.out) rfl ⟨rfl, below_hidSet hb1 hw8 (by omega)⟩
end Go.Proofs.Yteggadafcedojaa
