/- A pool: union. -/
import Derived.Test.YthmlibapjhmdbaaQ9
import Derived.Test.YthmlibapjhmdbaaW20
namespace Go.Proofs.Ythmlibapjhmdbaa
open Go.RowKit Go.Shelf Go.Maps

def orAll (ms : List (List Nat)) : List Nat := ms.foldl (zw Nat.lor) Mk.zero
theorem lor_W4 {a b : List Nat} (ha : Mk.W4 a) (hb : Mk.W4 b) : Mk.W4 (zw Nat.lor a b) := by
  refine ⟨zw_len ha.1 hb.1, fun i => ?_⟩
  rcases Nat.lt_or_ge i 4 with h | h
  · rw [zw_nth ha.1 hb.1 h]
    exact Nat.or_lt_two_pow (ha.2 i) (hb.2 i)
  · rw [Mk.nth_getElem?, List.getElem?_eq_none (by rw [zw_len ha.1 hb.1]; exact h)]
    exact Nat.two_pow_pos 64
theorem orAll_W4 (ms : List (List Nat)) (h : ∀ m ∈ ms, Mk.W4 m) : Mk.W4 (orAll ms) := by
  have key : ∀ (ms : List (List Nat)) (a : List Nat), Mk.W4 a → (∀ m ∈ ms, Mk.W4 m) → Mk.W4 (ms.foldl (zw Nat.lor) a) := by
    intro ms
    induction ms with
    | nil => intro a ha _; exact ha
    | cons m ms ih => intro a ha hm; exact ih _ (lor_W4 ha (hm m List.mem_cons_self)) fun x hx => hm x (List.mem_cons_of_mem _ hx)
  exact key ms _ Mk.W4.zero h
theorem orAll_snoc (ms : List (List Nat)) (k : Nat) (m : List Nat) (h : ms[k]? = some m) : orAll (ms.take (k + 1)) = zw Nat.lor (orAll (ms.take k)) m := by
  unfold orAll
  rw [List.take_add_one, h, List.foldl_append]
  rfl

set_option maxRecDepth 100000 in
set_option maxHeartbeats 1000000 in
theorem union_any (g cap n : Nat) (ms : List (List Nat)) (w : World) (hA : MasksAt w w.heap.size g ms) (h4 : ∀ m ∈ ms, Mk.W4 m) (hn : ms.length = n) (hl : n ≤ 32) :
    Calls Try.prog 47 #[.slice (some ⟨g, 0, none⟩) n cap] w fun e w' => e = .returned (.agg (vs .u64 (orAll ms))) ∧ Below w.heap.size w w' := by
  have HN := Lib.hid hn
  have H4 := Lib.hid h4
  clear hn h4
  go_enter Try.func47, Try.ntmps47
  go_wp2_with fail
  go_loopw [8] (fun i wr => ∃ k : Nat, k ≤ n ∧ i = .int .i64 k ∧ Row .u64 40 wr w.heap.size Mk.zero ∧ Row .u64 40 wr (w.heap.size + 1) (orAll (ms.take k)) ∧ Below w.heap.size w wr)
    (fun i _ => n - (intOf i).toNat)
  case atStart =>
    refine ⟨0, by omega, rfl, (Row.new w .u64 40 Mk.zero _ rfl).alloc _, ?_, ((Below.refl _ _).alloc (Nat.le_refl _) _).alloc (by simp) _⟩
    have := Row.new (w.alloc (.cells (vs .u64 Mk.zero) 40)) .u64 40 Mk.zero _ rfl
    rw [size_alloc] at this
    exact this
  case round =>
    obtain ⟨k, hk, rfl, r0, r1, hb⟩ := hrel
    have hw := Lib.hid (orAll_W4 (ms.take k) (fun m hm => H4.out m (List.mem_of_mem_take hm)))
    have hz := Lib.hid (info33' hw.out)
    have hl1 := r1.lt
    by_cases hlt : k < n
    · have hkl : k < ms.length := by rw [HN.out]; exact hlt
      obtain ⟨m, hm⟩ : ∃ m, ms[k]? = some m := ⟨_, List.getElem?_eq_getElem hkl⟩
      have hm4 := H4.out m (List.mem_of_getElem? hm)
      have HS := Lib.hid (orAll_snoc ms k m hm)
      have mA := hA.below hb
      have c0 := mA.2 k m hm 0 (by decide)
      have c1 := mA.2 k m hm 1 (by decide)
      have c2 := mA.2 k m hm 2 (by decide)
      have c3 := mA.2 k m hm 3 (by decide)
      simp only [Nat.add_zero] at c0
      have em := Mk.len4 hm4.1
      have HW2 := Lib.hid (lor_W4 hw.out hm4)
      have hzo : zw Nat.lor (orAll (ms.take k)) [Mk.nth m 0, Mk.nth m 1, Mk.nth m 2, Mk.nth m 3] = zw Nat.lor (orAll (ms.take k)) m := by rw [← em]
      have KM := Lib.hid (show ∀ V, Calls Try.prog 22 #[.agg (vs .u64 (orAll (ms.take k))), .agg #[.int .u64 (Mk.nth m 0 : Nat), .int .u64 (Mk.nth m 1 : Nat), .int .u64 (Mk.nth m 2 : Nat), .int .u64 (Mk.nth m 3 : Nat)]] V fun e w' => e = .returned (.agg (vs .u64 (zw Nat.lor (orAll (ms.take k)) m))) ∧ Below V.heap.size V w' from fun V => by
        have := or_any (orAll (ms.take k)) [Mk.nth m 0, Mk.nth m 1, Mk.nth m 2, Mk.nth m 3] V hw.out (by rw [← em]; exact hm4)
        rw [hzo] at this
        exact this)
      have hz2 := Lib.hid (info33' HW2.out)
      have hlen := Lib.hid (len_len hw.out HW2.out)
      have i1 : (k : Int) < (n : Int) := by omega
      clear hzo em hm4 hm hkl mA
      generalize orAll (ms.take k) = a at *
      have hx : Below wr.heap.size wr (wr.alloc (.cells #[.int .u64 (Mk.nth m 0 : Nat), .int .u64 (Mk.nth m 1 : Nat), .int .u64 (Mk.nth m 2 : Nat), .int .u64 (Mk.nth m 3 : Nat)] 40)) := (Below.refl _ _).alloc (Nat.le_refl _) _
      have r1a := r1.next hx
      have r0a := r0.next hx
      have hba := bmore hb hx
      clear hx
      go_wp2_with (refine load_law rfl 40 _ rfl (w.heap.size + 1) .u64 a rfl 40 _ r1a Try.underlying40 rfl hz.out ?_)
      refine (KM.out _).mono ?_
      rintro e w5 ⟨rfl, hb5⟩
      replace r1a := r1a.next hb5; replace r0a := r0a.next hb5; replace hba := bmore hba hb5
      clear hb5 c0 c1 c2 c3
      go_wp2_with (refine store_law rfl 40 _ _ rfl (w.heap.size + 1) .u64 a (zw Nat.lor a m) rfl rfl 40 r1a hlen.out hz2.out ?_; intro w7 hw7)
      go_roundw
      case rel => exact ⟨k + 1, by omega, by go_num, r0a.hidOther hw7 (by omega), by rw [HS.out]; exact r1a.hidSet hw7, below_hidSet hba hw7 (by omega)⟩
      case measure => simp [intOf]; omega
    · obtain rfl : k = n := by omega
      have HE : Hid (orAll (ms.take k) = orAll ms) := by show _ = _; rw [List.take_of_length_le (by rw [HN.out]; exact Nat.le_refl _)]
      rw [HE.out] at r1 hw hz
      have hlen := Lib.hid (zero_len hw.out)
      go_wp2_with (first | (refine load_law rfl 40 _ rfl (w.heap.size + 1) .u64 (orAll ms) rfl 40 _ r1 Try.underlying40 rfl hz.out ?_) | (refine store_law rfl 40 _ _ rfl w.heap.size .u64 Mk.zero (orAll ms) rfl rfl 40 r0 hlen.out hz.out ?_; intro w7 hw7))
      exact bodyPost_ret (results_row rfl _ _ w.heap.size .u64 40 _ _ rfl (r0.hidSet hw7) Try.underlying40 rfl hz.out) rfl ⟨rfl, below_hidSet hb hw7 (by omega)⟩
end Go.Proofs.Ythmlibapjhmdbaa
