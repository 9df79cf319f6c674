/- Of. -/
import Derived.Test.YthmlibapjhmdbaaW3
namespace Go.Proofs.Ythmlibapjhmdbaa
open Go.RowKit

/-- A slice of ints, at A, whose numbers are xs; it lies below block B. -/
def NatsAt (w : World) (B : Nat) (A : Option Addr) (xs : List Nat) : Prop := xs = [] ∨ ∃ ad, A = some ad ∧ ad.block < B ∧ ∀ j, j < xs.length → w.cell? (ad.add j) = some (.int .i64 (Mk.nth xs j : Nat))
theorem block_add (a : Addr) (n : Nat) : (a.add n).block = a.block := by unfold Addr.add; split <;> rfl
theorem NatsAt.below {w w' : World} {B : Nat} {A : Option Addr} {xs : List Nat} (h : NatsAt w B A xs) (hb : Below B w w') : NatsAt w' B A xs := by
  rcases h with h | ⟨ad, h1, h2, h3⟩
  · exact .inl h
  · exact .inr ⟨ad, h1, h2, fun j hj => (hb.cell (p := ad.add j) (by rw [block_add]; exact h2)).trans (h3 j hj)⟩
theorem NatsAt.more {w : World} {B B' : Nat} {A : Option Addr} {xs : List Nat} (h : NatsAt w B A xs) (hB : B ≤ B') : NatsAt w B' A xs := by
  rcases h with h | ⟨ad, h1, h2, h3⟩
  · exact .inl h
  · exact .inr ⟨ad, h1, by omega, h3⟩
theorem NatsAt.at_ {w : World} {B : Nat} {A : Option Addr} {xs : List Nat} (h : NatsAt w B A xs) {k : Nat} (hk : k < xs.length) : ∃ ad, A = some ad ∧ ad.block < B ∧ w.cell? (ad.add k) = some (.int .i64 (Mk.nth xs k : Nat)) := by
  rcases h with h | ⟨ad, h1, h2, h3⟩
  · rw [h] at hk; cases hk
  · exact ⟨ad, h1, h2, h3 k hk⟩

theorem take_snoc (xs : List Nat) (k : Nat) (h : k < xs.length) : xs.take (k + 1) = xs.take k ++ [Mk.nth xs k] := by
  rw [List.take_succ_eq_append_getElem h]; simp [Mk.nth, h]
theorem nth_mem (xs : List Nat) (k : Nat) (h : k < xs.length) : Mk.nth xs k ∈ xs := by simp [Mk.nth, h]
theorem nodup_take (xs : List Nat) (k : Nat) (h : k < xs.length) (hn : xs.Nodup) : Mk.nth xs k ∉ xs.take k := by
  have : (xs.take (k + 1)).Nodup := hn.sublist (List.take_sublist _ _)
  rw [take_snoc xs k h, List.nodup_append] at this
  intro hm
  exact this.2.2 _ hm _ (by simp) rfl

set_option maxRecDepth 100000 in
set_option maxHeartbeats 400000 in
theorem of_ok (A : Option Addr) (cap : Nat) (xs : List Nat) (w : World) (hA : NatsAt w w.heap.size A xs) (hx : ∀ x ∈ xs, x < 256) (hn : xs.Nodup) (hl : xs.length ≤ maxLen) :
    Calls Try.prog 61 #[.slice A xs.length cap] w fun e w' => e = .returned (.tuple #[.agg (vs .u64 (Mk.ofL xs)), .int .i64 0]) ∧ Below w.heap.size w w' := by
  have HX := Lib.hid hx
  have HN := Lib.hid hn
  clear hx hn
  unfold maxLen at hl
  go_enter Try.func61, Try.ntmps61
  go_wp2_with fail
  go_loopw [9] (fun i wr => ∃ k : Nat, k ≤ xs.length ∧ i = .int .i64 k ∧ Row .u64 40 wr w.heap.size Mk.zero ∧ Row .u64 40 wr (w.heap.size + 1) (Mk.ofL (xs.take k)) ∧ Below w.heap.size w wr)
    (fun i _ => xs.length - (intOf i).toNat)
  case atStart =>
    refine ⟨0, by omega, rfl, (Row.new w .u64 40 Mk.zero _ rfl).alloc _, ?_, ((Below.refl _ _).alloc (Nat.le_refl _) _).alloc (by simp) _⟩
    have := Row.new (w.alloc (.cells (vs .u64 Mk.zero) 40)) .u64 40 Mk.zero _ rfl
    rw [size_alloc] at this
    exact this
  case round =>
    obtain ⟨k, hk, rfl, r0, r1, hb⟩ := hrel
    have hw := Lib.hid (Mk.ofL_W4 (xs := xs.take k) (fun x hx => HX.out x (List.mem_of_mem_take hx)))
    have hz := Lib.hid (info33' hw.out)
    by_cases hlt : k < xs.length
    · obtain ⟨ad, rfl, hblk, hcell⟩ := (hA.below hb).at_ hlt
      have hc := HX.out _ (nth_mem xs k hlt)
      have hw2 := Lib.hid (hw.out.wth hc)
      have HS : Hid (Mk.ofL (xs.take (k + 1)) = Mk.wth (Mk.ofL (xs.take k)) (Mk.nth xs k)) := by
        show _ = _; rw [take_snoc xs k hlt, Mk.ofL_snoc]
      have HF : Hid (Mk.hasB (Mk.ofL (xs.take k)) (Mk.nth xs k) = false) := by
        show _ = _
        rw [Mk.has_ofL (fun x hx => HX.out x (List.mem_of_mem_take hx))]
        simpa using nodup_take xs k hlt HN.out
      have hz2 := Lib.hid (info33' hw2.out)
      have hlen := Lib.hid (len_len hw.out hw2.out)
      generalize Mk.ofL (xs.take k) = m at *
      generalize Mk.nth xs k = c at *
      go_wp2_with (first | (refine load_w rfl 40 _ rfl (w.heap.size + 1) .u64 m rfl 40 _ r1 Try.underlying40 rfl hz.out ?_) | ((go_at_call 72; refine (isCore_yes _ _ (by omega) (by omega)).mono ?_); rintro e w' ⟨rfl, rfl⟩) | ((go_at_call 71; refine (has_in m c _ hw.out hc).mono ?_); rintro e w2 ⟨rfl, hb2⟩; rw [HF.out]; replace r0 := r0.below hb2 r0.lt; replace r1 := r1.below hb2 r1.lt; replace hb := bmore hb hb2; clear hb2) | ((go_at_call 68; refine (with_any m c _ hw.out hc).mono ?_); rintro e w2 ⟨rfl, hb2⟩; have r02 := r0.below hb2 r0.lt; have r12 := r1.below hb2 r1.lt; have hb22 := bmore hb hb2; clear hb2) | (refine store_law rfl 40 _ _ rfl (w.heap.size + 1) .u64 m (Mk.wth m c) rfl rfl 40 r12 hlen.out hz2.out ?_; intro w7 hw7))
      go_roundw
      case rel =>
        refine ⟨k + 1, by omega, by go_num, r02.hidOther hw7 (by omega), ?_, below_hidSet hb22 hw7 (by omega)⟩
        rw [HS.out]; exact r12.hidSet hw7
      case measure => simp [intOf]; omega
    · obtain rfl : k = xs.length := by omega
      rw [List.take_length] at r1 hw hz
      have hlen := Lib.hid (zero_len hw.out)
      go_wp2_with (first | (refine load_law rfl 40 _ rfl (w.heap.size + 1) .u64 (Mk.ofL xs) rfl 40 _ r1 Try.underlying40 rfl hz.out ?_) | (refine store_law rfl 40 _ _ rfl w.heap.size .u64 Mk.zero (Mk.ofL xs) rfl rfl 40 r0 hlen.out hz.out ?_; intro w7 hw7))
      exact bodyPost_ret (results_row_tmp rfl _ _ w.heap.size .u64 40 _ _ rfl (r0.hidSet hw7) Try.underlying40 rfl hz.out) rfl ⟨rfl, below_hidSet hb hw7 (by omega)⟩
end Go.Proofs.Ythmlibapjhmdbaa
