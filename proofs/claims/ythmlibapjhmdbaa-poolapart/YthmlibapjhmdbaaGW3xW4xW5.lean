/- span, All of mask. -/
import Derived.Test.YthmlibapjhmdbaaGRowxW1xW2
namespace Go.Proofs.Ythmlibapjhmdbaa
open Go.RowKit

theorem range'_snoc (a k : Nat) : List.range' a (k + 1) = List.range' a k ++ [a + k] := by
  rw [List.range'_concat]; simp
theorem range'_lt {a n : Nat} (h : a + n ≤ 256) : ∀ x ∈ List.range' a n, x < 256 := by
  intro x hx; rw [List.mem_range'_1] at hx; omega
theorem bmore {a b c : World} (h : Below a.heap.size a b) (k : Below b.heap.size b c) : Below a.heap.size a c := h.trans (k.mono h.size)

theorem zero_len {l : List Nat} (h : Mk.W4 l) : Mk.zero.length = l.length := by rw [h.1]; rfl
theorem len_zero {l : List Nat} (h : Mk.W4 l) : l.length = Mk.zero.length := by rw [h.1]; rfl
theorem len_len {l m : List Nat} (h : Mk.W4 l) (k : Mk.W4 m) : l.length = m.length := by rw [h.1, k.1]
theorem info33' {l : List Nat} (h : Mk.W4 l) : (Try.prog.info? 40).map (·.size) = some l.length := by rw [h.1]; exact info33

set_option maxRecDepth 100000 in
set_option maxHeartbeats 400000 in
theorem span_any (a n : Nat) (w : World) (h : a + n ≤ 256) :
    Calls Try.prog 58 #[.int .i64 (a : Int), .int .i64 ((a : Int) + n - 1)] w fun e w' => e = .returned (.agg (vs .u64 (Mk.ofL (List.range' a n)))) ∧ Below w.heap.size w w' := by
  go_enter Try.func58, Try.ntmps58
  go_wp2_with fail
  go_loopw [6] (fun i wr => ∃ k : Nat, k ≤ n ∧ i = .int .i64 ((a : Int) + k) ∧ Row .u64 40 wr w.heap.size Mk.zero ∧ Row .u64 40 wr (w.heap.size + 1) (Mk.ofL (List.range' a k)) ∧ Below w.heap.size w wr)
    (fun i _ => n + a - (intOf i).toNat)
  case atStart =>
    refine ⟨0, by omega, by simp, (Row.new w .u64 40 Mk.zero _ rfl).alloc _, ?_, ((Below.refl _ _).alloc (Nat.le_refl _) _).alloc (by simp) _⟩
    have := Row.new (w.alloc (.cells (vs .u64 Mk.zero) 40)) .u64 40 Mk.zero _ rfl
    rw [size_alloc] at this
    exact this
  case round =>
    obtain ⟨k, hk, rfl, r0, r1, hb⟩ := hrel
    have hw := Lib.hid (Mk.ofL_W4 (range'_lt (a := a) (n := k) (by omega)))
    have hz := Lib.hid (info33' hw.out)
    by_cases hlt : k < n
    · have hw2 := Lib.hid (hw.out.wth (c := a + k) (by omega))
      have HS : Hid (Mk.ofL (List.range' a (k + 1)) = Mk.wth (Mk.ofL (List.range' a k)) (a + k)) := by
        show _ = _; rw [range'_snoc, Mk.ofL_snoc]
      have hz2 := Lib.hid (info33' hw2.out)
      have hlen := Lib.hid (len_len hw.out hw2.out)
      generalize Mk.ofL (List.range' a k) = m at *
      have hcast : ((a : Int) + (k : Int)) = ((a + k : Nat) : Int) := by simp
      rw [hcast]
      clear hcast
      go_wp2_with (first | (refine load_law rfl 40 _ rfl (w.heap.size + 1) .u64 m rfl 40 _ r1 Try.underlying40 rfl hz.out ?_) | ((go_at_call 68; refine (with_any m (a + k) _ hw.out (by omega)).mono ?_); rintro e w2 ⟨rfl, hb2⟩; have r02 := r0.below hb2 r0.lt; have r12 := r1.below hb2 r1.lt; have hb22 := bmore hb hb2; clear hb2) | (refine store_law rfl 40 _ _ rfl (w.heap.size + 1) .u64 m (Mk.wth m (a + k)) rfl rfl 40 r12 hlen.out hz2.out ?_; intro w7 hw7))
      go_roundw
      case rel =>
        refine ⟨k + 1, by omega, by go_num, r02.hidOther hw7 (by omega), ?_, below_hidSet hb22 hw7 (by omega)⟩
        rw [HS.out]; exact r12.hidSet hw7
      case measure => simp [intOf]; omega
    · obtain rfl : k = n := by omega
      have hlen := Lib.hid (zero_len hw.out)
      go_wp2_with (first | (refine load_law rfl 40 _ rfl (w.heap.size + 1) .u64 (Mk.ofL (List.range' a k)) rfl 40 _ r1 Try.underlying40 rfl hz.out ?_) | (refine store_law rfl 40 _ _ rfl w.heap.size .u64 Mk.zero (Mk.ofL (List.range' a k)) rfl rfl 40 r0 hlen.out hz.out ?_; intro w7 hw7))
      exact bodyPost_ret (results_row rfl _ _ w.heap.size .u64 40 _ _ rfl (r0.hidSet hw7) Try.underlying40 rfl hz.out) rfl ⟨rfl, below_hidSet hb hw7 (by omega)⟩

set_option maxRecDepth 100000 in
set_option maxHeartbeats 400000 in
theorem maskAll_ok (n : Nat) (w : World) (h : n ≤ 256) :
    Calls Try.prog 42 #[.int .i64 (n : Int)] w fun e w' => e = .returned (.tuple #[.agg (vs .u64 (Mk.ofL (List.range n))), .int .i64 0]) ∧ Below w.heap.size w w' := by
  have hw := Lib.hid (Mk.ofL_W4 (range'_lt (a := 0) (n := n) (by omega)))
  have hz := Lib.hid (info33' hw.out)
  have hlen := Lib.hid (zero_len hw.out)
  have r0 := Row.new w .u64 40 Mk.zero _ rfl
  have hb0 := (Below.refl _ w).alloc (Nat.le_refl _) (.cells (vs .u64 Mk.zero) 40)
  have hd : decide ((n : Int) < 0) = false := by simp
  have hd2 : decide ((256 : Int) < (n : Int)) = false := by simp; omega
  have hsp := fun W => span_any 0 n W (by omega)
  simp only [Int.natCast_zero, Int.zero_add] at hsp
  have HSP := Lib.hid hsp
  clear hsp
  go_enter Try.func42, Try.ntmps42
  go_wp2_with (first | ((go_at_call 58; refine (HSP.out _).mono ?_); rintro e w2 ⟨rfl, hb2⟩; have r02 := r0.below hb2 r0.lt; have hb22 := bmore hb0 hb2; clear hb2) | (refine store_law rfl 40 _ _ rfl w.heap.size .u64 Mk.zero (Mk.ofL (List.range' 0 n)) rfl rfl 40 r02 hlen.out hz.out ?_; intro w7 hw7))
  rw [List.range_eq_range']
  exact bodyPost_ret (results_row_tmp rfl _ _ w.heap.size .u64 40 _ _ rfl (r02.hidSet hw7) Try.underlying40 rfl hz.out) rfl ⟨rfl, below_hidSet hb22 hw7 (by omega)⟩

set_option maxRecDepth 100000 in
set_option maxHeartbeats 400000 in
theorem maskAll_bad (n : Int) (w : World) (h : n < 0 ∨ 256 < n) :
    Calls Try.prog 42 #[.int .i64 n] w fun e w' => e = .returned (.tuple #[.agg (vs .u64 Mk.zero), .int .i64 1]) ∧ Below w.heap.size w w' := by
  have r0 := Row.new w .u64 40 Mk.zero _ rfl
  have hb0 := (Below.refl _ w).alloc (Nat.le_refl _) (.cells (vs .u64 Mk.zero) 40)
  have hz := Lib.hid (info33' Mk.W4.zero)
  by_cases h0 : n < 0
  · go_enter Try.func42, Try.ntmps42
    go_wp2_with (refine store_law rfl 40 _ _ rfl w.heap.size .u64 Mk.zero Mk.zero rfl rfl 40 r0 rfl hz.out ?_; intro w7 hw7)
    exact bodyPost_ret (results_row_tmp rfl _ _ w.heap.size .u64 40 _ _ rfl (r0.hidSet hw7) Try.underlying40 rfl hz.out) rfl ⟨rfl, below_hidSet hb0 hw7 (by omega)⟩
  · have hd : decide (n < 0) = false := by simp; omega
    have h1 : 256 < n := by omega
    clear h
    go_enter Try.func42, Try.ntmps42
    go_wp2_with (refine store_law rfl 40 _ _ rfl w.heap.size .u64 Mk.zero Mk.zero rfl rfl 40 r0 rfl hz.out ?_; intro w7 hw7)
    exact bodyPost_ret (results_row_tmp rfl _ _ w.heap.size .u64 40 _ _ rfl (r0.hidSet hw7) Try.underlying40 rfl hz.out) rfl ⟨rfl, below_hidSet hb0 hw7 (by omega)⟩

end Go.Proofs.Ythmlibapjhmdbaa
/- Of. -/
namespace Go.Proofs.Ythmlibapjhmdbaa
open Go.RowKit

/-- A slice of ints, at A, whose numbers are xs; it lies below block B. -/
def NatsAt (w : World) (B : Nat) (A : Option Addr) (xs : List Nat) : Prop := xs = [] ∨ ∃ ad, A = some ad ∧ ad.block < B ∧ ∀ j, j < xs.length → w.cell? (ad.add j) = some (.int .i64 (Mk.nth xs j : Nat))
theorem block_add (a : Addr) (n : Nat) : (a.add n).block = a.block := by unfold Addr.add; split <;> rfl
theorem NatsAt.below {w w' : World} {B : Nat} {A : Option Addr} {xs : List Nat} (h : NatsAt w B A xs) (hb : Below B w w') : NatsAt w' B A xs := by
  rcases h with h | ⟨ad, h1, h2, h3⟩
  · exact .inl h
  · exact .inr ⟨ad, h1, h2, fun j hj => (hb.cell (p := ad.add j) (by rw [block_add]; exact h2)).trans (h3 j hj)⟩
theorem NatsAt.more {w : World} {B B' : Nat} {A : Option Addr} {xs : List Nat} (h : NatsAt w B A xs) (hB : B ≤ B') : NatsAt w B' A xs := by
  rcases h with h | ⟨ad, h1, h2, h3⟩
  · exact .inl h
  · exact .inr ⟨ad, h1, by omega, h3⟩
theorem NatsAt.at_ {w : World} {B : Nat} {A : Option Addr} {xs : List Nat} (h : NatsAt w B A xs) {k : Nat} (hk : k < xs.length) : ∃ ad, A = some ad ∧ ad.block < B ∧ w.cell? (ad.add k) = some (.int .i64 (Mk.nth xs k : Nat)) := by
  rcases h with h | ⟨ad, h1, h2, h3⟩
  · rw [h] at hk; cases hk
  · exact ⟨ad, h1, h2, h3 k hk⟩

theorem take_snoc (xs : List Nat) (k : Nat) (h : k < xs.length) : xs.take (k + 1) = xs.take k ++ [Mk.nth xs k] := by
  rw [List.take_succ_eq_append_getElem h]; simp [Mk.nth, h]
theorem nth_mem (xs : List Nat) (k : Nat) (h : k < xs.length) : Mk.nth xs k ∈ xs := by simp [Mk.nth, h]
theorem nodup_take (xs : List Nat) (k : Nat) (h : k < xs.length) (hn : xs.Nodup) : Mk.nth xs k ∉ xs.take k := by
  have : (xs.take (k + 1)).Nodup := hn.sublist (List.take_sublist _ _)
  rw [take_snoc xs k h, List.nodup_append] at this
  intro hm
  exact this.2.2 _ hm _ (by simp) rfl

set_option maxRecDepth 100000 in
set_option maxHeartbeats 400000 in
theorem of_ok (A : Option Addr) (cap : Nat) (xs : List Nat) (w : World) (hA : NatsAt w w.heap.size A xs) (hx : ∀ x ∈ xs, x < 256) (hn : xs.Nodup) (hl : xs.length ≤ maxLen) :
    Calls Try.prog 61 #[.slice A xs.length cap] w fun e w' => e = .returned (.tuple #[.agg (vs .u64 (Mk.ofL xs)), .int .i64 0]) ∧ Below w.heap.size w w' := by
  have HX := Lib.hid hx
  have HN := Lib.hid hn
  clear hx hn
  unfold maxLen at hl
  go_enter Try.func61, Try.ntmps61
  go_wp2_with fail
  go_loopw [9] (fun i wr => ∃ k : Nat, k ≤ xs.length ∧ i = .int .i64 k ∧ Row .u64 40 wr w.heap.size Mk.zero ∧ Row .u64 40 wr (w.heap.size + 1) (Mk.ofL (xs.take k)) ∧ Below w.heap.size w wr)
    (fun i _ => xs.length - (intOf i).toNat)
  case atStart =>
    refine ⟨0, by omega, rfl, (Row.new w .u64 40 Mk.zero _ rfl).alloc _, ?_, ((Below.refl _ _).alloc (Nat.le_refl _) _).alloc (by simp) _⟩
    have := Row.new (w.alloc (.cells (vs .u64 Mk.zero) 40)) .u64 40 Mk.zero _ rfl
    rw [size_alloc] at this
    exact this
  case round =>
    obtain ⟨k, hk, rfl, r0, r1, hb⟩ := hrel
    have hw := Lib.hid (Mk.ofL_W4 (xs := xs.take k) (fun x hx => HX.out x (List.mem_of_mem_take hx)))
    have hz := Lib.hid (info33' hw.out)
    by_cases hlt : k < xs.length
    · obtain ⟨ad, rfl, hblk, hcell⟩ := (hA.below hb).at_ hlt
      have hc := HX.out _ (nth_mem xs k hlt)
      have hw2 := Lib.hid (hw.out.wth hc)
      have HS : Hid (Mk.ofL (xs.take (k + 1)) = Mk.wth (Mk.ofL (xs.take k)) (Mk.nth xs k)) := by
        show _ = _; rw [take_snoc xs k hlt, Mk.ofL_snoc]
      have HF : Hid (Mk.hasB (Mk.ofL (xs.take k)) (Mk.nth xs k) = false) := by
        show _ = _
        rw [Mk.has_ofL (fun x hx => HX.out x (List.mem_of_mem_take hx))]
        simpa using nodup_take xs k hlt HN.out
      have hz2 := Lib.hid (info33' hw2.out)
      have hlen := Lib.hid (len_len hw.out hw2.out)
      generalize Mk.ofL (xs.take k) = m at *
      generalize Mk.nth xs k = c at *
      go_wp2_with (first | (refine load_w rfl 40 _ rfl (w.heap.size + 1) .u64 m rfl 40 _ r1 Try.underlying40 rfl hz.out ?_) | ((go_at_call 72; refine (isCore_yes _ _ (by omega) (by omega)).mono ?_); rintro e w' ⟨rfl, rfl⟩) | ((go_at_call 71; refine (has_in m c _ hw.out hc).mono ?_); rintro e w2 ⟨rfl, hb2⟩; rw [HF.out]; replace r0 := r0.below hb2 r0.lt; replace r1 := r1.below hb2 r1.lt; replace hb := bmore hb hb2; clear hb2) | ((go_at_call 68; refine (with_any m c _ hw.out hc).mono ?_); rintro e w2 ⟨rfl, hb2⟩; have r02 := r0.below hb2 r0.lt; have r12 := r1.below hb2 r1.lt; have hb22 := bmore hb hb2; clear hb2) | (refine store_law rfl 40 _ _ rfl (w.heap.size + 1) .u64 m (Mk.wth m c) rfl rfl 40 r12 hlen.out hz2.out ?_; intro w7 hw7))
      go_roundw
      case rel =>
        refine ⟨k + 1, by omega, by go_num, r02.hidOther hw7 (by omega), ?_, below_hidSet hb22 hw7 (by omega)⟩
        rw [HS.out]; exact r12.hidSet hw7
      case measure => simp [intOf]; omega
    · obtain rfl : k = xs.length := by omega
      rw [List.take_length] at r1 hw hz
      have hlen := Lib.hid (zero_len hw.out)
      go_wp2_with (first | (refine load_law rfl 40 _ rfl (w.heap.size + 1) .u64 (Mk.ofL xs) rfl 40 _ r1 Try.underlying40 rfl hz.out ?_) | (refine store_law rfl 40 _ _ rfl w.heap.size .u64 Mk.zero (Mk.ofL xs) rfl rfl 40 r0 hlen.out hz.out ?_; intro w7 hw7))
      exact bodyPost_ret (results_row_tmp rfl _ _ w.heap.size .u64 40 _ _ rfl (r0.hidSet hw7) Try.underlying40 rfl hz.out) rfl ⟨rfl, below_hidSet hb hw7 (by omega)⟩
end Go.Proofs.Ythmlibapjhmdbaa
/- Check, own, All, Socket of cores. -/
namespace Go.Proofs.Ythmlibapjhmdbaa
open Go.RowKit

/-- Block g is just these cells. -/
def Bk (w : World) (g : Nat) (t : TypeId) (cs : Array Value) : Prop := w.heap[g]? = some (.cells cs t (0, 0))
theorem Bk.lt {w : World} {g : Nat} {t : TypeId} {cs : Array Value} (h : Bk w g t cs) : g < w.heap.size := (Array.getElem?_eq_some_iff.1 h).1
theorem Bk.cell {w : World} {g : Nat} {t : TypeId} {cs : Array Value} (h : Bk w g t cs) (i : Nat) (v : Value) (hv : cs[i]? = some v) : w.cell? ⟨g, i, none⟩ = some v := (cell_of_row w g i cs t (0, 0) h).trans hv
theorem Bk.frozen {w : World} {g : Nat} {t : TypeId} {cs : Array Value} (h : Bk w g t cs) (i : Nat) : w.frozen? ⟨g, i, none⟩ = false := frozen_of_row w g i cs t h
theorem Bk.below {w w' : World} {B g : Nat} {t : TypeId} {cs : Array Value} (h : Bk w g t cs) (hb : Below B w w') (hg : g < B) : Bk w' g t cs := (hb.block g hg).trans h
theorem Bk.next {w w' : World} {g : Nat} {t : TypeId} {cs : Array Value} (h : Bk w g t cs) (hb : Below w.heap.size w w') : Bk w' g t cs := h.below hb h.lt
theorem Bk.alloc {w : World} {g : Nat} {t : TypeId} {cs : Array Value} (h : Bk w g t cs) (o : Obj) : Bk (w.alloc o) g t cs := (Below.heap_alloc w o g h.lt).trans h
theorem Bk.new (w : World) (t : TypeId) (cs : Array Value) : Bk (w.alloc (.cells cs t)) w.heap.size t cs := heap_alloc_new w _
theorem Row.next {k : IntKind} {t : TypeId} {w w' : World} {g : Nat} {l : List Nat} (h : Row k t w g l) (hb : Below w.heap.size w w') : Row k t w' g l := h.below hb h.lt

/-- A layout that may be. -/
def LOk (s p : Nat) : Prop := 1 ≤ s ∧ s ≤ 8 ∧ 1 ≤ p ∧ p ≤ 64 ∧ s * p ≤ 256
/-- A layout that may not be. -/
def LBad (s p : Int) : Prop := ¬ (1 ≤ s ∧ s ≤ 8 ∧ 1 ≤ p ∧ p ≤ 64 ∧ s * p ≤ 256)
theorem LOk_or (s p : Int) : (∃ a b : Nat, s = a ∧ p = b ∧ LOk a b) ∨ LBad s p := by
  by_cases h : 1 ≤ s ∧ s ≤ 8 ∧ 1 ≤ p ∧ p ≤ 64 ∧ s * p ≤ 256
  · left
    obtain ⟨h1, h2, h3, h4, h5⟩ := h
    obtain ⟨a, rfl⟩ := Int.eq_ofNat_of_zero_le (show 0 ≤ s by omega)
    obtain ⟨b, rfl⟩ := Int.eq_ofNat_of_zero_le (show 0 ≤ p by omega)
    refine ⟨a, b, rfl, rfl, by omega, by omega, by omega, by omega, ?_⟩
    have : ((a * b : Nat) : Int) ≤ 256 := by simpa using h5
    omega
  · exact .inr h

theorem mul_in (s p : Int) (h1 : 1 ≤ s) (h2 : s ≤ 8) (h3 : 1 ≤ p) (h4 : p ≤ 64) : 1 ≤ s * p ∧ s * p ≤ 512 := by
  constructor
  · have := Int.mul_le_mul h1 h3 (by omega) (by omega); simpa using this
  · have := Int.mul_le_mul h2 h4 (by omega) (by omega); simpa using this

theorem count_in (s p : Int) (w : World) (h1 : 1 ≤ s) (h2 : s ≤ 8) (h3 : 1 ≤ p) (h4 : p ≤ 64) :
    Calls Try.prog 43 #[.agg #[.int .i64 s, .int .i64 p]] w fun e w' => e = .returned (.int .i64 (s * p)) ∧ Below w.heap.size w w' := by
  have := mul_in s p h1 h2 h3 h4
  exact count_any s p w (IntWalk.i64_in _ (by omega))
theorem count_nat (s p : Nat) (w : World) (h : LOk s p) :
    Calls Try.prog 43 #[.agg #[.int .i64 s, .int .i64 p]] w fun e w' => e = .returned (.int .i64 (s * p : Nat)) ∧ Below w.heap.size w w' := by
  obtain ⟨h1, h2, h3, h4, h5⟩ := h
  have := count_in s p w (by omega) (by omega) (by omega) (by omega)
  simpa using this

set_option maxRecDepth 100000 in
set_option maxHeartbeats 400000 in
theorem check_ok (s p : Nat) (w : World) (h : LOk s p) :
    Calls Try.prog 29 #[.agg #[.int .i64 s, .int .i64 p]] w fun e w' => e = .returned (.int .i64 0) ∧ Below w.heap.size w w' := by
  have H := Lib.hid h
  obtain ⟨h1, h2, h3, h4, h5⟩ := h
  have hb0 := (Below.refl _ w).alloc (Nat.le_refl _) (.cells #[.int .i64 s, .int .i64 p] 28)
  have hd : decide ((256 : Int) < ((s * p : Nat) : Int)) = false := by simp; omega
  have hd' : decide ((256 : Int) < (s : Int) * (p : Int)) = false := by rw [← Int.natCast_mul]; exact hd
  clear h5
  go_enter Try.func29, Try.ntmps29
  go_wp2_with (first | ((go_at_call 49; refine (within_yes _ _ _ (by omega) (by omega)).mono ?_); rintro e w' ⟨rfl, rfl⟩) | ((go_at_call 43; refine (count_nat s p _ H.out).mono ?_); rintro e w2 ⟨rfl, hb2⟩; replace hb0 := bmore hb0 hb2; clear hb2))
  go_ret
  exact ⟨rfl, hb0⟩

set_option maxRecDepth 100000 in
set_option maxHeartbeats 400000 in
theorem check_bad (s p : Int) (w : World) (h : LBad s p) :
    Calls Try.prog 29 #[.agg #[.int .i64 s, .int .i64 p]] w fun e w' => e = .returned (.int .i64 1) ∧ Below w.heap.size w w' := by
  have hb0 := (Below.refl _ w).alloc (Nat.le_refl _) (.cells #[.int .i64 s, .int .i64 p] 28)
  unfold LBad at h
  by_cases h1 : s < 1 ∨ 8 < s
  · clear h
    go_enter Try.func29, Try.ntmps29
    go_wp2_with ((go_at_call 49; refine (within_no _ _ _ h1).mono ?_); rintro e w' ⟨rfl, rfl⟩)
    go_ret
    exact ⟨rfl, hb0⟩
  · have s1 : 1 ≤ s := by omega
    have s2 : s ≤ 8 := by omega
    clear h1
    by_cases h3 : p < 1 ∨ 64 < p
    · clear h
      go_enter Try.func29, Try.ntmps29
      go_wp2_with (first | ((go_at_call 49; with_reducible refine (within_yes s 8 _ s1 s2).mono ?_); rintro e w' ⟨rfl, rfl⟩) | ((go_at_call 49; with_reducible refine (within_no p 64 _ h3).mono ?_); rintro e w' ⟨rfl, rfl⟩))
      go_ret
      exact ⟨rfl, hb0⟩
    · have p1 : 1 ≤ p := by omega
      have p2 : p ≤ 64 := by omega
      clear h3
      have h5 : 256 < s * p := by
        have : ¬ s * p ≤ 256 := fun h5 => h ⟨s1, s2, p1, p2, h5⟩
        omega
      clear h
      have H5 := Lib.hid h5
      go_enter Try.func29, Try.ntmps29
      go_wp2_with (first | ((go_at_call 49; with_reducible refine (within_yes s 8 _ s1 s2).mono ?_); rintro e w' ⟨rfl, rfl⟩) | ((go_at_call 49; with_reducible refine (within_yes p 64 _ p1 p2).mono ?_); rintro e w' ⟨rfl, rfl⟩) | ((go_at_call 43; refine (count_in s p _ s1 s2 p1 p2).mono ?_); rintro e w2 ⟨rfl, hb2⟩; replace hb0 := bmore hb0 hb2; clear hb2))
      go_ret
      exact ⟨rfl, hb0⟩

set_option maxRecDepth 100000 in
set_option maxHeartbeats 400000 in
theorem own_any (s p : Int) (w : World) :
    Calls Try.prog 10 #[.agg #[.int .i64 s, .int .i64 p]] w fun e w' => e = .returned (.agg #[.int .i64 s, .int .i64 p]) ∧ Below w.heap.size w w' := by
  go_enter Try.func10, Try.ntmps10
  go_wp2
  refine bodyPost_ret (v := .agg #[.int .i64 s, .int .i64 p]) (by simp [results, Try.results10, go_sem]) rfl ⟨rfl, ?_⟩
  exact ((Below.refl _ _).alloc (Nat.le_refl _) _).alloc (by simp) _

set_option maxRecDepth 100000 in
set_option maxHeartbeats 400000 in
theorem call_ok (s p : Nat) (w : World) (h : LOk s p) :
    Calls Try.prog 23 #[.agg #[.int .i64 s, .int .i64 p]] w fun e w' => e = .returned (.agg (vs .u64 (Mk.ofL (List.range (s * p))))) ∧ Below w.heap.size w w' := by
  have H := Lib.hid h
  have h5 := h.2.2.2.2
  clear h
  have hw := Lib.hid (Mk.ofL_W4 (xs := List.range (s * p)) (fun x hx => by rw [List.mem_range] at hx; omega))
  have hz := Lib.hid (info33' hw.out)
  have hlen := Lib.hid (zero_len hw.out)
  have ha := fun W => maskAll_ok (s * p) W h5
  have HA := Lib.hid ha
  clear ha h5
  have hb0 := ((Below.refl _ w).alloc (Nat.le_refl _) (.cells #[.int .i64 s, .int .i64 p] 28)).alloc (by simp) (.cells (vs .u64 Mk.zero) 40)
  have r0 : Row .u64 40 ((w.alloc (.cells #[.int .i64 s, .int .i64 p] 28)).alloc (.cells (vs .u64 Mk.zero) 40)) (w.heap.size + 1) Mk.zero := by
    have := Row.new (w.alloc (.cells #[.int .i64 s, .int .i64 p] 28)) .u64 40 Mk.zero _ rfl
    rw [size_alloc] at this
    exact this
  have k0 := (Bk.new w 28 #[.int .i64 s, .int .i64 p]).alloc (.cells (vs .u64 Mk.zero) 40)
  generalize Mk.ofL (List.range (s * p)) = m at *
  go_enter Try.func23, Try.ntmps23
  go_wp2_with fail
  refine (check_ok s p _ H.out).mono ?_
  rintro e w2 ⟨rfl, hb2⟩
  replace k0 := k0.next hb2
  replace r0 := r0.next hb2
  replace hb0 := bmore hb0 hb2
  clear hb2
  have c0 := k0.cell 0 _ rfl
  have c1 := k0.cell 1 _ rfl
  go_wp2_with fail
  refine (count_nat s p _ H.out).mono ?_
  rintro e w3 ⟨rfl, hb3⟩
  clear c0 c1
  replace r0 := r0.next hb3
  replace hb0 := bmore hb0 hb3
  clear hb3 k0
  go_wp2_with fail
  refine (HA.out _).mono ?_
  rintro e w4 ⟨rfl, hb4⟩
  replace r0 := r0.next hb4
  replace hb0 := bmore hb0 hb4
  clear hb4
  have r1 := Row.new w4 .u64 40 Mk.zero _ rfl
  have hs4 := hb0.size
  have hl4 := r0.lt
  replace r0 := r0.alloc (.cells (vs .u64 Mk.zero) 40)
  replace hb0 := hb0.alloc (by omega) (.cells (vs .u64 Mk.zero) 40)
  go_wp2_with (first | (refine store_law rfl 40 _ _ rfl w4.heap.size .u64 Mk.zero m rfl rfl 40 r1 hlen.out hz.out ?_; intro w7 hw7; have r11 := r1.hidSet hw7; have r01 := r0.hidOther hw7 (by omega); have hb1 := below_hidSet hb0 hw7 (by omega); clear hw7) | (refine load_w rfl 40 _ rfl w4.heap.size .u64 m rfl 40 _ r11 Try.underlying40 rfl hz.out ?_) | (refine store_law rfl 40 _ _ rfl (w.heap.size + 1) .u64 Mk.zero m rfl rfl 40 r01 hlen.out hz.out ?_; intro w8 hw8))
  exact bodyPost_ret (results_row rfl _ _ (w.heap.size + 1) .u64 40 _ _ rfl (r01.hidSet hw8) Try.underlying40 rfl hz.out) rfl ⟨rfl, below_hidSet hb1 hw8 (by omega)⟩

set_option maxRecDepth 100000 in
set_option maxHeartbeats 400000 in
theorem call_bad (s p : Int) (w : World) (h : LBad s p) :
    Calls Try.prog 23 #[.agg #[.int .i64 s, .int .i64 p]] w fun e w' => e = .returned (.agg (vs .u64 Mk.zero)) ∧ Below w.heap.size w w' := by
  have H := Lib.hid h
  clear h
  have hz := Lib.hid (info33' Mk.W4.zero)
  have hb0 := ((Below.refl _ w).alloc (Nat.le_refl _) (.cells #[.int .i64 s, .int .i64 p] 28)).alloc (by simp) (.cells (vs .u64 Mk.zero) 40)
  have r0 : Row .u64 40 ((w.alloc (.cells #[.int .i64 s, .int .i64 p] 28)).alloc (.cells (vs .u64 Mk.zero) 40)) (w.heap.size + 1) Mk.zero := by
    have := Row.new (w.alloc (.cells #[.int .i64 s, .int .i64 p] 28)) .u64 40 Mk.zero _ rfl
    rw [size_alloc] at this
    exact this
  go_enter Try.func23, Try.ntmps23
  go_wp2_with fail
  refine (check_bad s p _ H.out).mono ?_
  rintro e w2 ⟨rfl, hb2⟩
  replace r0 := r0.next hb2
  replace hb0 := bmore hb0 hb2
  clear hb2
  go_wp2_with (refine store_law rfl 40 _ _ rfl (w.heap.size + 1) .u64 Mk.zero Mk.zero rfl rfl 40 r0 rfl hz.out ?_; intro w8 hw8)
  exact bodyPost_ret (results_row rfl _ _ (w.heap.size + 1) .u64 40 _ _ rfl (r0.hidSet hw8) Try.underlying40 rfl hz.out) rfl ⟨rfl, below_hidSet hb0 hw8 (by omega)⟩

theorem range_W4 {n : Nat} (h : n ≤ 256) : Mk.W4 (Mk.ofL (List.range n)) := Mk.ofL_W4 (fun x hx => by rw [List.mem_range] at hx; omega)
theorem range_has {n : Nat} (h : n ≤ 256) (c : Nat) : Mk.hasB (Mk.ofL (List.range n)) c = decide (c < n) := by
  rw [Mk.has_ofL (fun x hx => by rw [List.mem_range] at hx; omega)]; simp

set_option maxRecDepth 100000 in
set_option maxHeartbeats 400000 in
theorem has_no (l : List Nat) (c : Int) (w : World) (h : c < 0 ∨ 256 ≤ c) :
    Calls Try.prog 71 #[.agg (vs .u64 l), .int .i64 c] w fun e w' => e = .returned (.bool false) ∧ Below w.heap.size w w' := by
  go_enter Try.func71, Try.ntmps71
  go_wp2_with (go_at_call 72; refine (isCore_no _ _ h).mono ?_; rintro e w' ⟨rfl, rfl⟩)
  go_ret
  exact ⟨rfl, (Below.refl _ _).alloc (Nat.le_refl _) _⟩

end Go.Proofs.Ythmlibapjhmdbaa
