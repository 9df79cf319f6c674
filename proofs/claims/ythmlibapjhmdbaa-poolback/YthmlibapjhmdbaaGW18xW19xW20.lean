/- The document's All, of masks and of layouts. -/
import Derived.Test.YthmlibapjhmdbaaGQ9xW16xW17
import Derived.Deep.AppendLies
namespace Go.Proofs.Ythmlibapjhmdbaa
open Go.RowKit Go.Shelf

/-- Numbers as ints. -/
def nv (l : List Nat) : List Value := l.map fun x : Nat => Value.int .i64 (x : Int)
theorem nv_snoc (l : List Nat) (x : Nat) : nv (l ++ [x]) = nv l ++ [Value.int .i64 (x : Int)] := by simp [nv]
theorem cv_nv (l : List Core) : cv l = nv (l.map (·.1)) := by simp [cv, nv]
theorem nats_nv {w : World} {base n cap : Nat} {xs : List Nat} {A : Option Addr} (hn : xs.length = n) (h : w.ownsRow base 3 1 (.slice A n cap) n (nv xs)) : NatsAt w w.heap.size A xs := by
  rcases h.2 with ⟨h0, h1⟩ | ⟨g', cap', cur, h1, h2, h3, h4, h5, h6, h7⟩
  · subst h1; exact .inl (List.length_eq_zero_iff.1 hn)
  · cases h1
    refine .inr ⟨_, rfl, (Array.getElem?_eq_some_iff.1 h3).1, fun j hj => ?_⟩
    have hadd : (⟨g', 0, none⟩ : Addr).add j = ⟨g', j, none⟩ := by unfold Addr.add; split <;> simp_all
    rw [hadd, cell_of_row w g' j cur 3 (0, 0) h3]
    have e1 : cur[j]? = (nv xs)[j]? := by
      rw [← h7, List.getElem?_take, if_pos (by omega)]; simp
    rw [e1]
    simp [nv, Mk.nth_getElem?, hj]
/-- Behind an append onto a slice of its own: what lies below is as it was. -/
theorem appended_below {W w1 : World} {n₀ : Nat} {e : TypeId} {size : Nat} {v : Value} {k : Nat} {xs : List Value} {tmp : Obj} (hrow : W.ownsRow n₀ e size v k xs) (hn₀ : n₀ ≤ W.heap.size) (hgrow : (W.alloc tmp).grownBy w1 v.ownBlock) : Below n₀ W w1 := by
  refine ((Below.refl n₀ W).alloc hn₀ tmp).grown hgrow (by simp; omega) fun j ej => ?_
  rcases hrow.2 with ⟨rfl, _⟩ | ⟨g, cap, cur, rfl, hb, _, _⟩
  · simp [Value.ownBlock] at ej
  · obtain rfl : g = j := by simpa [Value.ownBlock] using ej
    exact hb

end Go.Proofs.Ythmlibapjhmdbaa
/- The document's Order. -/
namespace Go.Proofs.Ythmlibapjhmdbaa
open Go.RowKit Go.Shelf

set_option maxRecDepth 100000 in
set_option maxHeartbeats 1000000 in
theorem rOrder_bad (s p d : Int) (w : World) (h : LBad s p) :
    Calls Try.prog 62 #[.agg #[.int .i64 s, .int .i64 p], .int .i64 d] w fun e w' => e = .returned (.tuple #[.slice none 0 0, .int .i64 1]) ∧ Below w.heap.size w w' := by
  have H := Lib.hid h
  clear h
  have hb0 := (Below.refl _ w).alloc (Nat.le_refl _) (.cells #[.int .i64 s, .int .i64 p] 23)
  go_enter Try.func62, Try.ntmps62
  go_wp2_with fail
  refine (rCheck_bad s p _ H.out).mono ?_
  rintro e w2 ⟨rfl, hb2⟩
  replace hb0 := bmore hb0 hb2
  clear hb2
  go_wp2_with fail
  go_ret2
  exact ⟨rfl, hb0⟩
set_option maxRecDepth 100000 in
set_option maxHeartbeats 1000000 in
theorem rOrder_none (s p : Nat) (d : Int) (w : World) (h : LOk s p) (hd : d < 0 ∨ 1 < d) :
    Calls Try.prog 62 #[.agg #[.int .i64 s, .int .i64 p], .int .i64 d] w fun e w' => e = .returned (.tuple #[.slice none 0 0, .int .i64 1]) ∧ Below w.heap.size w w' := by
  have H := Lib.hid h
  clear h
  have hb0 := (Below.refl _ w).alloc (Nat.le_refl _) (.cells #[.int .i64 s, .int .i64 p] 23)
  go_enter Try.func62, Try.ntmps62
  go_wp2_with fail
  refine (rCheck_ok s p _ H.out).mono ?_
  rintro e w2 ⟨rfl, hb2⟩
  replace hb0 := bmore hb0 hb2
  clear hb2
  by_cases h0 : d < 0
  · go_wp2_with fail
    go_ret2
    exact ⟨rfl, hb0⟩
  · have h1 : 1 < d := by omega
    have t0 : decide (d < 0) = false := by simpa using h0
    clear hd h0
    go_wp2_with fail
    go_ret2
    exact ⟨rfl, hb0⟩

/-- A slice of its own that holds these numbers. -/
def GivesN (w : World) (zs : List Nat) (n : Nat) (e : Ending) (w' : World) : Prop :=
  ∃ v, e = .returned (.tuple #[v, .int .i64 0]) ∧ w'.ownsRow w.heap.size 3 1 v n (nv zs) ∧ Below w.heap.size w w'

set_option maxRecDepth 100000 in
set_option maxHeartbeats 1000000 in
theorem rOrder_block (s p : Nat) (w : World) (h : LOk s p) :
    Calls Try.prog 62 #[.agg #[.int .i64 s, .int .i64 p], .int .i64 0] w (GivesN w ((List.range (s * p)).map id) (s * p)) := by
  have H := Lib.hid h
  have hC := Lib.hid (fun W => rCount_ok s p W h)
  have h5 := h.2.2.2.2
  clear h
  generalize s * p = N at *
  obtain ⟨i0, hi, hz0, hz1, hz2⟩ := info_parts info3
  have hb0 := (Below.refl _ w).alloc (Nat.le_refl _) (.cells #[.int .i64 s, .int .i64 p] 23)
  have k0 := Bk.new w 23 #[.int .i64 s, .int .i64 p]
  go_enter Try.func62, Try.ntmps62
  go_wp2_with fail
  refine (rCheck_ok s p _ H.out).mono ?_
  rintro e w2 ⟨rfl, hb2⟩
  replace k0 := k0.next hb2
  replace hb0 := bmore hb0 hb2
  clear hb2
  go_wp2_with fail
  go_loopw [6, 7] (fun o i wr => ∃ (k : Nat), k ≤ N ∧ i = .int .i64 k ∧ wr.ownsRow (w.heap.size + 1) 3 1 o k (nv (List.range k)) ∧ Bk wr w.heap.size 23 #[.int .i64 s, .int .i64 p] ∧ Below w.heap.size w wr)
    (fun _ i _ => N - (intOf i).toNat)
  case atStart => exact ⟨0, Nat.zero_le _, rfl, World.ownsRow_nil _ _ _ _, k0, hb0⟩
  case round =>
    clear k0 hb0
    obtain ⟨k, hk, rfl, hrow, k0, hb0⟩ := hrel
    obtain ⟨A, cap, rfl⟩ := own_form hrow
    have c0 := k0.cell 0 _ rfl
    have c1 := k0.cell 1 _ rfl
    go_wp2_with fail
    refine (hC.out _).mono ?_
    rintro e w3 ⟨rfl, hb3⟩
    replace hrow := own_next hrow hb3
    replace k0 := k0.next hb3
    replace hb0 := bmore hb0 hb3
    clear hb3 c0 c1
    by_cases hlt : k < N
    · have hl0 := k0.lt
      go_wp2_with (at_builtin; refine wpList_append_own _ rfl _ _ 44 rfl (w.heap.size + 1) 3 i0 (.int .i64 0) 1 8 Try.underlying44 hi hz0 hz1 hz2 rfl (by decide) _ _ _ rfl (hrow.alloc _) ⟨w3.heap.size, 0, none⟩ 1 1 [.int .i64 (k : Int)] rfl rfl (cell_one_new _ _ _) (by simp [Value.oneCell']) (by unfold maxLen; omega) (by omega) (by simp; omega) ?_; intro v' w1 hown' hgrow _; obtain ⟨g', cap', rfl⟩ := ownsRow_succ hown'; have hb1 := appended_below hrow (by omega) hgrow)
      go_roundw
      case rel => exact ⟨k + 1, by omega, by go_num, by rw [List.range_succ, nv_snoc]; exact hown', k0.below hb1 (by omega), hb0.trans (hb1.mono (by omega))⟩
      case measure => simp [intOf]; omega
    · obtain rfl : k = N := by omega
      go_wp2_with fail
      go_ret2
      exact ⟨_, rfl, by rw [List.map_id]; exact Joins.ownsRow_le hrow (by omega), hb0⟩

theorem cyc_range_snoc (s p k : Nat) : (List.range (k + 1)).map (cyc s p) = (List.range k).map (cyc s p) ++ [cyc s p k] := by simp [List.range_succ]

set_option maxRecDepth 100000 in
set_option maxHeartbeats 1000000 in
theorem rOrder_cyclic (s p : Nat) (w : World) (h : LOk s p) :
    Calls Try.prog 62 #[.agg #[.int .i64 s, .int .i64 p], .int .i64 1] w (GivesN w ((List.range (s * p)).map (cyc s p)) (s * p)) := by
  have H := Lib.hid h
  obtain ⟨h1, h2, h3, h4, h5⟩ := h
  have H5 := Lib.hid h5
  clear h5
  obtain ⟨i0, hi, hz0, hz1, hz2⟩ := info_parts info3
  have hb0 := (Below.refl _ w).alloc (Nat.le_refl _) (.cells #[.int .i64 s, .int .i64 p] 23)
  have k0 := Bk.new w 23 #[.int .i64 s, .int .i64 p]
  go_enter Try.func62, Try.ntmps62
  go_wp2_with fail
  refine (rCheck_ok s p _ H.out).mono ?_
  rintro e w2 ⟨rfl, hb2⟩
  replace k0 := k0.next hb2
  replace hb0 := bmore hb0 hb2
  clear hb2
  go_wp2_with fail
  go_loopw [6, 8] (fun o i wr => ∃ (q : Nat), q ≤ p ∧ i = .int .i64 q ∧ wr.ownsRow (w.heap.size + 1) 3 1 o (q * s) (nv ((List.range (q * s)).map (cyc s p))) ∧ Bk wr w.heap.size 23 #[.int .i64 s, .int .i64 p] ∧ Below w.heap.size w wr)
    (fun _ i _ => p - (intOf i).toNat)
  case atStart =>
    refine ⟨0, Nat.zero_le _, rfl, ?_, k0, hb0⟩
    rw [Nat.zero_mul]
    exact World.ownsRow_nil _ _ _ _
  case round =>
    clear k0 hb0
    obtain ⟨q, hq, rfl, hrow, k0, hb0⟩ := hrel
    obtain ⟨A, cap, rfl⟩ := own_form hrow
    have c0 := k0.cell 0 _ rfl
    have c1 := k0.cell 1 _ rfl
    by_cases hlt : q < p
    · have hdq : decide ((q : Int) < (p : Int)) = true := by simp; omega
      have hdq2 : decide (q < p) = true := by simp; omega
      go_wp2_with fail
      obtain ⟨Wq, hWq⟩ : ∃ Wq, Wq = wr := ⟨_, rfl⟩
      subst hWq
      clear c0 c1
      go_loopw [6, 9] (fun o i wr => ∃ (t : Nat), t ≤ s ∧ i = .int .i64 t ∧ wr.ownsRow (w.heap.size + 1) 3 1 o (q * s + t) (nv ((List.range (q * s + t)).map (cyc s p))) ∧ Bk wr w.heap.size 23 #[.int .i64 s, .int .i64 p] ∧ Below w.heap.size w wr)
        (fun _ i _ => s - (intOf i).toNat)
      case atStart => exact ⟨0, Nat.zero_le _, rfl, hrow, k0, hb0⟩
      case round =>
        clear k0 hb0 hrow
        obtain ⟨t, ht, rfl, hrow, k0, hb0⟩ := hrel
        obtain ⟨A2, cap2, rfl⟩ := own_form hrow
        have c0 := k0.cell 0 _ rfl
        have c1 := k0.cell 1 _ rfl
        by_cases hlt2 : t < s
        · have hcl := cyc_lt s p q t hlt2 hlt
          have hpl := place_lt s p q t hlt2 hlt
          have HC := Lib.hid (cyc_at s p q t hlt2)
          have hs1 : t * p + q < 256 := Nat.lt_of_lt_of_le hcl H5.out
          have hp1 : q * s + t < 256 := Nat.lt_of_lt_of_le hpl H5.out
          obtain ⟨y, hy⟩ : ∃ y, y = t * p + q := ⟨_, rfl⟩
          have hyi : (t : Int) * (p : Int) + (q : Int) = (y : Int) := by rw [hy]; simp
          have b1 : (0 : Int) ≤ (t : Int) * (p : Int) := by
            have : (0 : Int) ≤ ((t * p : Nat) : Int) := by omega
            simpa using this
          have b2 : (t : Int) * (p : Int) ≤ 256 := by omega
          have HY := Lib.hid hy
          rw [← hy] at hs1
          clear hy hcl hpl
          have hl0 := k0.lt
          go_wp2_with (at_builtin; refine wpList_append_own _ rfl _ _ 44 rfl (w.heap.size + 1) 3 i0 (.int .i64 0) 1 8 Try.underlying44 hi hz0 hz1 hz2 rfl (by decide) _ _ _ rfl (hrow.alloc _) ⟨wr.heap.size, 0, none⟩ 1 1 [.int .i64 (y : Int)] rfl rfl (cell_one_new _ _ _) (by simp [Value.oneCell']) (by unfold maxLen; omega) (by omega) (by simp; omega) ?_; intro v' w1 hown' hgrow _; obtain ⟨g', cap', rfl⟩ := ownsRow_succ hown'; have hb1 := appended_below hrow (by omega) hgrow)
          go_roundw
          case rel => exact ⟨t + 1, by omega, by go_num, by rw [← Nat.add_assoc, cyc_range_snoc, nv_snoc, HC.out, ← HY.out]; exact hown', k0.below hb1 (by omega), hb0.trans (hb1.mono (by omega))⟩
          case measure => simp [intOf]; omega
        · obtain rfl : t = s := by omega
          go_wp2_with fail
          go_roundw
          case rel => exact ⟨q + 1, by omega, by go_num, by rw [Nat.add_mul, Nat.one_mul]; exact hrow, k0, hb0⟩
          case measure => simp [intOf]; omega
    · obtain rfl : q = p := by omega
      go_wp2_with fail
      go_ret2
      refine ⟨_, rfl, ?_, hb0⟩
      rw [show s * q = q * s from Nat.mul_comm _ _]
      exact Joins.ownsRow_le hrow (by omega)
end Go.Proofs.Ythmlibapjhmdbaa
/- The document's Has, Same of masks; told. -/
namespace Go.Proofs.Ythmlibapjhmdbaa
open Go.RowKit Go.Shelf

attribute [local go_sem] eq33 eq40

theorem half_pow (x k : Nat) : x / 2 ^ k / 2 = x / 2 ^ (k + 1) := by rw [Nat.div_div_eq_div_mul, Nat.pow_succ]

set_option maxRecDepth 100000 in
set_option maxHeartbeats 400000 in
theorem rHas_in (l : List Nat) (c : Nat) (w : World) (hl : Mk.W4 l) (hc : c < 256) :
    Calls Try.prog 63 #[.agg (vs .u64 l), .int .i64 c] w fun e w' => e = .returned (.bool (Mk.hasB l c)) ∧ Below w.heap.size w w' := by
  have HL := Lib.hid hl
  clear hl
  have r0 := Row.new w .u64 35 l _ rfl
  have hc0 := r0.cell (c / 64) (by rw [HL.out.1]; omega)
  have t1 : decide ((c : Int) < 0) = false := by simp
  have t2 : decide ((255 : Int) < (c : Int)) = false := by simp; omega
  go_enter Try.func63, Try.ntmps63
  go_wp2_with fail
  go_loop [5, 6] (fun a i => ∃ k : Nat, k ≤ c % 64 ∧ i = .int .i64 k ∧ a = .int .u64 (Mk.nth l (c / 64) / 2 ^ k : Nat)) (fun _ i => c % 64 - (intOf i).toNat)
  case atStart => exact ⟨0, Nat.zero_le _, rfl, by simp⟩
  case round =>
    obtain ⟨k, hk, rfl, rfl⟩ := hrel
    have HX : Hid (Mk.nth l (c / 64) / 2 ^ k < 2 ^ 64) := Nat.lt_of_le_of_lt (Nat.div_le_self _ _) (HL.out.2 _)
    by_cases hlt : k < c % 64
    · have HS := Lib.hid (half_pow (Mk.nth l (c / 64)) k)
      generalize Mk.nth l (c / 64) / 2 ^ k = x at *
      have hi1 : (k : Int) < (c : Int) % 64 := by omega
      have hq : IntKind.u64.wrap ((x : Int) / 2) = (x : Int) / 2 := by
        have := HX.out
        rw [IntKind.wrap_u64]
        omega
      go_wp2_with fail
      go_round
      case rel => exact ⟨k + 1, by omega, by go_num, by rw [← HS.out]; simp⟩
      case measure => simp [intOf]; omega
    · obtain rfl : k = c % 64 := by omega
      have hi1 : decide (((c % 64 : Nat) : Int) < (c : Int) % 64) = false := by simp
      have hq : ((((Mk.nth l (c / 64) / 2 ^ (c % 64) : Nat) : Int) % 2) == 1) = Mk.hasB l c := by
        unfold Mk.hasB
        rw [Nat.testBit_eq_decide_div_mod_eq]
        generalize Mk.nth l (c / 64) / 2 ^ (c % 64) = y
        rw [Bool.eq_iff_iff]
        simp
        omega
      have HQ := Lib.hid hq
      clear hq
      generalize Mk.nth l (c / 64) / 2 ^ (c % 64) = y at *
      go_wp2_with fail
      go_ret
      refine ⟨?_, (Below.refl _ _).alloc (Nat.le_refl _) _⟩
      rw [← HQ.out]
      rfl

/-- Masks in a block, one behind the other: a cell. -/
theorem mask_cell {w : World} {t : TypeId} {g : Nat} {ms : List (List Nat)} {k : Nat} {m : List Nat} (h : Row .u64 t w g ms.flatten) (h4 : All4 ms) (hm : ms[k]? = some m) {j : Nat} (hj : j < 4) : w.cell? ⟨g, k * 4 + j, none⟩ = some (.int .u64 (Mk.nth m j : Nat)) := by
  have hk : k < ms.length := (List.getElem?_eq_some_iff.1 hm).1
  rw [h.cell (k * 4 + j) (by rw [flat_len h4]; omega), flat_nth h4 hk hj, List.getD_eq_getElem?_getD, hm]; rfl

/-- A slice of masks: its cells. -/
def MasksAt (w : World) (B g : Nat) (ms : List (List Nat)) : Prop := g < B ∧ ∀ k m, ms[k]? = some m → ∀ j, j < 4 → w.cell? ⟨g, k * 4 + j, none⟩ = some (.int .u64 (Mk.nth m j : Nat))
theorem MasksAt.below {w w' : World} {B g : Nat} {ms : List (List Nat)} (h : MasksAt w B g ms) (hb : Below B w w') : MasksAt w' B g ms :=
  ⟨h.1, fun k m hm j hj => (hb.cell (p := ⟨g, k * 4 + j, none⟩) h.1).trans (h.2 k m hm j hj)⟩
theorem MasksAt.more {w : World} {B B' g : Nat} {ms : List (List Nat)} (h : MasksAt w B g ms) (hB : B ≤ B') : MasksAt w B' g ms := ⟨Nat.lt_of_lt_of_le h.1 hB, h.2⟩
theorem MasksAt.next {w w' : World} {g : Nat} {ms : List (List Nat)} (h : MasksAt w w.heap.size g ms) (hb : Below w.heap.size w w') : MasksAt w' w'.heap.size g ms := (h.below hb).more hb.size
theorem masks_row {w : World} {t : TypeId} {g : Nat} {ms : List (List Nat)} (h : Row .u64 t w g ms.flatten) (h4 : All4 ms) : MasksAt w w.heap.size g ms := ⟨h.lt, fun _ _ hm _ hj => mask_cell h h4 hm hj⟩

set_option maxRecDepth 100000 in
set_option maxHeartbeats 400000 in
theorem rSame_eq (g g' ca cb n : Nat) (ms : List (List Nat)) (w : World) (hA : MasksAt w w.heap.size g ms) (hB : MasksAt w w.heap.size g' ms) (hn : ms.length = n) (hl : n ≤ 32) :
    Calls Try.prog 32 #[.slice (some ⟨g, 0, none⟩) n ca, .slice (some ⟨g', 0, none⟩) n cb] w fun e w' => e = .returned (.bool true) ∧ Below w.heap.size w w' := by
  have HN := Lib.hid hn
  clear hn
  go_enter Try.func32, Try.ntmps32
  go_wp2_with fail
  go_loopw [5] (fun i wr => ∃ k : Nat, k ≤ n ∧ i = .int .i64 k ∧ Below w.heap.size w wr)
    (fun i _ => n - (intOf i).toNat)
  case atStart => exact ⟨0, Nat.zero_le _, rfl, Below.refl _ _⟩
  case round =>
    obtain ⟨k, hk, rfl, hb⟩ := hrel
    by_cases hlt : k < n
    · obtain ⟨m, hm⟩ : ∃ m, ms[k]? = some m := ⟨ms[k]'(by rw [HN.out]; exact hlt), List.getElem?_eq_getElem _⟩
      have a0 := (hA.below hb).2 k m hm 0 (by decide)
      have a1 := (hA.below hb).2 k m hm 1 (by decide)
      have a2 := (hA.below hb).2 k m hm 2 (by decide)
      have a3 := (hA.below hb).2 k m hm 3 (by decide)
      have b0 := (hB.below hb).2 k m hm 0 (by decide)
      have b1 := (hB.below hb).2 k m hm 1 (by decide)
      have b2 := (hB.below hb).2 k m hm 2 (by decide)
      have b3 := (hB.below hb).2 k m hm 3 (by decide)
      simp only [Nat.add_zero] at a0 b0
      clear hm
      have i0 : (0 : Int) ≤ (k : Int) := by omega
      have i1 : (k : Int) < (n : Int) := by omega
      go_wp2_with fail
      go_quiet (fail)
      go_wp2_with fail
      go_roundw
      case rel => exact ⟨k + 1, by omega, by go_num, below_drewN' hb _⟩
      case measure => simp [intOf]; omega
    · obtain rfl : k = n := by omega
      go_wp2_with fail
      go_ret
      exact ⟨rfl, hb⟩
set_option maxRecDepth 100000 in
set_option maxHeartbeats 400000 in
theorem rSame_nil (w : World) : Calls Try.prog 32 #[.slice none 0 0, .slice none 0 0] w fun e w' => e = .returned (.bool true) ∧ Below w.heap.size w w' := by
  go_enter Try.func32, Try.ntmps32
  go_wp2_with fail
  go_loop [5] (fun i => i = .int .i64 0) (fun _ => 0)
  case atStart => rfl
  case round =>
    subst hrel
    go_wp2_with fail
    go_ret
    exact ⟨rfl, Below.refl _ _⟩

theorem infoB : (Try.prog.info? 35).map (fun i => (i.zero, i.size, i.bytes)) = some (some (.agg #[.int .u64 0, .int .u64 0, .int .u64 0, .int .u64 0]), 4, 32) := by kernel_rfl
/-- A mask's words, as values. -/
def w4 (m : List Nat) : List Value := [.int .u64 (Mk.nth m 0 : Nat), .int .u64 (Mk.nth m 1 : Nat), .int .u64 (Mk.nth m 2 : Nat), .int .u64 (Mk.nth m 3 : Nat)]
def mv (ms : List (List Nat)) : List Value := ms.flatMap w4
theorem mv_snoc (ms : List (List Nat)) (m : List Nat) : mv (ms ++ [m]) = mv ms ++ w4 m := by simp [mv]
theorem mv_get : ∀ (ms : List (List Nat)) (k : Nat) (m : List Nat), ms[k]? = some m → ∀ j, j < 4 → (mv ms)[k * 4 + j]? = some (.int .u64 (Mk.nth m j : Nat))
  | x :: ms, 0, m, h, j, hj => by
    obtain rfl : x = m := by simpa using h
    match j, hj with
    | 0, _ | 1, _ | 2, _ | 3, _ => rfl
  | x :: ms, k + 1, m, h, j, hj => by
    have ih := mv_get ms k m (by simpa using h) j hj
    show (w4 x ++ mv ms)[_]? = _
    have hl : (w4 x).length = 4 := rfl
    rw [List.getElem?_append_right (by omega), hl, show (k + 1) * 4 + j - 4 = k * 4 + j by omega, ih]
theorem masks_own {w : World} {base g n cap : Nat} {ms : List (List Nat)} (hn : ms.length = n) (h : w.ownsRow base 35 4 (.slice (some ⟨g, 0, none⟩) n cap) n (mv ms)) : MasksAt w w.heap.size g ms := by
  rcases h.2 with ⟨h0, _⟩ | ⟨g', cap', cur, h1, h2, h3, h4, h5, h6, h7⟩
  · cases h0
  · cases h1
    refine ⟨(Array.getElem?_eq_some_iff.1 h3).1, fun k m hm j hj => ?_⟩
    have hk : k < ms.length := (List.getElem?_eq_some_iff.1 hm).1
    rw [cell_of_row w g (k * 4 + j) cur 35 (0, 0) h3, ← mv_get ms k m hm j hj, ← h7, List.getElem?_take, if_pos (by omega)]
    simp
end Go.Proofs.Ythmlibapjhmdbaa
