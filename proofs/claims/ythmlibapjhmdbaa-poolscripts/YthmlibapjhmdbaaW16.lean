/- The document's Check, Count, Socket. -/
import Derived.Test.YthmlibapjhmdbaaW13
namespace Go.Proofs.Ythmlibapjhmdbaa
open Go.RowKit Go.Shelf

set_option maxRecDepth 100000 in
set_option maxHeartbeats 400000 in
theorem rCheck_ok (s p : Nat) (w : World) (h : LOk s p) :
    Calls Try.prog 20 #[.agg #[.int .i64 s, .int .i64 p]] w fun e w' => e = .returned (.int .i64 0) ∧ Below w.heap.size w w' := by
  obtain ⟨h1, h2, h3, h4, h5⟩ := h
  obtain ⟨N, hN⟩ : ∃ N, N = s * p := ⟨_, rfl⟩
  have hm : (s : Int) * (p : Int) = (N : Int) := by rw [hN]; simp
  rw [← hN] at h5
  clear hN
  have t1 : decide ((s : Int) < 1) = false := by simp; omega
  have t2 : decide ((8 : Int) < (s : Int)) = false := by simp; omega
  have t3 : decide ((p : Int) < 1) = false := by simp; omega
  have t4 : decide ((64 : Int) < (p : Int)) = false := by simp; omega
  have t5 : decide ((256 : Int) < (N : Int)) = false := by simp; omega
  go_enter Try.func20, Try.ntmps20
  go_wp2_with fail
  go_ret
  exact ⟨rfl, (Below.refl _ _).alloc (Nat.le_refl _) _⟩

set_option maxRecDepth 100000 in
set_option maxHeartbeats 400000 in
theorem rCheck_bad (s p : Int) (w : World) (h : LBad s p) :
    Calls Try.prog 20 #[.agg #[.int .i64 s, .int .i64 p]] w fun e w' => e = .returned (.int .i64 1) ∧ Below w.heap.size w w' := by
  unfold LBad at h
  by_cases h1 : s < 1
  · clear h
    go_enter Try.func20, Try.ntmps20
    go_wp2_with fail
    go_ret
    exact ⟨rfl, (Below.refl _ _).alloc (Nat.le_refl _) _⟩
  · have t1 : decide (s < 1) = false := by simpa using h1
    by_cases h2 : 8 < s
    · clear h
      go_enter Try.func20, Try.ntmps20
      go_wp2_with fail
      go_ret
      exact ⟨rfl, (Below.refl _ _).alloc (Nat.le_refl _) _⟩
    · have t2 : decide (8 < s) = false := by simpa using h2
      by_cases h3 : p < 1
      · clear h
        go_enter Try.func20, Try.ntmps20
        go_wp2_with fail
        go_ret
        exact ⟨rfl, (Below.refl _ _).alloc (Nat.le_refl _) _⟩
      · have t3 : decide (p < 1) = false := by simpa using h3
        by_cases h4 : 64 < p
        · clear h
          go_enter Try.func20, Try.ntmps20
          go_wp2_with fail
          go_ret
          exact ⟨rfl, (Below.refl _ _).alloc (Nat.le_refl _) _⟩
        · have t4 : decide (64 < p) = false := by simpa using h4
          have hm := mul_in s p (by omega) (by omega) (by omega) (by omega)
          have h5 : 256 < s * p := by
            have : ¬ s * p ≤ 256 := fun h5 => h ⟨by omega, by omega, by omega, by omega, h5⟩
            omega
          clear h
          obtain ⟨N, hN⟩ : ∃ N, s * p = N := ⟨_, rfl⟩
          rw [hN] at hm h5
          go_enter Try.func20, Try.ntmps20
          go_wp2_with fail
          go_ret
          exact ⟨rfl, (Below.refl _ _).alloc (Nat.le_refl _) _⟩

set_option maxRecDepth 100000 in
set_option maxHeartbeats 400000 in
theorem rCount_ok (s p : Nat) (w : World) (h : LOk s p) :
    Calls Try.prog 30 #[.agg #[.int .i64 s, .int .i64 p]] w fun e w' => e = .returned (.int .i64 (s * p : Nat)) ∧ Below w.heap.size w w' := by
  have H := Lib.hid h
  have h5 := h.2.2.2.2
  clear h
  obtain ⟨N, hN⟩ : ∃ N, N = s * p := ⟨_, rfl⟩
  have hm : (s : Int) * (p : Int) = (N : Int) := by rw [hN]; simp
  rw [← hN] at h5 ⊢
  clear hN
  have hb0 := (Below.refl _ w).alloc (Nat.le_refl _) (.cells #[.int .i64 s, .int .i64 p] 23)
  have k0 := Bk.new w 23 #[.int .i64 s, .int .i64 p]
  go_enter Try.func30, Try.ntmps30
  go_wp2_with fail
  refine (rCheck_ok s p _ H.out).mono ?_
  rintro e w2 ⟨rfl, hb2⟩
  replace k0 := k0.next hb2
  replace hb0 := bmore hb0 hb2
  clear hb2
  have c0 := k0.cell 0 _ rfl
  have c1 := k0.cell 1 _ rfl
  go_wp2_with fail
  go_ret
  exact ⟨rfl, hb0⟩
set_option maxRecDepth 100000 in
set_option maxHeartbeats 400000 in
theorem rCount_bad (s p : Int) (w : World) (h : LBad s p) :
    Calls Try.prog 30 #[.agg #[.int .i64 s, .int .i64 p]] w fun e w' => e = .returned (.int .i64 0) ∧ Below w.heap.size w w' := by
  have H := Lib.hid h
  clear h
  have hb0 := (Below.refl _ w).alloc (Nat.le_refl _) (.cells #[.int .i64 s, .int .i64 p] 23)
  go_enter Try.func30, Try.ntmps30
  go_wp2_with fail
  refine (rCheck_bad s p _ H.out).mono ?_
  rintro e w2 ⟨rfl, hb2⟩
  replace hb0 := bmore hb0 hb2
  clear hb2
  go_wp2_with fail
  go_ret
  exact ⟨rfl, hb0⟩

set_option maxRecDepth 100000 in
set_option maxHeartbeats 400000 in
theorem in_any (A : Option Addr) (cap n x : Nat) (xs : List Nat) (w : World) (hA : NatsAt w w.heap.size A xs) (hn : xs.length = n) (hl : n ≤ 65536) :
    Calls Try.prog 64 #[.slice A n cap, .int .i64 x] w fun e w' => e = .returned (.bool (decide (x ∈ xs))) ∧ w = w' := by
  have HN := Lib.hid hn
  clear hn
  go_enter Try.func64, Try.ntmps64
  go_wp2_with fail
  go_loop [5] (fun i => ∃ k : Nat, k ≤ n ∧ i = .int .i64 k ∧ Hid (x ∉ xs.take k)) (fun i => n - (intOf i).toNat)
  case atStart => exact ⟨0, Nat.zero_le _, rfl, Lib.hid (by simp)⟩
  case round =>
    obtain ⟨k, hk, rfl, hx⟩ := hrel
    by_cases hlt : k < n
    · obtain ⟨ad, rfl, _, hc⟩ := hA.at_ (k := k) (by rw [HN.out]; exact hlt)
      have hkl : k < xs.length := by rw [HN.out]; exact hlt
      have HT := Lib.hid (take_snoc xs k hkl)
      have HM := Lib.hid (nth_mem xs k hkl)
      clear hkl
      generalize Mk.nth xs k = y at *
      by_cases hy : y = x
      · subst hy
        have HD : Hid (decide (y ∈ xs) = true) := by show _ = _; simpa using HM.out
        go_wp2_with fail
        go_ret
        exact ⟨by rw [HD.out]; rfl, rfl⟩
      · have e1 : ((y : Int) == (x : Int)) = false := by rw [beq_eq_false_iff_ne]; omega
        have e2 : (y == x) = false := by simpa using hy
        clear hy
        go_wp2_with fail
        go_round
        case rel =>
          refine ⟨k + 1, by omega, by go_num, Lib.hid ?_⟩
          rw [HT.out, List.mem_append]
          rintro (h | h)
          · exact hx.out h
          · rw [List.mem_singleton] at h; subst h; simp at e2
        case measure => simp [intOf]; omega
    · obtain rfl : k = n := by omega
      have HD : Hid (decide (x ∈ xs) = false) := by
        show _ = _
        have := hx.out
        rw [List.take_of_length_le (by rw [HN.out]; exact Nat.le_refl _)] at this
        simpa using this
      go_wp2_with fail
      go_ret
      exact ⟨by rw [HD.out]; rfl, rfl⟩
end Go.Proofs.Ythmlibapjhmdbaa
