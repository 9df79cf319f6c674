/- A pool: Take, refused. -/
import Derived.Test.YthmlibapjhmdbaaGQ6xQ7xQ8
import Derived.Test.YthmlibapjhmdbaaGW12xW13
namespace Go.Proofs.Ythmlibapjhmdbaa
open Go.RowKit Go.Shelf Go.Maps

set_option maxRecDepth 100000 in
set_option maxHeartbeats 1000000 in
theorem take_none {w : World} {p b k s q : Nat} {g : Int → Option Sh} (h : PoolAt w p b k s q g) {n : Int} (hn : (Lit.int .i64 n).wf = true) (a0 a1 a2 a3 : Nat)
    (KO : ∀ V : World, Calls Try.prog 45 #[.int .i64 n] V fun e w' => e = .returned (.bool false) ∧ V = w') :
    Calls Try.prog 27 #[.pointer (some ⟨p, 0, none⟩), .int .i64 n, .agg #[.int .u64 a0, .int .u64 a1, .int .u64 a2, .int .u64 a3]] w fun e w' => e = .returned (.int .i64 1) ∧ Below w.heap.size w w' := by
  have hb0 := (Below.refl _ w).alloc (Nat.le_refl _) (.cells #[.int .u64 a0, .int .u64 a1, .int .u64 a2, .int .u64 a3] 40)
  have j0 := Bk.new w 40 #[.int .u64 a0, .int .u64 a1, .int .u64 a2, .int .u64 a3]
  replace h := h.next hb0
  have HN := Lib.hid hn
  clear hn
  replace KO := Lib.hid KO
  go_enter Try.func27, Try.ntmps27
  go_wp2_with fail
  refine (KO.out _).mono ?_
  rintro e w1 ⟨rfl, rfl⟩
  go_wp2_with fail
  go_ret
  exact ⟨rfl, hb0⟩

set_option maxRecDepth 100000 in
set_option maxHeartbeats 1000000 in
theorem take_empty {w : World} {p b k s q : Nat} {g : Int → Option Sh} (h : PoolAt w p b k s q g) {n : Int} (hn : (Lit.int .i64 n).wf = true) (a0 a1 a2 a3 : Nat)
    (KO : ∀ V : World, Calls Try.prog 45 #[.int .i64 n] V fun e w' => e = .returned (.bool true) ∧ V = w')
    (KE : ∀ V : World, Calls Try.prog 48 #[.agg #[.int .u64 a0, .int .u64 a1, .int .u64 a2, .int .u64 a3]] V fun e w' => e = .returned (.bool true) ∧ Below V.heap.size V w') :
    Calls Try.prog 27 #[.pointer (some ⟨p, 0, none⟩), .int .i64 n, .agg #[.int .u64 a0, .int .u64 a1, .int .u64 a2, .int .u64 a3]] w fun e w' => e = .returned (.int .i64 1) ∧ Below w.heap.size w w' := by
  have hb0 := (Below.refl _ w).alloc (Nat.le_refl _) (.cells #[.int .u64 a0, .int .u64 a1, .int .u64 a2, .int .u64 a3] 40)
  have j0 := Bk.new w 40 #[.int .u64 a0, .int .u64 a1, .int .u64 a2, .int .u64 a3]
  replace h := h.next hb0
  have HN := Lib.hid hn
  clear hn
  replace KO := Lib.hid KO; replace KE := Lib.hid KE
  go_enter Try.func27, Try.ntmps27
  go_wp2_with fail
  refine (KO.out _).mono ?_
  rintro e w1 ⟨rfl, rfl⟩
  go_wp2_with fail
  refine (KE.out _).mono ?_
  rintro e w2 ⟨rfl, hb⟩
  replace hb0 := bmore hb0 hb; replace j0 := j0.next hb; replace h := h.next hb; clear hb
  go_wp2_with fail
  go_ret
  exact ⟨rfl, hb0⟩

set_option maxRecDepth 100000 in
set_option maxHeartbeats 1000000 in
theorem take_state {w : World} {p b k s q : Nat} {g : Int → Option Sh} (h : PoolAt w p b k s q g) {n : Int} (hn : (Lit.int .i64 n).wf = true) (a0 a1 a2 a3 : Nat)
    (hg : (g n).isSome = true)
    (KO : ∀ V : World, Calls Try.prog 45 #[.int .i64 n] V fun e w' => e = .returned (.bool true) ∧ V = w')
    (KE : ∀ V : World, Calls Try.prog 48 #[.agg #[.int .u64 a0, .int .u64 a1, .int .u64 a2, .int .u64 a3]] V fun e w' => e = .returned (.bool false) ∧ Below V.heap.size V w') :
    Calls Try.prog 27 #[.pointer (some ⟨p, 0, none⟩), .int .i64 n, .agg #[.int .u64 a0, .int .u64 a1, .int .u64 a2, .int .u64 a3]] w fun e w' => e = .returned (.int .i64 14) ∧ Below w.heap.size w w' := by
  have hb0 := (Below.refl _ w).alloc (Nat.le_refl _) (.cells #[.int .u64 a0, .int .u64 a1, .int .u64 a2, .int .u64 a3] 40)
  have j0 := Bk.new w 40 #[.int .u64 a0, .int .u64 a1, .int .u64 a2, .int .u64 a3]
  replace h := h.next hb0
  have HN := Lib.hid hn
  clear hn
  replace KO := Lib.hid KO; replace KE := Lib.hid KE; have HG := Lib.hid hg; clear hg
  go_enter Try.func27, Try.ntmps27
  go_wp2_with fail
  refine (KO.out _).mono ?_
  rintro e w1 ⟨rfl, rfl⟩
  go_wp2_with fail
  refine (KE.out _).mono ?_
  rintro e w2 ⟨rfl, hb⟩
  replace hb0 := bmore hb0 hb; replace j0 := j0.next hb; replace h := h.next hb; clear hb
  go_wp2_with fail
  have KH := has_any h HN.out
  rw [HG.out] at KH
  refine KH.mono ?_
  rintro e w3 ⟨rfl, hb⟩
  replace hb0 := bmore hb0 hb; replace j0 := j0.next hb; replace h := h.next hb; clear hb KH
  go_wp2_with fail
  go_ret
  exact ⟨rfl, hb0⟩

set_option maxRecDepth 100000 in
set_option maxHeartbeats 1000000 in
theorem take_cores {w : World} {p b k s q : Nat} {g : Int → Option Sh} (h : PoolAt w p b k s q g) {n : Int} (hn : (Lit.int .i64 n).wf = true) (a0 a1 a2 a3 : Nat)
    (f0 f1 f2 f3 d0 d1 d2 d3 : Nat) (hg : (g n).isSome = false)
    (KO : ∀ V : World, Calls Try.prog 45 #[.int .i64 n] V fun e w' => e = .returned (.bool true) ∧ V = w')
    (KE : ∀ V : World, Calls Try.prog 48 #[.agg #[.int .u64 a0, .int .u64 a1, .int .u64 a2, .int .u64 a3]] V fun e w' => e = .returned (.bool false) ∧ Below V.heap.size V w')
    (KF : ∀ V : World, PoolAt V p b k s q g → Calls Try.prog 13 #[.pointer (some ⟨p, 0, none⟩)] V fun e w' => e = .returned (.agg #[.int .u64 f0, .int .u64 f1, .int .u64 f2, .int .u64 f3]) ∧ Below V.heap.size V w')
    (KM : ∀ V : World, Calls Try.prog 24 #[.agg #[.int .u64 a0, .int .u64 a1, .int .u64 a2, .int .u64 a3], .agg #[.int .u64 f0, .int .u64 f1, .int .u64 f2, .int .u64 f3]] V fun e w' => e = .returned (.agg #[.int .u64 d0, .int .u64 d1, .int .u64 d2, .int .u64 d3]) ∧ Below V.heap.size V w')
    (KE2 : ∀ V : World, Calls Try.prog 48 #[.agg #[.int .u64 d0, .int .u64 d1, .int .u64 d2, .int .u64 d3]] V fun e w' => e = .returned (.bool false) ∧ Below V.heap.size V w') :
    Calls Try.prog 27 #[.pointer (some ⟨p, 0, none⟩), .int .i64 n, .agg #[.int .u64 a0, .int .u64 a1, .int .u64 a2, .int .u64 a3]] w fun e w' => e = .returned (.int .i64 12) ∧ Below w.heap.size w w' := by
  have hb0 := (Below.refl _ w).alloc (Nat.le_refl _) (.cells #[.int .u64 a0, .int .u64 a1, .int .u64 a2, .int .u64 a3] 40)
  have j0 := Bk.new w 40 #[.int .u64 a0, .int .u64 a1, .int .u64 a2, .int .u64 a3]
  replace h := h.next hb0
  have HN := Lib.hid hn
  clear hn
  replace KO := Lib.hid KO; replace KE := Lib.hid KE; replace KF := Lib.hid KF; replace KM := Lib.hid KM; replace KE2 := Lib.hid KE2; have HG := Lib.hid hg; clear hg
  go_enter Try.func27, Try.ntmps27
  go_wp2_with fail
  refine (KO.out _).mono ?_
  rintro e w1 ⟨rfl, rfl⟩
  go_wp2_with fail
  refine (KE.out _).mono ?_
  rintro e w2 ⟨rfl, hb⟩
  replace hb0 := bmore hb0 hb; replace j0 := j0.next hb; replace h := h.next hb; clear hb
  go_wp2_with fail
  have KH := has_any h HN.out
  rw [HG.out] at KH
  refine KH.mono ?_
  rintro e w3 ⟨rfl, hb⟩
  replace hb0 := bmore hb0 hb; replace j0 := j0.next hb; replace h := h.next hb; clear hb KH
  go_wp2_with fail
  have A0 := In.cell (B := w3.heap.size) j0.lt (j0.cell 0 _ rfl)
  have A1 := In.cell (B := w3.heap.size) j0.lt (j0.cell 1 _ rfl)
  have A2 := In.cell (B := w3.heap.size) j0.lt (j0.cell 2 _ rfl)
  have A3 := In.cell (B := w3.heap.size) j0.lt (j0.cell 3 _ rfl)
  have hIn := inNonempty w3.heap.size w3
  have KFW := Lib.hid (fun i : In w3.heap.size w3 => KF.out i.val (h.next i.ok))
  refine region_in w3.heap.size (by kernel_rfl) (by kernel_rfl) ?_
  repeat (go_big_quiet_step (first | (go_at_call 13; with_reducible exact Calls.in_of (Nat.le_refl _) (KFW.out _)) | (go_at_call 24; with_reducible exact Calls.in_of (Nat.le_refl _) (KM.out _)) | (go_at_call 48; with_reducible exact Calls.in_of (Nat.le_refl _) (KE2.out _))))
  refine wpQuiet_nil ?_
  intro w4 hb4
  clear A0 A1 A2 A3 hIn
  go_wp2_with fail
  go_ret
  exact ⟨rfl, bmore hb0 hb4⟩
end Go.Proofs.Ythmlibapjhmdbaa
/- The document's Check, Count, Socket. -/
namespace Go.Proofs.Ythmlibapjhmdbaa
open Go.RowKit Go.Shelf

set_option maxRecDepth 100000 in
set_option maxHeartbeats 400000 in
theorem rCheck_ok (s p : Nat) (w : World) (h : LOk s p) :
    Calls Try.prog 20 #[.agg #[.int .i64 s, .int .i64 p]] w fun e w' => e = .returned (.int .i64 0) ∧ Below w.heap.size w w' := by
  obtain ⟨h1, h2, h3, h4, h5⟩ := h
  obtain ⟨N, hN⟩ : ∃ N, N = s * p := ⟨_, rfl⟩
  have hm : (s : Int) * (p : Int) = (N : Int) := by rw [hN]; simp
  rw [← hN] at h5
  clear hN
  have t1 : decide ((s : Int) < 1) = false := by simp; omega
  have t2 : decide ((8 : Int) < (s : Int)) = false := by simp; omega
  have t3 : decide ((p : Int) < 1) = false := by simp; omega
  have t4 : decide ((64 : Int) < (p : Int)) = false := by simp; omega
  have t5 : decide ((256 : Int) < (N : Int)) = false := by simp; omega
  go_enter Try.func20, Try.ntmps20
  go_wp2_with fail
  go_ret
  exact ⟨rfl, (Below.refl _ _).alloc (Nat.le_refl _) _⟩

set_option maxRecDepth 100000 in
set_option maxHeartbeats 400000 in
theorem rCheck_bad (s p : Int) (w : World) (h : LBad s p) :
    Calls Try.prog 20 #[.agg #[.int .i64 s, .int .i64 p]] w fun e w' => e = .returned (.int .i64 1) ∧ Below w.heap.size w w' := by
  unfold LBad at h
  by_cases h1 : s < 1
  · clear h
    go_enter Try.func20, Try.ntmps20
    go_wp2_with fail
    go_ret
    exact ⟨rfl, (Below.refl _ _).alloc (Nat.le_refl _) _⟩
  · have t1 : decide (s < 1) = false := by simpa using h1
    by_cases h2 : 8 < s
    · clear h
      go_enter Try.func20, Try.ntmps20
      go_wp2_with fail
      go_ret
      exact ⟨rfl, (Below.refl _ _).alloc (Nat.le_refl _) _⟩
    · have t2 : decide (8 < s) = false := by simpa using h2
      by_cases h3 : p < 1
      · clear h
        go_enter Try.func20, Try.ntmps20
        go_wp2_with fail
        go_ret
        exact ⟨rfl, (Below.refl _ _).alloc (Nat.le_refl _) _⟩
      · have t3 : decide (p < 1) = false := by simpa using h3
        by_cases h4 : 64 < p
        · clear h
          go_enter Try.func20, Try.ntmps20
          go_wp2_with fail
          go_ret
          exact ⟨rfl, (Below.refl _ _).alloc (Nat.le_refl _) _⟩
        · have t4 : decide (64 < p) = false := by simpa using h4
          have hm := mul_in s p (by omega) (by omega) (by omega) (by omega)
          have h5 : 256 < s * p := by
            have : ¬ s * p ≤ 256 := fun h5 => h ⟨by omega, by omega, by omega, by omega, h5⟩
            omega
          clear h
          obtain ⟨N, hN⟩ : ∃ N, s * p = N := ⟨_, rfl⟩
          rw [hN] at hm h5
          go_enter Try.func20, Try.ntmps20
          go_wp2_with fail
          go_ret
          exact ⟨rfl, (Below.refl _ _).alloc (Nat.le_refl _) _⟩

set_option maxRecDepth 100000 in
set_option maxHeartbeats 400000 in
theorem rCount_ok (s p : Nat) (w : World) (h : LOk s p) :
    Calls Try.prog 30 #[.agg #[.int .i64 s, .int .i64 p]] w fun e w' => e = .returned (.int .i64 (s * p : Nat)) ∧ Below w.heap.size w w' := by
  have H := Lib.hid h
  have h5 := h.2.2.2.2
  clear h
  obtain ⟨N, hN⟩ : ∃ N, N = s * p := ⟨_, rfl⟩
  have hm : (s : Int) * (p : Int) = (N : Int) := by rw [hN]; simp
  rw [← hN] at h5 ⊢
  clear hN
  have hb0 := (Below.refl _ w).alloc (Nat.le_refl _) (.cells #[.int .i64 s, .int .i64 p] 23)
  have k0 := Bk.new w 23 #[.int .i64 s, .int .i64 p]
  go_enter Try.func30, Try.ntmps30
  go_wp2_with fail
  refine (rCheck_ok s p _ H.out).mono ?_
  rintro e w2 ⟨rfl, hb2⟩
  replace k0 := k0.next hb2
  replace hb0 := bmore hb0 hb2
  clear hb2
  have c0 := k0.cell 0 _ rfl
  have c1 := k0.cell 1 _ rfl
  go_wp2_with fail
  go_ret
  exact ⟨rfl, hb0⟩
set_option maxRecDepth 100000 in
set_option maxHeartbeats 400000 in
theorem rCount_bad (s p : Int) (w : World) (h : LBad s p) :
    Calls Try.prog 30 #[.agg #[.int .i64 s, .int .i64 p]] w fun e w' => e = .returned (.int .i64 0) ∧ Below w.heap.size w w' := by
  have H := Lib.hid h
  clear h
  have hb0 := (Below.refl _ w).alloc (Nat.le_refl _) (.cells #[.int .i64 s, .int .i64 p] 23)
  go_enter Try.func30, Try.ntmps30
  go_wp2_with fail
  refine (rCheck_bad s p _ H.out).mono ?_
  rintro e w2 ⟨rfl, hb2⟩
  replace hb0 := bmore hb0 hb2
  clear hb2
  go_wp2_with fail
  go_ret
  exact ⟨rfl, hb0⟩

set_option maxRecDepth 100000 in
set_option maxHeartbeats 400000 in
theorem in_any (A : Option Addr) (cap n x : Nat) (xs : List Nat) (w : World) (hA : NatsAt w w.heap.size A xs) (hn : xs.length = n) (hl : n ≤ 65536) :
    Calls Try.prog 64 #[.slice A n cap, .int .i64 x] w fun e w' => e = .returned (.bool (decide (x ∈ xs))) ∧ w = w' := by
  have HN := Lib.hid hn
  clear hn
  go_enter Try.func64, Try.ntmps64
  go_wp2_with fail
  go_loop [5] (fun i => ∃ k : Nat, k ≤ n ∧ i = .int .i64 k ∧ Hid (x ∉ xs.take k)) (fun i => n - (intOf i).toNat)
  case atStart => exact ⟨0, Nat.zero_le _, rfl, Lib.hid (by simp)⟩
  case round =>
    obtain ⟨k, hk, rfl, hx⟩ := hrel
    by_cases hlt : k < n
    · obtain ⟨ad, rfl, _, hc⟩ := hA.at_ (k := k) (by rw [HN.out]; exact hlt)
      have hkl : k < xs.length := by rw [HN.out]; exact hlt
      have HT := Lib.hid (take_snoc xs k hkl)
      have HM := Lib.hid (nth_mem xs k hkl)
      clear hkl
      generalize Mk.nth xs k = y at *
      by_cases hy : y = x
      · subst hy
        have HD : Hid (decide (y ∈ xs) = true) := by show _ = _; simpa using HM.out
        go_wp2_with fail
        go_ret
        exact ⟨by rw [HD.out]; rfl, rfl⟩
      · have e1 : ((y : Int) == (x : Int)) = false := by rw [beq_eq_false_iff_ne]; omega
        have e2 : (y == x) = false := by simpa using hy
        clear hy
        go_wp2_with fail
        go_round
        case rel =>
          refine ⟨k + 1, by omega, by go_num, Lib.hid ?_⟩
          rw [HT.out, List.mem_append]
          rintro (h | h)
          · exact hx.out h
          · rw [List.mem_singleton] at h; subst h; simp at e2
        case measure => simp [intOf]; omega
    · obtain rfl : k = n := by omega
      have HD : Hid (decide (x ∈ xs) = false) := by
        show _ = _
        have := hx.out
        rw [List.take_of_length_le (by rw [HN.out]; exact Nat.le_refl _)] at this
        simpa using this
      go_wp2_with fail
      go_ret
      exact ⟨by rw [HD.out]; rfl, rfl⟩
end Go.Proofs.Ythmlibapjhmdbaa
/- The document's Make. -/
namespace Go.Proofs.Ythmlibapjhmdbaa
open Go.RowKit Go.Shelf

/-- A word, bit by bit, the highest first. -/
def acc (f : Nat → Bool) : Nat → Nat
  | 0 => 0
  | i + 1 => acc f i * 2 + (if f (63 - i) then 1 else 0)
theorem acc_lt (f : Nat → Bool) : ∀ i, acc f i < 2 ^ i
  | 0 => by simp [acc]
  | i + 1 => by
    have := acc_lt f i
    unfold acc
    rw [Nat.pow_succ]
    split <;> omega
theorem acc_bit (f : Nat → Bool) : ∀ i j, i ≤ 64 → (acc f i).testBit j = (decide (j < i) && f (64 - i + j))
  | 0, j, _ => by simp [acc]
  | i + 1, 0, h => by
    unfold acc
    rw [Nat.testBit_zero, show 64 - (i + 1) + 0 = 63 - i by omega]
    cases f (63 - i) <;> simp <;> omega
  | i + 1, j + 1, h => by
    have ih := acc_bit f i j (by omega)
    unfold acc
    rw [Nat.testBit_succ, show 64 - (i + 1) + (j + 1) = 64 - i + j by omega]
    have : (acc f i * 2 + if f (63 - i) = true then 1 else 0) / 2 = acc f i := by split <;> omega
    rw [this, ih]
    congr 1
    simp
/-- The words of a list's cores. -/
def wd (xs : List Nat) (k : Nat) : Nat := acc (fun j => decide (64 * k + j ∈ xs)) 64
theorem wd_lt (xs : List Nat) (k : Nat) : wd xs k < 2 ^ 64 := acc_lt _ 64
theorem wds_W4 (xs : List Nat) : Mk.W4 [wd xs 0, wd xs 1, wd xs 2, wd xs 3] := by
  refine ⟨rfl, fun i => ?_⟩
  match i with
  | 0 => exact wd_lt xs 0
  | 1 => exact wd_lt xs 1
  | 2 => exact wd_lt xs 2
  | 3 => exact wd_lt xs 3
  | n + 4 => simp [Mk.nth]
theorem wds_has (xs : List Nat) (c : Nat) (hc : c < 256) : Mk.hasB [wd xs 0, wd xs 1, wd xs 2, wd xs 3] c = decide (c ∈ xs) := by
  unfold Mk.hasB
  have hk : c / 64 < 4 := by omega
  have e : Mk.nth [wd xs 0, wd xs 1, wd xs 2, wd xs 3] (c / 64) = wd xs (c / 64) := by
    generalize c / 64 = k at hk ⊢
    match k, hk with
    | 0, _ | 1, _ | 2, _ | 3, _ => rfl
  rw [e, wd, acc_bit _ 64 _ (Nat.le_refl _), show 64 * (c / 64) + (64 - 64 + c % 64) = c by omega]
  have : c % 64 < 64 := by omega
  simp [this]
theorem wds_ofL {xs : List Nat} (h : ∀ x ∈ xs, x < 256) : [wd xs 0, wd xs 1, wd xs 2, wd xs 3] = Mk.ofL xs :=
  Mk.ext (wds_W4 xs) (Mk.ofL_W4 h) fun c hc => by rw [wds_has xs c hc, Mk.has_ofL h]

/-- The first k words. -/
def wds (xs : List Nat) (k : Nat) : List Nat := [if 0 < k then wd xs 0 else 0, if 1 < k then wd xs 1 else 0, if 2 < k then wd xs 2 else 0, if 3 < k then wd xs 3 else 0]
theorem wds_set (xs : List Nat) (k : Nat) (hk : k < 4) : (wds xs k).set k (wd xs k) = wds xs (k + 1) := by
  match k, hk with
  | 0, _ | 1, _ | 2, _ | 3, _ => rfl
theorem wds_done (xs : List Nat) : wds xs 4 = [wd xs 0, wd xs 1, wd xs 2, wd xs 3] := rfl

theorem info40 {l : List Nat} (h : l.length = 4) : (Try.prog.info? 35).map (·.size) = some l.length := by rw [h]; kernel_rfl

set_option maxRecDepth 100000 in
set_option maxHeartbeats 1000000 in
theorem make_any (A : Option Addr) (cap n : Nat) (xs : List Nat) (w : World) (hA : NatsAt w w.heap.size A xs) (hn : xs.length = n) (hl : n ≤ 65536) :
    Calls Try.prog 54 #[.slice A n cap] w fun e w' => e = .returned (.agg (vs .u64 [wd xs 0, wd xs 1, wd xs 2, wd xs 3])) ∧ Below w.heap.size w w' := by
  have HN := Lib.hid hn
  clear hn
  go_enter Try.func54, Try.ntmps54
  go_wp2_with fail
  go_loopw [4] (fun i wr => ∃ k : Nat, k ≤ 4 ∧ i = .int .i64 k ∧ Row .u64 35 wr w.heap.size Mk.zero ∧ Row .u64 35 wr (w.heap.size + 1) (wds xs k) ∧ Below w.heap.size w wr)
    (fun i _ => 4 - (intOf i).toNat)
  case atStart =>
    refine ⟨0, by omega, rfl, (Row.new w .u64 35 Mk.zero _ rfl).alloc _, ?_, ((Below.refl _ _).alloc (Nat.le_refl _) _).alloc (by simp) _⟩
    have := Row.new (w.alloc (.cells (vs .u64 Mk.zero) 35)) .u64 35 Mk.zero _ rfl
    rw [size_alloc] at this
    exact this
  case round =>
    obtain ⟨k, hk, rfl, r0, r1, hb⟩ := hrel
    by_cases hlt : k < 4
    · have hAr := (hA.below hb).more hb.size
      have hd4 : decide ((k : Int) < 4) = true := by simp; omega
      go_wp2_with fail
      obtain ⟨Wk, hWk⟩ : ∃ Wk, Wk = wr := ⟨_, rfl⟩
      subst hWk
      go_loop [5, 6] (fun a i => ∃ j : Nat, j ≤ 64 ∧ i = .int .i64 (63 - (j : Int)) ∧ a = .int .u64 (acc (fun t => decide (64 * k + t ∈ xs)) j : Nat)) (fun _ i => (intOf i + 1).toNat)
      case atStart => exact ⟨0, by omega, rfl, rfl⟩
      case round =>
        obtain ⟨j, hj, rfl, rfl⟩ := hrel
        by_cases hlt2 : j < 64
        · have hac := acc_lt (fun t => decide (64 * k + t ∈ xs)) j
          have hp : (2 : Nat) ^ j ≤ 2 ^ 63 := Nat.pow_le_pow_right (by decide) (by omega)
          have HS : Hid (acc (fun t => decide (64 * k + t ∈ xs)) (j + 1) = acc (fun t => decide (64 * k + t ∈ xs)) j * 2 + (if decide (64 * k + (63 - j) ∈ xs) then 1 else 0)) := rfl
          have hac2 : acc (fun t => decide (64 * k + t ∈ xs)) j * 2 < 18446744073709551616 - 1 := by omega
          clear hac hp
          generalize acc (fun t => decide (64 * k + t ∈ xs)) j = v at *
          have e1 : IntKind.u64.wrap ((v : Int) * 2) = (v : Int) * 2 := by rw [IntKind.wrap_u64]; omega
          have e2 : IntKind.u64.wrap ((v : Int) * 2 + 1) = (v : Int) * 2 + 1 := by rw [IntKind.wrap_u64]; omega
          clear hac2
          have hin := Lib.hid (in_any A cap n (64 * k + (63 - j)) xs Wk hAr HN.out hl)
          have hcst : (64 * (k : Int) + (63 - (j : Int))) = 64 * (k : Int) + ((63 - j : Nat) : Int) := by omega
          have HC : Hid (64 * (k : Int) + ((63 - j : Nat) : Int) = ((64 * k + (63 - j) : Nat) : Int)) := by show _ = _; simp
          go_wp2_with fail
          rw [HC.out]
          refine hin.out.mono ?_
          rintro e w5 ⟨rfl, rfl⟩
          clear hcst
          by_cases hm : 64 * k + (63 - j) ∈ xs
          · have HD : Hid (decide (64 * k + (63 - j) ∈ xs) = true) := by show _ = _; simpa using hm
            rw [HD.out]
            clear hm
            go_wp2_with fail
            go_round
            case rel => exact ⟨j + 1, by omega, by go_num, by rw [HS.out, HD.out]; go_num⟩
            case measure => simp [intOf]; omega
          · have HD : Hid (decide (64 * k + (63 - j) ∈ xs) = false) := by show _ = _; simpa using hm
            rw [HD.out]
            clear hm
            go_wp2_with fail
            go_round
            case rel => exact ⟨j + 1, by omega, by go_num, by rw [HS.out, HD.out]; go_num⟩
            case measure => simp [intOf]; omega
        · obtain rfl : j = 64 := by omega
          have HW : Hid (acc (fun t => decide (64 * k + t ∈ xs)) 64 = wd xs k) := rfl
          rw [HW.out]
          have c0 := r1.cell k (show k < 4 from hlt)
          have f0 := r1.frozen k
          have HX := Lib.hid (wds_set xs k hlt)
          have i0 : (0 : Int) ≤ (k : Int) := by omega
          have i1 : (k : Int) < 4 := by omega
          go_wp2_with fail
          go_roundw
          case rel =>
            refine ⟨k + 1, by omega, by go_num, r0.setOther _ (by simp), ?_, hb.setCell (by simp) _⟩
            have h9 := r1.set k (wd xs k)
            rw [HX.out] at h9
            exact h9
          case measure => simp [intOf]; omega
    · obtain rfl : k = 4 := by omega
      rw [wds_done] at r1
      have hz := Lib.hid (info40 (wds_W4 xs).1)
      have hlen := Lib.hid (zero_len (wds_W4 xs))
      go_wp2_with (first | (refine load_w rfl 35 _ rfl (w.heap.size + 1) .u64 [wd xs 0, wd xs 1, wd xs 2, wd xs 3] rfl 35 _ r1 Try.underlying35 rfl hz.out ?_) | (refine store_law rfl 35 _ _ rfl w.heap.size .u64 Mk.zero [wd xs 0, wd xs 1, wd xs 2, wd xs 3] rfl rfl 35 r0 hlen.out hz.out ?_; intro w7 hw7))
      exact bodyPost_ret (results_row rfl _ _ w.heap.size .u64 35 _ _ rfl (r0.hidSet hw7) Try.underlying35 rfl hz.out) rfl ⟨rfl, below_hidSet hb hw7 (by omega)⟩
end Go.Proofs.Ythmlibapjhmdbaa
