/- Assign. -/
import Derived.Test.YthmlibapjhmdbaaW10
namespace Go.Proofs.Ythmlibapjhmdbaa
open Go.RowKit Go.Shelf

attribute [local go_sem] run_store_fn run_store_nilfn

set_option maxRecDepth 100000 in
set_option maxHeartbeats 1000000 in
theorem assign_no (s p d r q : Int) (a b c e : Nat) (w : World) (hd : ∀ W, Calls Try.prog 59 #[.agg #[.int .i64 s, .int .i64 p], .int .i64 d] W fun e w' => e = .returned (.tuple #[.agg #[.nilFunc], .int .i64 1]) ∧ Below W.heap.size W w') :
    Calls Try.prog 46 #[.agg #[.int .i64 s, .int .i64 p], .agg #[.int .u64 a, .int .u64 b, .int .u64 c, .int .u64 e, .int .i64 r, .int .i64 q, .int .i64 d]] w fun e w' => e = .returned (.tuple #[.slice none 0 0, .int .i64 1]) ∧ Below w.heap.size w w' := by
  have HD := Lib.hid hd
  clear hd
  have hb0 := ((Below.refl _ w).alloc (Nat.le_refl _) (.cells #[.int .i64 s, .int .i64 p] 28)).alloc (by simp) (.cells #[.int .u64 a, .int .u64 b, .int .u64 c, .int .u64 e, .int .i64 r, .int .i64 q, .int .i64 d] 61)
  go_enter Try.func46, Try.ntmps46
  go_wp2_with fail
  refine (HD.out _).mono ?_
  rintro e w2 ⟨rfl, hb2⟩
  replace hb0 := bmore hb0 hb2
  clear hb2
  go_wp2_with fail
  go_ret2
  exact ⟨rfl, hb0.alloc hb0.size _⟩

/-- Numbers that may be wished. -/
def ROk (r q : Nat) : Prop := 1 ≤ r ∧ r ≤ 32 ∧ 1 ≤ q ∧ q ≤ 256
def RBad (r q : Int) : Prop := (r < 1 ∨ 32 < r) ∨ (q < 1 ∨ 256 < q)
theorem ROk_or (r q : Int) : (∃ a b : Nat, r = a ∧ q = b ∧ ROk a b) ∨ RBad r q := by
  by_cases h : RBad r q
  · exact .inr h
  · left
    unfold RBad at h
    obtain ⟨a, rfl⟩ := Int.eq_ofNat_of_zero_le (show 0 ≤ r by omega)
    obtain ⟨b, rfl⟩ := Int.eq_ofNat_of_zero_le (show 0 ≤ q by omega)
    exact ⟨a, b, rfl, rfl, by omega, by omega, by omega, by omega⟩

set_option maxRecDepth 100000 in
set_option maxHeartbeats 1000000 in
theorem assign_arg {d : Int} {fid s p : Nat} {of : Nat → Nat} (hd : IsDist d fid s p of) (r q : Int) (a b c e : Nat) (w : World) (h : LOk s p) (hr : RBad r q) :
    Calls Try.prog 46 #[.agg #[.int .i64 s, .int .i64 p], .agg #[.int .u64 a, .int .u64 b, .int .u64 c, .int .u64 e, .int .i64 r, .int .i64 q, .int .i64 d]] w fun e w' => e = .returned (.tuple #[.slice none 0 0, .int .i64 1]) ∧ Below w.heap.size w w' := by
  have HD := Lib.hid hd
  have H := Lib.hid h
  have HR := Lib.hid hr
  clear hd h hr
  have hb0 := ((Below.refl _ w).alloc (Nat.le_refl _) (.cells #[.int .i64 s, .int .i64 p] 28)).alloc (by simp) (.cells #[.int .u64 a, .int .u64 b, .int .u64 c, .int .u64 e, .int .i64 r, .int .i64 q, .int .i64 d] 61)
  have k1 : Bk ((w.alloc (.cells #[.int .i64 s, .int .i64 p] 28)).alloc (.cells #[.int .u64 a, .int .u64 b, .int .u64 c, .int .u64 e, .int .i64 r, .int .i64 q, .int .i64 d] 61)) (w.heap.size + 1) 61 #[.int .u64 a, .int .u64 b, .int .u64 c, .int .u64 e, .int .i64 r, .int .i64 q, .int .i64 d] := by
    have := Bk.new (w.alloc (.cells #[.int .i64 s, .int .i64 p] 28)) 61 #[.int .u64 a, .int .u64 b, .int .u64 c, .int .u64 e, .int .i64 r, .int .i64 q, .int .i64 d]
    rw [size_alloc] at this
    exact this
  go_enter Try.func46, Try.ntmps46
  go_wp2_with fail
  refine (dist_any HD.out _ H.out).mono ?_
  rintro e2 w2 ⟨g, rfl, kg, hb2⟩
  replace hb0 := bmore hb0 hb2
  replace k1 := k1.next hb2
  clear hb2 kg
  have c4 := (k1.alloc (.cells #[.func (.func fid) #[] #[.pointer (some ⟨g, 0, none⟩)]] 100)).cell 4 _ rfl
  have c5 := (k1.alloc (.cells #[.func (.func fid) #[] #[.pointer (some ⟨g, 0, none⟩)]] 100)).cell 5 _ rfl
  replace hb0 := hb0.alloc hb0.size (.cells #[.func (.func fid) #[] #[.pointer (some ⟨g, 0, none⟩)]] 100)
  go_wp2_with fail
  by_cases h1 : r < 1 ∨ 32 < r
  · refine (within_no _ _ _ h1).mono ?_
    rintro e w' ⟨rfl, rfl⟩
    go_wp2_with fail
    go_ret2
    exact ⟨rfl, hb0⟩
  · have h2 : q < 1 ∨ 256 < q := by have := HR.out; unfold RBad at this; omega
    refine (within_yes _ _ _ (by omega) (by omega)).mono ?_
    rintro e w' ⟨rfl, rfl⟩
    clear h1
    go_wp2_with fail
    refine (within_no _ _ _ h2).mono ?_
    rintro e w' ⟨rfl, rfl⟩
    go_wp2_with fail
    go_ret2
    exact ⟨rfl, hb0⟩
end Go.Proofs.Ythmlibapjhmdbaa
