/- The law ShaSame, walked. -/
import Derived.Test.YtalknjokamfggaaDoorW10
namespace Go.Proofs.YtalknjokamfggaaDoor
open Go.RowKit

theorem xor_zero (x y : Nat) (h : x ^^^ y = 0) : x = y := by
  have : x ^^^ (x ^^^ y) = x ^^^ 0 := by rw [h]
  rw [← Nat.xor_assoc, Nat.xor_self, Nat.zero_xor, Nat.xor_zero] at this
  exact this.symm
theorem diff_zero (a b : ByteArray) : ∀ n, diff a b n = 0 ↔ ∀ i, i < n → Sh.nth (Sh.bl a) i = Sh.nth (Sh.bl b) i
  | 0 => ⟨fun _ i hi => absurd hi (Nat.not_lt_zero i), fun _ => rfl⟩
  | n + 1 => by
    rw [diff, Nat.or_eq_zero_iff, diff_zero a b n]
    constructor
    · rintro ⟨h1, h2⟩ i hi
      by_cases e : i = n
      · subst e; exact xor_zero _ _ h2
      · exact h1 i (by omega)
    · intro h
      exact ⟨fun i hi => h i (by omega), by rw [h n (by omega), Nat.xor_self]⟩
theorem diff_self (a : ByteArray) (n : Nat) : diff a a n = 0 := (diff_zero a a n).2 fun _ _ => rfl
theorem diff_ne (a b : ByteArray) (hs : a.size = b.size) (h : a ≠ b) : diff a b a.size ≠ 0 := by
  intro h0
  have hz := (diff_zero a b a.size).1 h0
  apply h
  rw [← Sh.str_bl a, ← Sh.str_bl b]
  congr 1
  apply List.ext_getElem?
  intro i
  by_cases hi : i < a.size
  · have := hz i hi
    rw [Sh.nth_getElem?, Sh.nth_getElem?, List.getElem?_eq_getElem (by rw [Sh.bl_len]; exact hi), List.getElem?_eq_getElem (by rw [Sh.bl_len]; omega)] at this
    rw [List.getElem?_eq_getElem (by rw [Sh.bl_len]; exact hi), List.getElem?_eq_getElem (by rw [Sh.bl_len]; omega)]
    simpa using this
  · rw [List.getElem?_eq_none (by rw [Sh.bl_len]; omega), List.getElem?_eq_none (by rw [Sh.bl_len]; omega)]

theorem same_self (a : ByteArray) (w : World) (hs : a.size ≤ maxLen) :
    Calls Tryd.prog 15 #[.string a, .string a] w fun e w' => e = .returned (.bool true) ∧ Below w.heap.size w w' :=
  same_eq a a true w rfl hs (by rw [diff_self]; rfl)
theorem same_differ (a b : ByteArray) (w : World) (hs : a.size ≤ maxLen) (h : a ≠ b) :
    Calls Tryd.prog 15 #[.string a, .string b] w fun e w' => e = .returned (.bool false) ∧ Below w.heap.size w w' := by
  by_cases e : a.size = b.size
  · exact same_eq a b false w e hs (by simp [diff_ne a b e h])
  · exact same_ne a b w e

set_option maxRecDepth 100000 in
set_option maxHeartbeats 400000 in
theorem shaSame_eq (a : ByteArray) (w : World) (G : Glob w) (hs : a.size ≤ maxLen) :
    Calls Tryd.prog 5 #[.string a, .string a] w fun e w' => e = .returned (.bool true) ∧ Below w.heap.size w w' := by
  go_enter Tryd.func5, Tryd.ntmps5
  go_wp2_with fail
  refine (same_self a _ hs).mono ?_
  rintro e w1 ⟨rfl, b1⟩
  go_wp2_with fail
  refine (same_self a _ hs).mono ?_
  rintro e w2 ⟨rfl, b2⟩
  replace b2 := bmore b1 b2
  clear b1
  go_wp2_with fail
  refine (live_any _ (G.below b2 G.two)).mono ?_
  rintro e w3 ⟨rfl, b3⟩
  replace b3 := bmore b2 b3
  clear b2
  go_wp2_with fail
  go_ret
  exact ⟨rfl, b3⟩

theorem list_ne {a b : ByteArray} (h : a ≠ b) : (a.toList == b.toList) = false := by
  rw [ByteArray.toList_eq, ByteArray.toList_eq, beq_eq_false_iff_ne]
  intro e
  apply h
  apply ByteArray.ext
  exact Array.toList_inj.1 e

set_option maxRecDepth 100000 in
set_option maxHeartbeats 400000 in
theorem shaSame_ne (a b : ByteArray) (w : World) (G : Glob w) (hs : a.size ≤ maxLen) (h : a ≠ b) :
    Calls Tryd.prog 5 #[.string a, .string b] w fun e w' => e = .returned (.bool true) ∧ Below w.heap.size w w' := by
  have HN := Lib.hid h
  have ht := list_ne h
  clear h
  go_enter Tryd.func5, Tryd.ntmps5
  go_wp2_with fail
  refine (same_differ a b _ hs HN.out).mono ?_
  rintro e w1 ⟨rfl, b1⟩
  go_wp2_with fail
  refine (same_self a _ hs).mono ?_
  rintro e w2 ⟨rfl, b2⟩
  replace b2 := bmore b1 b2
  clear b1
  go_wp2_with fail
  refine (live_any _ (G.below b2 G.two)).mono ?_
  rintro e w3 ⟨rfl, b3⟩
  replace b3 := bmore b2 b3
  clear b2
  go_wp2_with fail
  go_ret
  exact ⟨rfl, b3⟩

theorem shaSame_any (a b : ByteArray) (w : World) (G : Glob w) (hs : a.size ≤ maxLen) :
    Calls Tryd.prog 5 #[.string a, .string b] w fun e w' => e = .returned (.bool true) ∧ Below w.heap.size w w' := by
  by_cases h : a = b
  · subst h; exact shaSame_eq a w G hs
  · exact shaSame_ne a b w G hs h

end Go.Proofs.YtalknjokamfggaaDoor
