/- The laws ShaBits and ShaSizes, walked. -/
import Derived.Test.YtalknjokamfggaaDoorW10
namespace Go.Proofs.YtalknjokamfggaaDoor
open Go.RowKit

theorem hexs_left (a b : List Nat) : ∀ n, n ≤ a.length → hexs (a ++ b) n = hexs a n
  | 0, _ => rfl
  | n + 1, h => by rw [hexs, hexs, hexs_left a b n (by omega), Sh.nth_append_left _ _ _ (by omega)]
theorem hexs_right (a b : List Nat) : ∀ n, hexs (a ++ b) (a.length + n) = hexs a a.length ++ hexs b n
  | 0 => by rw [Nat.add_zero, hexs_left a b _ (Nat.le_refl _)]; simp [hexs]
  | n + 1 => by
    rw [← Nat.add_assoc, hexs, hexs, hexs_right a b n, Sh.nth_append_right _ _ _ (by omega), List.append_assoc]
    rw [show a.length + n - a.length = n from by omega]
theorem str_append (a b : List Nat) : Sh.str (a ++ b) = Sh.str a ++ Sh.str b := by
  apply ByteArray.ext
  simp [Sh.str, ByteArray.data_append]
theorem hexS_append (a b : ByteArray) : hexS (a ++ b) = hexS a ++ hexS b := by
  unfold hexS
  rw [Sh.bl_append, ByteArray.size_append, ← str_append, ← Sh.bl_len a, hexs_right, Sh.bl_len]
theorem same_list {a b : ByteArray} (h : a = b) : (a.toList == b.toList) = true := by subst h; simp

theorem over (n : Nat) (h : 200 < n) : decide (200 < (n : Int)) = true := by simp; omega
theorem upto (n : Nat) (h : n ≤ 200) : decide (200 < (n : Int)) = false := by simp; omega

set_option maxRecDepth 100000 in
set_option maxHeartbeats 400000 in
theorem shaBits_long1 (a b : ByteArray) (w : World) (G : Glob w) (h : 200 < a.size) :
    Calls Tryd.prog 7 #[.string a, .string b] w fun e w' => e = .returned (.bool true) ∧ Below w.heap.size w w' := by
  have hd := over _ h
  clear h
  go_enter Tryd.func7, Tryd.ntmps7
  go_wp2_with fail
  refine (live_any _ G).mono ?_
  rintro e w1 ⟨rfl, b1⟩
  go_wp2_with fail
  go_ret
  exact ⟨rfl, b1⟩

set_option maxRecDepth 100000 in
set_option maxHeartbeats 400000 in
theorem shaBits_long2 (a b : ByteArray) (w : World) (G : Glob w) (h0 : a.size ≤ 200) (h : 200 < b.size) :
    Calls Tryd.prog 7 #[.string a, .string b] w fun e w' => e = .returned (.bool true) ∧ Below w.heap.size w w' := by
  have hd := over _ h
  have hd0 := upto _ h0
  clear h h0
  go_enter Tryd.func7, Tryd.ntmps7
  go_wp2_with fail
  refine (live_any _ G).mono ?_
  rintro e w1 ⟨rfl, b1⟩
  go_wp2_with fail
  go_ret
  exact ⟨rfl, b1⟩

set_option maxRecDepth 100000 in
set_option maxHeartbeats 1000000 in
theorem shaBits_short (a b : ByteArray) (w : World) (G : Glob w) (h0 : a.size ≤ 200) (h : b.size ≤ 200) :
    Calls Tryd.prog 7 #[.string a, .string b] w fun e w' => e = .returned (.bool true) ∧ Below w.heap.size w w' := by
  have hd := upto _ h
  have hd0 := upto _ h0
  have z1 : Hid ((a ++ b).size ≤ 70368744177664) := by show _ ≤ _; rw [ByteArray.size_append]; omega
  have za : Hid (a.size ≤ 70368744177664) := by show _ ≤ _; omega
  have zb : Hid (b.size ≤ 70368744177664) := by show _ ≤ _; omega
  have qa : (hexS a).size = 2 * a.size := hexS_size a
  have qb : (hexS b).size = 2 * b.size := hexS_size b
  have he := same_list (hexS_append a b)
  have hn : (((2 * a.size : Nat) : Int) == 2 * (a.size : Int)) = true := by simp
  go_enter Tryd.func7, Tryd.ntmps7
  go_wp2_with fail
  refine (of_c _ _ G z1.out).mono ?_
  rintro e w1 ⟨rfl, b1⟩
  go_wp2_with fail
  refine (of_c _ _ (G.below b1 G.two) z1.out).mono ?_
  rintro e w2 ⟨rfl, b2⟩
  replace b2 := bmore b1 b2
  clear b1
  go_wp2_with fail
  refine (hex_c _ _ z1.out).mono ?_
  rintro e w3 ⟨rfl, b3⟩
  replace b3 := bmore b2 b3
  clear b2
  go_wp2_with fail
  refine (hex_c _ _ za.out).mono ?_
  rintro e w4 ⟨rfl, b4⟩
  replace b4 := bmore b3 b4
  clear b3
  go_wp2_with fail
  refine (hex_c _ _ zb.out).mono ?_
  rintro e w5 ⟨rfl, b5⟩
  replace b5 := bmore b4 b5
  clear b4
  go_wp2_with fail
  refine (hex_c _ _ za.out).mono ?_
  rintro e w6 ⟨rfl, b6⟩
  replace b6 := bmore b5 b6
  clear b5
  go_wp2_with fail
  refine (live_any _ (G.below b6 G.two)).mono ?_
  rintro e w7 ⟨rfl, b7⟩
  replace b7 := bmore b6 b7
  clear b6
  go_wp2_with fail
  go_ret
  exact ⟨rfl, b7⟩

theorem shaBits_any (a b : ByteArray) (w : World) (G : Glob w) :
    Calls Tryd.prog 7 #[.string a, .string b] w fun e w' => e = .returned (.bool true) ∧ Below w.heap.size w w' := by
  by_cases h0 : 200 < a.size
  · exact shaBits_long1 a b w G h0
  · by_cases h : 200 < b.size
    · exact shaBits_long2 a b w G (by omega) h
    · exact shaBits_short a b w G (by omega) (by omega)

end Go.Proofs.YtalknjokamfggaaDoor
