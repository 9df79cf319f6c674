/- The document's own examples, by the kernel; and live. -/
import Derived.Test.YtalknjokamfggaaDoorW9
namespace Go.Proofs.YtalknjokamfggaaDoor
open Go.RowKit

set_option maxRecDepth 100000 in
theorem ev_abc : hexS (ofS { data := #[97, 98, 99] }) = { data := #[98, 97, 55, 56, 49, 54, 98, 102, 56, 102, 48, 49, 99, 102, 101, 97, 52, 49, 52, 49, 52, 48, 100, 101, 53, 100, 97, 101, 50, 50, 50, 51, 98, 48, 48, 51, 54, 49, 97, 51, 57, 54, 49, 55, 55, 97, 57, 99, 98, 52, 49, 48, 102, 102, 54, 49, 102, 50, 48, 48, 49, 53, 97, 100] } := by decide +kernel
set_option maxRecDepth 100000 in
theorem ev_empty : hexS (ofS { data := #[] }) = { data := #[101, 51, 98, 48, 99, 52, 52, 50, 57, 56, 102, 99, 49, 99, 49, 52, 57, 97, 102, 98, 102, 52, 99, 56, 57, 57, 54, 102, 98, 57, 50, 52, 50, 55, 97, 101, 52, 49, 101, 52, 54, 52, 57, 98, 57, 51, 52, 99, 97, 52, 57, 53, 57, 57, 49, 98, 55, 56, 53, 50, 98, 56, 53, 53] } := by decide +kernel
set_option maxRecDepth 100000 in
theorem ev_jefe : hexS (hmacS { data := #[74, 101, 102, 101] } { data := #[119, 104, 97, 116, 32, 100, 111, 32, 121, 97, 32, 119, 97, 110, 116, 32, 102, 111, 114, 32, 110, 111, 116, 104, 105, 110, 103, 63] }) = { data := #[53, 98, 100, 99, 99, 49, 52, 54, 98, 102, 54, 48, 55, 53, 52, 101, 54, 97, 48, 52, 50, 52, 50, 54, 48, 56, 57, 53, 55, 53, 99, 55, 53, 97, 48, 48, 51, 102, 48, 56, 57, 100, 50, 55, 51, 57, 56, 51, 57, 100, 101, 99, 53, 56, 98, 57, 54, 52, 101, 99, 51, 56, 52, 51] } := by decide +kernel
theorem ev_ab : decide (diff { data := #[97, 98] } { data := #[97, 98] } (ByteArray.size { data := #[97, 98] }) = 0) = true := by decide +kernel
theorem ev_ac : decide (diff { data := #[97, 98] } { data := #[97, 99] } (ByteArray.size { data := #[97, 98] }) = 0) = false := by decide +kernel

theorem hexed (s t : ByteArray) (w : World) (hs : s.size ≤ 70368744177664) (h : hexS s = t) :
    Calls Tryd.prog 11 #[.string s] w fun e w' => e = .returned (.string t) ∧ Below w.heap.size w w' := by
  subst h; exact hex_c s w hs
theorem hmac_size (k s : ByteArray) : (hmacS k s).size = 32 := by unfold hmacS hmS; split <;> exact ofS_size _
theorem same_eq (a b : ByteArray) (r : Bool) (w : World) (h : a.size = b.size) (hs : a.size ≤ maxLen) (hr : decide (diff a b a.size = 0) = r) :
    Calls Tryd.prog 15 #[.string a, .string b] w fun e w' => e = .returned (.bool r) ∧ Below w.heap.size w w' :=
  (same_yes a b w h hs).mono fun e w' ⟨he, n, hw⟩ => ⟨by rw [he, hr], by rw [hw]; exact below_drewN (Below.refl _ _) n⟩
theorem same_ne (a b : ByteArray) (w : World) (h : a.size ≠ b.size) :
    Calls Tryd.prog 15 #[.string a, .string b] w fun e w' => e = .returned (.bool false) ∧ Below w.heap.size w w' :=
  (same_no a b w h).mono fun e w' ⟨he, hw⟩ => ⟨he, by rw [← hw]; exact Below.refl _ _⟩

set_option maxRecDepth 100000 in
set_option maxHeartbeats 1000000 in
theorem live_any (w : World) (G : Glob w) : Calls Tryd.prog 8 #[] w fun e w' => e = .returned (.bool true) ∧ Below w.heap.size w w' := by
  have z1 : Hid ((ofS { data := #[97, 98, 99] }).size ≤ 70368744177664) := by show _ ≤ _; rw [ofS_size]; omega
  have z2 : Hid ((ofS { data := #[] }).size ≤ 70368744177664) := by show _ ≤ _; rw [ofS_size]; omega
  have z3 : Hid ((hmacS { data := #[74, 101, 102, 101] } { data := #[119, 104, 97, 116, 32, 100, 111, 32, 121, 97, 32, 119, 97, 110, 116, 32, 102, 111, 114, 32, 110, 111, 116, 104, 105, 110, 103, 63] }).size ≤ 70368744177664) := by show _ ≤ _; rw [hmac_size]; omega
  have s1 : Hid (ByteArray.size { data := #[97, 98, 99] } ≤ 70368744177664) := by show 3 ≤ 70368744177664; omega
  have s2 : Hid (ByteArray.size { data := #[] } ≤ 70368744177664) := by show 0 ≤ 70368744177664; omega
  have s3 : Hid (ByteArray.size { data := #[74, 101, 102, 101] } ≤ 70368744177664) := by show 4 ≤ 70368744177664; omega
  have s4 : Hid (ByteArray.size { data := #[119, 104, 97, 116, 32, 100, 111, 32, 121, 97, 32, 119, 97, 110, 116, 32, 102, 111, 114, 32, 110, 111, 116, 104, 105, 110, 103, 63] } ≤ 35184372088832) := by show 28 ≤ 35184372088832; omega
  have s5 : Hid (ByteArray.size { data := #[97, 98] } ≤ maxLen) := by show 2 ≤ maxLen; unfold maxLen; omega
  have e1 := Lib.hid ev_abc
  have e2 := Lib.hid ev_empty
  have e3 := Lib.hid ev_jefe
  go_enter Tryd.func8, Tryd.ntmps8
  go_wp2_with fail
  refine (of_c _ _ G s1.out).mono ?_
  rintro e w1 ⟨rfl, b1⟩
  go_wp2_with fail
  refine (hexed _ _ _ z1.out e1.out).mono ?_
  rintro e w2 ⟨rfl, b2⟩
  replace b2 := bmore b1 b2
  clear b1
  go_wp2_with fail
  refine (of_c _ _ (G.below b2 G.two) s2.out).mono ?_
  rintro e w3 ⟨rfl, b3⟩
  replace b3 := bmore b2 b3
  clear b2
  go_wp2_with fail
  refine (hexed _ _ _ z2.out e2.out).mono ?_
  rintro e w4 ⟨rfl, b4⟩
  replace b4 := bmore b3 b4
  clear b3
  go_wp2_with fail
  refine (hmac_c _ _ _ (G.below b4 G.two) s3.out s4.out).mono ?_
  rintro e w5 ⟨rfl, b5⟩
  replace b5 := bmore b4 b5
  clear b4
  go_wp2_with fail
  refine (hexed _ _ _ z3.out e3.out).mono ?_
  rintro e w6 ⟨rfl, b6⟩
  replace b6 := bmore b5 b6
  clear b5
  go_wp2_with fail
  refine (same_eq { data := #[97, 98] } { data := #[97, 98] } true _ rfl s5.out ev_ab).mono ?_
  rintro e w7 ⟨rfl, b7⟩
  replace b7 := bmore b6 b7
  clear b6
  go_wp2_with fail
  refine (same_eq { data := #[97, 98] } { data := #[97, 99] } false _ rfl s5.out ev_ac).mono ?_
  rintro e w8 ⟨rfl, b8⟩
  replace b8 := bmore b7 b8
  clear b7
  go_wp2_with fail
  refine (same_ne { data := #[97, 98] } { data := #[97] } _ (by decide)).mono ?_
  rintro e w9 ⟨rfl, b9⟩
  replace b9 := bmore b8 b9
  clear b8
  go_wp2_with fail
  go_ret
  exact ⟨rfl, b9⟩

end Go.Proofs.YtalknjokamfggaaDoor
