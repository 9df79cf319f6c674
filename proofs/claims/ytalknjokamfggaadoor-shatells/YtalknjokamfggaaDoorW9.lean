/- The tag: Hmac; and the document's own examples: live. -/
import Derived.Test.YtalknjokamfggaaDoorW8
import Derived.Test.YtalknjokamfggaaDoorW5
namespace Go.Proofs.YtalknjokamfggaaDoor
open Go.RowKit

/-- The digest and the tag as texts. -/
def ofS (s : ByteArray) : ByteArray := Sh.str (ofL s)
def keyS (k : ByteArray) (x : Nat) : ByteArray := Sh.str (kx (Sh.bl k) x 64)
def hmS (k s : ByteArray) : ByteArray := ofS (keyS k 92 ++ ofS (keyS k 54 ++ s))
def hmacS (k s : ByteArray) : ByteArray := if 64 < k.size then hmS (ofS k) s else hmS k s
theorem ofS_size (s : ByteArray) : (ofS s).size = 32 := by rw [ofS, Sh.str_size, ofL, bo_len]
theorem keyS_size (k : ByteArray) (x : Nat) (h : k.size ≤ 64) : (keyS k x).size = 64 := by rw [keyS, Sh.str_size, kx_len _ _ (by rw [Sh.bl_len]; exact h)]

theorem of_c (s : ByteArray) (w : World) (G : Glob w) (hs : s.size ≤ 70368744177664) :
    Calls Tryd.prog 9 #[.string s] w fun e w' => e = .returned (.string (ofS s)) ∧ Below w.heap.size w w' := of_any s w G hs
theorem key_c (k : ByteArray) (x : Nat) (a : Int) (ha : (x : Int) = a) (w : World) (h : k.size ≤ 64) (hx : x < 256) :
    Calls Tryd.prog 21 #[.string k, .int .u8 a] w fun e w' => e = .returned (.string (keyS k x)) ∧ Below w.heap.size w w' := by
  subst ha; exact padded_any k x w h hx

theorem bmore {w w1 w2 : World} (h : Below w.heap.size w w1) (h2 : Below w1.heap.size w1 w2) : Below w.heap.size w w2 := h.trans (h2.mono h.size)

set_option maxRecDepth 100000 in
set_option maxHeartbeats 400000 in
theorem hmac_small (k s : ByteArray) (w : World) (G : Glob w) (hk : k.size ≤ 64) (hs : s.size ≤ 35184372088832) :
    Calls Tryd.prog 13 #[.string k, .string s] w fun e w' => e = .returned (.string (hmS k s)) ∧ Below w.heap.size w w' := by
  have hd : decide (64 < (k.size : Int)) = false := by simp; omega
  have q1 := keyS_size k 54 hk
  have q3 := keyS_size k 92 hk
  have q2 := ofS_size (keyS k 54 ++ s)
  have Z1 : Hid ((keyS k 54 ++ s).size ≤ 70368744177664) := by show _ ≤ _; rw [ByteArray.size_append, q1]; omega
  have Z2 : Hid ((keyS k 92 ++ ofS (keyS k 54 ++ s)).size ≤ 70368744177664) := by show _ ≤ _; rw [ByteArray.size_append, q2, q3]; omega
  have HH : Hid (hmS k s = ofS (keyS k 92 ++ ofS (keyS k 54 ++ s))) := rfl
  go_enter Tryd.func13, Tryd.ntmps13
  go_wp2_with fail
  refine (key_c k 92 92 rfl _ hk (by decide)).mono ?_
  rintro e w1 ⟨rfl, b1⟩
  go_wp2_with fail
  refine (key_c k 54 54 rfl _ hk (by decide)).mono ?_
  rintro e w2 ⟨rfl, b2⟩
  replace b2 := bmore b1 b2
  clear b1
  go_wp2_with fail
  refine (of_c _ _ (G.below b2 G.two) Z1.out).mono ?_
  rintro e w3 ⟨rfl, b3⟩
  replace b3 := bmore b2 b3
  clear b2
  go_wp2_with fail
  refine (of_c _ _ (G.below b3 G.two) Z2.out).mono ?_
  rintro e w4 ⟨rfl, b4⟩
  replace b4 := bmore b3 b4
  clear b3
  go_wp2_with fail
  go_ret
  exact ⟨rfl, b4⟩

set_option maxRecDepth 100000 in
set_option maxHeartbeats 400000 in
theorem hmac_big (k s : ByteArray) (w : World) (G : Glob w) (hk : 64 < k.size) (hk2 : k.size ≤ 70368744177664) (hs : s.size ≤ 35184372088832) :
    Calls Tryd.prog 13 #[.string k, .string s] w fun e w' => e = .returned (.string (hmS (ofS k) s)) ∧ Below w.heap.size w w' := by
  have hd : decide (64 < (k.size : Int)) = true := by simp; omega
  have q0 := ofS_size k
  have hk3 : (ofS k).size ≤ 64 := by omega
  have q1 := keyS_size (ofS k) 54 hk3
  have q3 := keyS_size (ofS k) 92 hk3
  have q2 := ofS_size (keyS (ofS k) 54 ++ s)
  have Z1 : Hid ((keyS (ofS k) 54 ++ s).size ≤ 70368744177664) := by show _ ≤ _; rw [ByteArray.size_append, q1]; omega
  have Z2 : Hid ((keyS (ofS k) 92 ++ ofS (keyS (ofS k) 54 ++ s)).size ≤ 70368744177664) := by show _ ≤ _; rw [ByteArray.size_append, q2, q3]; omega
  have HH : Hid (hmS (ofS k) s = ofS (keyS (ofS k) 92 ++ ofS (keyS (ofS k) 54 ++ s))) := rfl
  have HK := Lib.hid hk3
  clear q0 hk3
  go_enter Tryd.func13, Tryd.ntmps13
  go_wp2_with fail
  refine (of_c _ _ G hk2).mono ?_
  rintro e w0 ⟨rfl, b0⟩
  go_wp2_with fail
  refine (key_c (ofS k) 92 92 rfl _ HK.out (by decide)).mono ?_
  rintro e w1 ⟨rfl, b1⟩
  replace b1 := bmore b0 b1
  clear b0
  go_wp2_with fail
  refine (key_c (ofS k) 54 54 rfl _ HK.out (by decide)).mono ?_
  rintro e w2 ⟨rfl, b2⟩
  replace b2 := bmore b1 b2
  clear b1
  go_wp2_with fail
  refine (of_c _ _ (G.below b2 G.two) Z1.out).mono ?_
  rintro e w3 ⟨rfl, b3⟩
  replace b3 := bmore b2 b3
  clear b2
  go_wp2_with fail
  refine (of_c _ _ (G.below b3 G.two) Z2.out).mono ?_
  rintro e w4 ⟨rfl, b4⟩
  replace b4 := bmore b3 b4
  clear b3
  go_wp2_with fail
  go_ret
  exact ⟨rfl, b4⟩

theorem hmac_c (k s : ByteArray) (w : World) (G : Glob w) (hk : k.size ≤ 70368744177664) (hs : s.size ≤ 35184372088832) :
    Calls Tryd.prog 13 #[.string k, .string s] w fun e w' => e = .returned (.string (hmacS k s)) ∧ Below w.heap.size w w' := by
  unfold hmacS
  by_cases h : 64 < k.size
  · rw [if_pos h]; exact hmac_big k s w G h hk hs
  · rw [if_neg h]; exact hmac_small k s w G (by omega) hs

/-- The hexadecimal text. -/
def hexS (s : ByteArray) : ByteArray := Sh.str (hexs (Sh.bl s) s.size)
theorem hexS_size (s : ByteArray) : (hexS s).size = 2 * s.size := by rw [hexS, Sh.str_size, hexs_len]
theorem hex_c (s : ByteArray) (w : World) (hs : s.size ≤ 70368744177664) :
    Calls Tryd.prog 11 #[.string s] w fun e w' => e = .returned (.string (hexS s)) ∧ Below w.heap.size w w' := hex_any s w hs

end Go.Proofs.YtalknjokamfggaaDoor
