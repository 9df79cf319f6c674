/- The reference's Hmac; the laws ShaTells and ShaTags, walked. -/
import Derived.Test.YtalknjokamfggaaDoorR8
import Derived.Test.YtalknjokamfggaaDoorL2
namespace Go.Proofs.YtalknjokamfggaaDoor
open Go.RowKit

theorem rkey_c (k : ByteArray) (x : Nat) (a : Int) (ha : (x : Int) = a) (w : World) (h : k.size ≤ 64) (hx : x < 256) :
    Calls Tryd.prog 22 #[.string k, .int .i64 a] w fun e w' => e = .returned (.string (keyS k x)) ∧ Below w.heap.size w w' := by
  subst ha; exact rturned_any k x w h hx

set_option maxRecDepth 100000 in
set_option maxHeartbeats 400000 in
theorem rhmac_small (k s : ByteArray) (w : World) (hk : k.size ≤ 64) (hs : s.size ≤ 1000) :
    Calls Tryd.prog 14 #[.string k, .string s] w fun e w' => e = .returned (.string (hmS k s)) ∧ Below w.heap.size w w' := by
  have hd : decide (64 < (k.size : Int)) = false := by simp; omega
  have q1 := keyS_size k 54 hk
  have q3 := keyS_size k 92 hk
  have q2 := ofS_size (keyS k 54 ++ s)
  have Z1 : Hid ((keyS k 54 ++ s).size ≤ 100000) := by show _ ≤ _; rw [ByteArray.size_append, q1]; omega
  have Z2 : Hid ((keyS k 92 ++ ofS (keyS k 54 ++ s)).size ≤ 100000) := by show _ ≤ _; rw [ByteArray.size_append, q2, q3]; omega
  go_enter Tryd.func14, Tryd.ntmps14
  go_wp2_with fail
  refine (rkey_c k 92 92 rfl _ hk (by decide)).mono ?_
  rintro e w1 ⟨rfl, b1⟩
  go_wp2_with fail
  refine (rkey_c k 54 54 rfl _ hk (by decide)).mono ?_
  rintro e w2 ⟨rfl, b2⟩
  replace b2 := bmore b1 b2
  clear b1
  go_wp2_with fail
  refine (rof_any _ _ Z1.out).mono ?_
  rintro e w3 ⟨rfl, b3⟩
  replace b3 := bmore b2 b3
  clear b2
  go_wp2_with fail
  refine (rof_any _ _ Z2.out).mono ?_
  rintro e w4 ⟨rfl, b4⟩
  replace b4 := bmore b3 b4
  clear b3
  go_wp2_with fail
  go_ret
  exact ⟨rfl, b4⟩

set_option maxRecDepth 100000 in
set_option maxHeartbeats 400000 in
theorem rhmac_big (k s : ByteArray) (w : World) (hk : 64 < k.size) (hk2 : k.size ≤ 1000) (hs : s.size ≤ 1000) :
    Calls Tryd.prog 14 #[.string k, .string s] w fun e w' => e = .returned (.string (hmS (ofS k) s)) ∧ Below w.heap.size w w' := by
  have hd : decide (64 < (k.size : Int)) = true := by simp; omega
  have q0 := ofS_size k
  have hk3 : (ofS k).size ≤ 64 := by omega
  have q1 := keyS_size (ofS k) 54 hk3
  have q3 := keyS_size (ofS k) 92 hk3
  have q2 := ofS_size (keyS (ofS k) 54 ++ s)
  have Z0 : Hid (k.size ≤ 100000) := by show _ ≤ _; omega
  have Z1 : Hid ((keyS (ofS k) 54 ++ s).size ≤ 100000) := by show _ ≤ _; rw [ByteArray.size_append, q1]; omega
  have Z2 : Hid ((keyS (ofS k) 92 ++ ofS (keyS (ofS k) 54 ++ s)).size ≤ 100000) := by show _ ≤ _; rw [ByteArray.size_append, q2, q3]; omega
  have HK := Lib.hid hk3
  clear q0 hk3
  go_enter Tryd.func14, Tryd.ntmps14
  go_wp2_with fail
  refine (rof_any _ _ Z0.out).mono ?_
  rintro e w0 ⟨rfl, b0⟩
  go_wp2_with fail
  refine (rkey_c (ofS k) 92 92 rfl _ HK.out (by decide)).mono ?_
  rintro e w1 ⟨rfl, b1⟩
  replace b1 := bmore b0 b1
  clear b0
  go_wp2_with fail
  refine (rkey_c (ofS k) 54 54 rfl _ HK.out (by decide)).mono ?_
  rintro e w2 ⟨rfl, b2⟩
  replace b2 := bmore b1 b2
  clear b1
  go_wp2_with fail
  refine (rof_any _ _ Z1.out).mono ?_
  rintro e w3 ⟨rfl, b3⟩
  replace b3 := bmore b2 b3
  clear b2
  go_wp2_with fail
  refine (rof_any _ _ Z2.out).mono ?_
  rintro e w4 ⟨rfl, b4⟩
  replace b4 := bmore b3 b4
  clear b3
  go_wp2_with fail
  go_ret
  exact ⟨rfl, b4⟩

theorem rhmac_c (k s : ByteArray) (w : World) (hk : k.size ≤ 1000) (hs : s.size ≤ 1000) :
    Calls Tryd.prog 14 #[.string k, .string s] w fun e w' => e = .returned (.string (hmacS k s)) ∧ Below w.heap.size w w' := by
  unfold hmacS
  by_cases h : 64 < k.size
  · rw [if_pos h]; exact rhmac_big k s w h hk hs
  · rw [if_neg h]; exact rhmac_small k s w (by omega) hs

set_option maxRecDepth 100000 in
set_option maxHeartbeats 400000 in
theorem shaTells_long (s : ByteArray) (w : World) (G : Glob w) (h : 400 < s.size) :
    Calls Tryd.prog 3 #[.string s] w fun e w' => e = .returned (.bool true) ∧ Below w.heap.size w w' := by
  have hd : decide (400 < (s.size : Int)) = true := by simp; omega
  clear h
  go_enter Tryd.func3, Tryd.ntmps3
  go_wp2_with fail
  refine (live_any _ G).mono ?_
  rintro e w1 ⟨rfl, b1⟩
  go_wp2_with fail
  go_ret
  exact ⟨rfl, b1⟩

set_option maxRecDepth 100000 in
set_option maxHeartbeats 400000 in
theorem shaTells_short (s : ByteArray) (w : World) (G : Glob w) (h : s.size ≤ 400) :
    Calls Tryd.prog 3 #[.string s] w fun e w' => e = .returned (.bool true) ∧ Below w.heap.size w w' := by
  have hd : decide (400 < (s.size : Int)) = false := by simp; omega
  have Z0 : Hid (s.size ≤ 100000) := by show _ ≤ _; omega
  have Z1 : Hid (s.size ≤ 70368744177664) := by show _ ≤ _; omega
  go_enter Tryd.func3, Tryd.ntmps3
  go_wp2_with fail
  refine (of_c _ _ G Z1.out).mono ?_
  rintro e w1 ⟨rfl, b1⟩
  go_wp2_with fail
  refine (rof_any _ _ Z0.out).mono ?_
  rintro e w2 ⟨rfl, b2⟩
  replace b2 := bmore b1 b2
  clear b1
  go_wp2_with fail
  refine (hex_c _ _ Z1.out).mono ?_
  rintro e w3 ⟨rfl, b3⟩
  replace b3 := bmore b2 b3
  clear b2
  go_wp2_with fail
  refine (rhex_any _ _ Z0.out).mono ?_
  rintro e w4 ⟨rfl, b4⟩
  replace b4 := bmore b3 b4
  clear b3
  go_wp2_with fail
  refine (live_any _ (G.below b4 G.two)).mono ?_
  rintro e w5 ⟨rfl, b5⟩
  replace b5 := bmore b4 b5
  clear b4
  go_wp2_with fail
  go_ret
  exact ⟨rfl, b5⟩

theorem shaTells_any (s : ByteArray) (w : World) (G : Glob w) :
    Calls Tryd.prog 3 #[.string s] w fun e w' => e = .returned (.bool true) ∧ Below w.heap.size w w' := by
  by_cases h : 400 < s.size
  · exact shaTells_long s w G h
  · exact shaTells_short s w G (by omega)

set_option maxRecDepth 100000 in
set_option maxHeartbeats 400000 in
theorem shaTags_long1 (k s : ByteArray) (w : World) (G : Glob w) (h : 200 < s.size) :
    Calls Tryd.prog 4 #[.string k, .string s] w fun e w' => e = .returned (.bool true) ∧ Below w.heap.size w w' := by
  have hd := over _ h
  clear h
  go_enter Tryd.func4, Tryd.ntmps4
  go_wp2_with fail
  refine (live_any _ G).mono ?_
  rintro e w1 ⟨rfl, b1⟩
  go_wp2_with fail
  go_ret
  exact ⟨rfl, b1⟩
set_option maxRecDepth 100000 in
set_option maxHeartbeats 400000 in
theorem shaTags_long2 (k s : ByteArray) (w : World) (G : Glob w) (h0 : s.size ≤ 200) (h : 200 < k.size) :
    Calls Tryd.prog 4 #[.string k, .string s] w fun e w' => e = .returned (.bool true) ∧ Below w.heap.size w w' := by
  have hd := over _ h
  have hd0 := upto _ h0
  clear h h0
  go_enter Tryd.func4, Tryd.ntmps4
  go_wp2_with fail
  refine (live_any _ G).mono ?_
  rintro e w1 ⟨rfl, b1⟩
  go_wp2_with fail
  go_ret
  exact ⟨rfl, b1⟩
set_option maxRecDepth 100000 in
set_option maxHeartbeats 400000 in
theorem shaTags_short (k s : ByteArray) (w : World) (G : Glob w) (h0 : s.size ≤ 200) (h : k.size ≤ 200) :
    Calls Tryd.prog 4 #[.string k, .string s] w fun e w' => e = .returned (.bool true) ∧ Below w.heap.size w w' := by
  have hd := upto _ h
  have hd0 := upto _ h0
  have zk : Hid (k.size ≤ 70368744177664) := by show _ ≤ _; omega
  have ys : Hid (s.size ≤ 35184372088832) := by show _ ≤ _; omega
  have zk2 : Hid (k.size ≤ 1000) := by show _ ≤ _; omega
  have ys2 : Hid (s.size ≤ 1000) := by show _ ≤ _; omega
  go_enter Tryd.func4, Tryd.ntmps4
  go_wp2_with fail
  refine (hmac_c _ _ _ G zk.out ys.out).mono ?_
  rintro e w1 ⟨rfl, b1⟩
  go_wp2_with fail
  refine (rhmac_c _ _ _ zk2.out ys2.out).mono ?_
  rintro e w2 ⟨rfl, b2⟩
  replace b2 := bmore b1 b2
  clear b1
  go_wp2_with fail
  refine (live_any _ (G.below b2 G.two)).mono ?_
  rintro e w3 ⟨rfl, b3⟩
  replace b3 := bmore b2 b3
  clear b2
  go_wp2_with fail
  go_ret
  exact ⟨rfl, b3⟩

theorem shaTags_any (k s : ByteArray) (w : World) (G : Glob w) :
    Calls Tryd.prog 4 #[.string k, .string s] w fun e w' => e = .returned (.bool true) ∧ Below w.heap.size w w' := by
  by_cases h0 : 200 < s.size
  · exact shaTags_long1 k s w G h0
  by_cases h1 : 200 < k.size
  · exact shaTags_long2 k s w G (by omega) h1
  · exact shaTags_short k s w G (by omega) (by omega)

end Go.Proofs.YtalknjokamfggaaDoor
