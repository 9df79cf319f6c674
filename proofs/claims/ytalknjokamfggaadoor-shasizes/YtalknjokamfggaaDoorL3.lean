/- The law ShaSizes, walked. -/
import Derived.Test.YtalknjokamfggaaDoorL2
namespace Go.Proofs.YtalknjokamfggaaDoor
open Go.RowKit

def zero1 : ByteArray := { data := #[0] }
theorem bl_zero1 : Sh.bl { data := #[0] } = [0] := rfl
theorem kx_same (l m : List Nat) (x : Nat) (h : l ++ List.replicate (64 - l.length) 0 = m ++ List.replicate (64 - m.length) 0) : ∀ k, kx l x k = kx m x k
  | 0 => h
  | k + 1 => by rw [kx, kx, kx_same l m x h k, h]
theorem key_zero (k : ByteArray) (x : Nat) (h : k.size < 64) : keyS (k ++ { data := #[0] }) x = keyS k x := by
  unfold keyS
  rw [Sh.bl_append, bl_zero1, kx_same (Sh.bl k ++ [0]) (Sh.bl k) x ?_ 64]
  have hl : (Sh.bl k).length < 64 := by rw [Sh.bl_len]; exact h
  obtain ⟨n, hn⟩ : ∃ n, 64 - (Sh.bl k).length = n + 1 := ⟨63 - (Sh.bl k).length, by omega⟩
  have hn2 : 64 - (Sh.bl k ++ [0]).length = n := by simp; omega
  rw [hn, hn2, List.replicate_succ]
  simp
theorem hmac_zero (k s : ByteArray) (h : k.size < 64) : hmacS (k ++ { data := #[0] }) s = hmacS k s := by
  unfold hmacS
  have hz : (k ++ { data := #[0] } : ByteArray).size = k.size + 1 := by rw [ByteArray.size_append]; rfl
  rw [if_neg (by omega), if_neg (by omega)]
  unfold hmS
  rw [key_zero k 92 h, key_zero k 54 h]
theorem hmac_digest (k s : ByteArray) (h : 64 < k.size) : hmacS (ofS k) s = hmacS k s := by
  unfold hmacS
  rw [if_pos h, if_neg (by rw [ofS_size]; omega)]

set_option maxRecDepth 100000 in
set_option maxHeartbeats 400000 in
theorem shaSizes_long1 (k s : ByteArray) (w : World) (G : Glob w) (h : 200 < s.size) :
    Calls Tryd.prog 6 #[.string k, .string s] w fun e w' => e = .returned (.bool true) ∧ Below w.heap.size w w' := by
  have hd := over _ h
  clear h
  go_enter Tryd.func6, Tryd.ntmps6
  go_wp2_with fail
  refine (live_any _ G).mono ?_
  rintro e w1 ⟨rfl, b1⟩
  go_wp2_with fail
  go_ret
  exact ⟨rfl, b1⟩
set_option maxRecDepth 100000 in
set_option maxHeartbeats 400000 in
theorem shaSizes_long2 (k s : ByteArray) (w : World) (G : Glob w) (h0 : s.size ≤ 200) (h : 200 < k.size) :
    Calls Tryd.prog 6 #[.string k, .string s] w fun e w' => e = .returned (.bool true) ∧ Below w.heap.size w w' := by
  have hd := over _ h
  have hd0 := upto _ h0
  clear h h0
  go_enter Tryd.func6, Tryd.ntmps6
  go_wp2_with fail
  refine (live_any _ G).mono ?_
  rintro e w1 ⟨rfl, b1⟩
  go_wp2_with fail
  go_ret
  exact ⟨rfl, b1⟩

set_option maxRecDepth 100000 in
set_option maxHeartbeats 1000000 in
theorem shaSizes_small (k s : ByteArray) (w : World) (G : Glob w) (h0 : s.size ≤ 200) (h : k.size < 64) :
    Calls Tryd.prog 6 #[.string k, .string s] w fun e w' => e = .returned (.bool true) ∧ Below w.heap.size w w' := by
  have hd := upto k.size (by omega)
  have hd0 := upto _ h0
  have zk : Hid (k.size ≤ 70368744177664) := by show _ ≤ _; omega
  have ys : Hid (s.size ≤ 35184372088832) := by show _ ≤ _; omega
  have ys2 : Hid (s.size ≤ 70368744177664) := by show _ ≤ _; omega
  have zk0 : Hid ((k ++ { data := #[0] } : ByteArray).size ≤ 70368744177664) := by show _ ≤ _; rw [ByteArray.size_append]; show k.size + 1 ≤ _; omega
  have zt : Hid ((hmacS k s).size ≤ 70368744177664) := by show _ ≤ _; rw [hmac_size]; omega
  have q1 : (ofS s).size = 32 := ofS_size s
  have q2 : (hmacS k s).size = 32 := hmac_size k s
  have q3 : (hexS (hmacS k s)).size = 64 := by rw [hexS_size, hmac_size]
  have hk : decide ((k.size : Int) < 64) = true := by simp; omega
  have he := same_list (hmac_zero k s h)
  go_enter Tryd.func6, Tryd.ntmps6
  go_wp2_with fail
  refine (hmac_c _ _ _ G zk.out ys.out).mono ?_
  rintro e w1 ⟨rfl, b1⟩
  go_wp2_with fail
  refine (of_c _ _ (G.below b1 G.two) ys2.out).mono ?_
  rintro e w2 ⟨rfl, b2⟩
  replace b2 := bmore b1 b2
  clear b1
  go_wp2_with fail
  refine (hex_c _ _ zt.out).mono ?_
  rintro e w3 ⟨rfl, b3⟩
  replace b3 := bmore b2 b3
  clear b2
  go_wp2_with fail
  refine (hmac_c _ _ _ (G.below b3 G.two) zk0.out ys.out).mono ?_
  rintro e w4 ⟨rfl, b4⟩
  replace b4 := bmore b3 b4
  clear b3
  go_wp2_with fail
  refine (live_any _ (G.below b4 G.two)).mono ?_
  rintro e w5 ⟨rfl, b5⟩
  replace b5 := bmore b4 b5
  clear b4
  go_wp2_with fail
  go_ret
  exact ⟨rfl, b5⟩

set_option maxRecDepth 100000 in
set_option maxHeartbeats 1000000 in
theorem shaSizes_mid (k s : ByteArray) (w : World) (G : Glob w) (h0 : s.size ≤ 200) (h : k.size = 64) :
    Calls Tryd.prog 6 #[.string k, .string s] w fun e w' => e = .returned (.bool true) ∧ Below w.heap.size w w' := by
  have hd := upto k.size (by omega)
  have hd0 := upto _ h0
  have zk : Hid (k.size ≤ 70368744177664) := by show _ ≤ _; omega
  have ys : Hid (s.size ≤ 35184372088832) := by show _ ≤ _; omega
  have ys2 : Hid (s.size ≤ 70368744177664) := by show _ ≤ _; omega
  have zt : Hid ((hmacS k s).size ≤ 70368744177664) := by show _ ≤ _; rw [hmac_size]; omega
  have q1 : (ofS s).size = 32 := ofS_size s
  have q2 : (hmacS k s).size = 32 := hmac_size k s
  have q3 : (hexS (hmacS k s)).size = 64 := by rw [hexS_size, hmac_size]
  have hk : decide ((k.size : Int) < 64) = false := by simp; omega
  have hk2 : ((k.size : Int) == 64) = true := beq_iff_eq.2 (by omega)
  clear h
  go_enter Tryd.func6, Tryd.ntmps6
  go_wp2_with fail
  refine (hmac_c _ _ _ G zk.out ys.out).mono ?_
  rintro e w1 ⟨rfl, b1⟩
  go_wp2_with fail
  refine (of_c _ _ (G.below b1 G.two) ys2.out).mono ?_
  rintro e w2 ⟨rfl, b2⟩
  replace b2 := bmore b1 b2
  clear b1
  go_wp2_with fail
  refine (hex_c _ _ zt.out).mono ?_
  rintro e w3 ⟨rfl, b3⟩
  replace b3 := bmore b2 b3
  clear b2
  go_wp2_with fail
  refine (live_any _ (G.below b3 G.two)).mono ?_
  rintro e w5 ⟨rfl, b5⟩
  replace b5 := bmore b3 b5
  clear b3
  go_wp2_with fail
  go_ret
  exact ⟨rfl, b5⟩

set_option maxRecDepth 100000 in
set_option maxHeartbeats 1000000 in
theorem shaSizes_big (k s : ByteArray) (w : World) (G : Glob w) (h0 : s.size ≤ 200) (h : 64 < k.size) (hh : k.size ≤ 200) :
    Calls Tryd.prog 6 #[.string k, .string s] w fun e w' => e = .returned (.bool true) ∧ Below w.heap.size w w' := by
  have hd := upto k.size hh
  have hd0 := upto _ h0
  have zk : Hid (k.size ≤ 70368744177664) := by show _ ≤ _; omega
  have ys : Hid (s.size ≤ 35184372088832) := by show _ ≤ _; omega
  have ys2 : Hid (s.size ≤ 70368744177664) := by show _ ≤ _; omega
  have zt : Hid ((hmacS k s).size ≤ 70368744177664) := by show _ ≤ _; rw [hmac_size]; omega
  have zd : Hid ((ofS k).size ≤ 70368744177664) := by show _ ≤ _; rw [ofS_size]; omega
  have q1 : (ofS s).size = 32 := ofS_size s
  have q2 : (hmacS k s).size = 32 := hmac_size k s
  have q3 : (hexS (hmacS k s)).size = 64 := by rw [hexS_size, hmac_size]
  have hk : decide ((k.size : Int) < 64) = false := by simp; omega
  have hk2 : ((k.size : Int) == 64) = false := beq_eq_false_iff_ne.2 (by omega)
  have he := same_list (hmac_digest k s h)
  clear h
  go_enter Tryd.func6, Tryd.ntmps6
  go_wp2_with fail
  refine (hmac_c _ _ _ G zk.out ys.out).mono ?_
  rintro e w1 ⟨rfl, b1⟩
  go_wp2_with fail
  refine (of_c _ _ (G.below b1 G.two) ys2.out).mono ?_
  rintro e w2 ⟨rfl, b2⟩
  replace b2 := bmore b1 b2
  clear b1
  go_wp2_with fail
  refine (hex_c _ _ zt.out).mono ?_
  rintro e w3 ⟨rfl, b3⟩
  replace b3 := bmore b2 b3
  clear b2
  go_wp2_with fail
  refine (of_c _ _ (G.below b3 G.two) zk.out).mono ?_
  rintro e w4 ⟨rfl, b4⟩
  replace b4 := bmore b3 b4
  clear b3
  go_wp2_with fail
  refine (hmac_c _ _ _ (G.below b4 G.two) zd.out ys.out).mono ?_
  rintro e w6 ⟨rfl, b6⟩
  replace b6 := bmore b4 b6
  clear b4
  go_wp2_with fail
  refine (live_any _ (G.below b6 G.two)).mono ?_
  rintro e w5 ⟨rfl, b5⟩
  replace b5 := bmore b6 b5
  clear b6
  go_wp2_with fail
  go_ret
  exact ⟨rfl, b5⟩

theorem shaSizes_any (k s : ByteArray) (w : World) (G : Glob w) :
    Calls Tryd.prog 6 #[.string k, .string s] w fun e w' => e = .returned (.bool true) ∧ Below w.heap.size w w' := by
  by_cases h0 : 200 < s.size
  · exact shaSizes_long1 k s w G h0
  by_cases h1 : 200 < k.size
  · exact shaSizes_long2 k s w G (by omega) h1
  by_cases h2 : k.size < 64
  · exact shaSizes_small k s w G (by omega) h2
  by_cases h3 : k.size = 64
  · exact shaSizes_mid k s w G (by omega) h3
  · exact shaSizes_big k s w G (by omega) (by omega) (by omega)

end Go.Proofs.YtalknjokamfggaaDoor
