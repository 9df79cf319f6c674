/- How many bits a word has, and a mask. -/
import Derived.Test.YthmlibapjhmdbaaDoorW6
import Derived.Test.YthmlibapjhmdbaaDoorPop
import Derived.Laws.Bits128
namespace Go.Proofs.YthmlibapjhmdbaaDoor
open Go.RowKit Go.Shelf
open Mk

def F1 (x : Int) : Int := IntKind.u64.wrap (bits .and .u64 (x / 2) 6148914691236517205 + bits .and .u64 x 6148914691236517205)
def F2 (x : Int) : Int := IntKind.u64.wrap (bits .and .u64 (x / 4) 3689348814741910323 + bits .and .u64 x 3689348814741910323)
def F3 (x : Int) : Int := bits .and .u64 (IntKind.u64.wrap (x / 16 + x)) 1085102592571150095
def F4 (x : Int) : Int := IntKind.u64.wrap (x + x / 256)
def F5 (x : Int) : Int := IntKind.u64.wrap (x + x / 65536)
def F6 (x : Int) : Int := IntKind.u64.wrap (x + x / 4294967296)
def F7 (x : Int) : Int := bits .and .i64 (wrap64 x) 127
theorem u64_small {n : Nat} (h : n < 18446744073709551616) : IntKind.u64.wrap (n : Int) = (n : Int) := by rw [IntKind.wrap_u64]; omega
theorem val_lt : ∀ bs : List Nat, (∀ b ∈ bs, b < 256) → val bs < 256 ^ bs.length
  | [], _ => by decide
  | b :: bs, h => by
    have := val_lt bs (fun x hx => h x (by simp [hx]))
    have hb := h b (by simp)
    simp only [val, List.length_cons, Nat.pow_succ]
    omega
theorem F1_eq (bs : List Nat) (hl : bs.length = 8) (h : ∀ b ∈ bs, b < 256) (h2 : ∀ b ∈ bs.map s1, b < 256) : F1 (val bs : Nat) = (val (bs.map s1) : Nat) := by
  have e := step1 bs h
  have hv := val_lt bs h
  have hv2 := val_lt (bs.map s1) h2
  rw [List.length_map] at hv2
  rw [hl] at e hv hv2
  rw [show rep 85 8 = 6148914691236517205 from rfl] at e
  rw [show (256 : Nat) ^ 8 = 18446744073709551616 from rfl] at hv hv2
  unfold F1
  rw [show ((val bs : Nat) : Int) / 2 = ((val bs / 2 : Nat) : Int) by omega, show (6148914691236517205 : Int) = ((6148914691236517205 : Nat) : Int) from rfl,
    u64_and_nat _ _ (by omega) (by omega), u64_and_nat _ _ hv (by omega), ← Int.natCast_add, e, u64_small hv2]
theorem F2_eq (bs : List Nat) (hl : bs.length = 8) (h : ∀ b ∈ bs, b < 256) (h2 : ∀ b ∈ bs.map s2, b < 256) : F2 (val bs : Nat) = (val (bs.map s2) : Nat) := by
  have e := step2 bs h
  have hv := val_lt bs h
  have hv2 := val_lt (bs.map s2) h2
  rw [List.length_map] at hv2
  rw [hl] at e hv hv2
  rw [show rep 51 8 = 3689348814741910323 from rfl] at e
  rw [show (256 : Nat) ^ 8 = 18446744073709551616 from rfl] at hv hv2
  unfold F2
  rw [show ((val bs : Nat) : Int) / 4 = ((val bs / 4 : Nat) : Int) by omega, show (3689348814741910323 : Int) = ((3689348814741910323 : Nat) : Int) from rfl,
    u64_and_nat _ _ (by omega) (by omega), u64_and_nat _ _ hv (by omega), ← Int.natCast_add, e, u64_small hv2]
/-- A word whose bytes are small: the sum with its sixteenth part still is one. -/
theorem val_le68 : ∀ bs : List Nat, (∀ b ∈ bs, b ≤ 68) → 255 * val bs ≤ 68 * (256 ^ bs.length - 1)
  | [], _ => by decide
  | b :: bs, h => by
    have := val_le68 bs (fun x hx => h x (by simp [hx]))
    have hb := h b (by simp)
    have hp : 0 < 256 ^ bs.length := Nat.pow_pos (by decide)
    simp only [val, List.length_cons, Nat.pow_succ]
    omega
theorem F3_eq (bs : List Nat) (hl : bs.length = 8) (h : ∀ b ∈ bs, Nib b) : F3 (val bs : Nat) = (val (bs.map s3) : Nat) := by
  have e := step3 bs h
  have hv := val_le68 bs (fun b hb => by have := h b hb; unfold Nib at this; omega)
  rw [hl] at e hv
  rw [show rep 15 8 = 1085102592571150095 from rfl] at e
  rw [show (256 : Nat) ^ 8 = 18446744073709551616 from rfl] at hv
  unfold F3
  rw [show ((val bs : Nat) : Int) / 16 + ((val bs : Nat) : Int) = ((val bs / 16 + val bs : Nat) : Int) by omega, show (1085102592571150095 : Int) = ((1085102592571150095 : Nat) : Int) from rfl,
    u64_small (by omega), u64_and_nat _ _ (by omega) (by omega), e]
theorem half_eq (X X1 d : Nat) (h : X1 = X + X / d) (hb : X1 < 18446744073709551616) : IntKind.u64.wrap ((X : Int) + (X : Int) / (d : Int)) = (X1 : Int) := by
  rw [← Int.natCast_ediv, ← Int.natCast_add, ← h, u64_small hb]
theorem F7_eq (X n : Nat) (h : X % 128 = n) (hb : X < 9223372036854775808) : F7 (X : Int) = (n : Int) := by
  unfold F7
  rw [i64_and127, show wrap64 (X : Int) = (X : Int) by unfold wrap64; omega]
  omega
theorem tail_eq (c0 c1 c2 c3 c4 c5 c6 c7 : Nat) (h0 : c0 ≤ 8) (h1 : c1 ≤ 8) (h2 : c2 ≤ 8) (h3 : c3 ≤ 8) (h4 : c4 ≤ 8) (h5 : c5 ≤ 8) (h6 : c6 ≤ 8) (h7 : c7 ≤ 8) :
    F7 (F6 (F5 (F4 (val [c0, c1, c2, c3, c4, c5, c6, c7] : Nat)))) = (c0 + c1 + c2 + c3 + c4 + c5 + c6 + c7 : Nat) := by
  have hX : val [c0, c1, c2, c3, c4, c5, c6, c7] = c0 + 256 * (c1 + 256 * (c2 + 256 * (c3 + 256 * (c4 + 256 * (c5 + 256 * (c6 + 256 * c7)))))) := rfl
  generalize val [c0, c1, c2, c3, c4, c5, c6, c7] = X at *
  obtain ⟨X1, hX1⟩ : ∃ X1, X1 = X + X / 256 := ⟨_, rfl⟩
  obtain ⟨X2, hX2⟩ : ∃ X2, X2 = X1 + X1 / 65536 := ⟨_, rfl⟩
  obtain ⟨X3, hX3⟩ : ∃ X3, X3 = X2 + X2 / 4294967296 := ⟨_, rfl⟩
  obtain ⟨t1, t2⟩ := tail_sum c0 c1 c2 c3 c4 c5 c6 c7 X X1 X2 X3 h0 h1 h2 h3 h4 h5 h6 h7 hX hX1 hX2 hX3
  have b3 : X3 < 18446744073709551616 := Nat.lt_trans t2 (by decide)
  have b2 : X2 < 18446744073709551616 := Nat.lt_of_le_of_lt (by rw [hX3]; exact Nat.le_add_right _ _) b3
  have b1 : X1 < 18446744073709551616 := Nat.lt_of_le_of_lt (by rw [hX2]; exact Nat.le_add_right _ _) b2
  rw [show F4 (X : Int) = (X1 : Int) from half_eq X X1 256 hX1 b1, show F5 (X1 : Int) = (X2 : Int) from half_eq X1 X2 65536 hX2 b2, show F6 (X2 : Int) = (X3 : Int) from half_eq X2 X3 4294967296 hX3 b3]
  exact F7_eq X3 _ t1 t2
theorem ones_eq (x : Nat) (hx : x < 18446744073709551616) : F7 (F6 (F5 (F4 (F3 (F2 (F1 (x : Int))))))) = (pcr 64 x : Nat) := by
  have B : ∀ y : Nat, s1 (y % 256) < 256 ∧ s2 (s1 (y % 256)) < 256 ∧ s2 (s1 (y % 256)) / 16 ≤ 4 ∧ s2 (s1 (y % 256)) % 16 ≤ 4 ∧ s3 (s2 (s1 (y % 256))) = pcr 8 (y % 256) :=
    fun y => byte_all ⟨y % 256, Nat.mod_lt _ (by decide)⟩
  have all : ∀ b ∈ bytes8 x, b < 256 ∧ s1 b < 256 ∧ s2 (s1 b) < 256 ∧ Nib (s2 (s1 b)) := by
    intro b hb
    have : ∃ y, b = y % 256 := by
      simp only [bytes8, List.mem_cons, List.not_mem_nil, or_false] at hb
      rcases hb with h | h | h | h | h | h | h | h <;> exact ⟨_, h⟩
    obtain ⟨y, rfl⟩ := this
    exact ⟨Nat.mod_lt _ (by decide), (B y).1, (B y).2.1, (B y).2.2.1, (B y).2.2.2.1⟩
  have e := val_bytes8 x hx
  rw [pcr_bytes]
  rw [show ((x : Nat) : Int) = ((val (bytes8 x) : Nat) : Int) by rw [e]]
  rw [F1_eq _ rfl (fun b hb => (all b hb).1) (by
    intro b hb
    obtain ⟨y, hy, rfl⟩ := List.mem_map.1 hb
    exact (all y hy).2.1)]
  rw [F2_eq _ rfl (by
    intro b hb
    obtain ⟨y, hy, rfl⟩ := List.mem_map.1 hb
    exact (all y hy).2.1) (by
    intro b hb
    obtain ⟨z, hz, rfl⟩ := List.mem_map.1 hb
    obtain ⟨y, hy, rfl⟩ := List.mem_map.1 hz
    exact (all y hy).2.2.1)]
  rw [F3_eq _ rfl (by
    intro b hb
    obtain ⟨z, hz, rfl⟩ := List.mem_map.1 hb
    obtain ⟨y, hy, rfl⟩ := List.mem_map.1 hz
    exact (all y hy).2.2.2)]
  rw [show ((bytes8 x).map s1 |>.map s2 |>.map s3) = [pcr 8 (x % 256), pcr 8 (x / 256 % 256), pcr 8 (x / 65536 % 256), pcr 8 (x / 16777216 % 256), pcr 8 (x / 4294967296 % 256), pcr 8 (x / 1099511627776 % 256), pcr 8 (x / 281474976710656 % 256), pcr 8 (x / 72057594037927936 % 256)] by
    simp only [bytes8, List.map_cons, List.map_nil, (B _).2.2.2.2]]
  exact tail_eq _ _ _ _ _ _ _ _ (pcr_le 8 _) (pcr_le 8 _) (pcr_le 8 _) (pcr_le 8 _) (pcr_le 8 _) (pcr_le 8 _) (pcr_le 8 _) (pcr_le 8 _)

set_option maxRecDepth 100000 in
set_option maxHeartbeats 400000 in
theorem ones_any (x : Nat) (w : World) (hx : x < 2 ^ 64) :
    Calls Tryd.prog 40 #[.int .u64 (x : Nat)] w fun e w' => e = .returned (.int .i64 (pcr 64 x : Nat)) ∧ w = w' := by
  rw [← ones_eq x hx]
  clear hx
  go_enter Tryd.func40, Tryd.ntmps40
  go_wp2_with fail
  go_ret
  exact ⟨rfl, rfl⟩

theorem pcr_hid (x : Nat) : ∃ n, n = pcr 64 x ∧ n ≤ 64 := ⟨_, rfl, pcr_le 64 x⟩
end Go.Proofs.YthmlibapjhmdbaaDoor
