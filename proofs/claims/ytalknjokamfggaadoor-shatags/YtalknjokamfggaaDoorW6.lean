/- Hex: two digits for each byte. -/
import Derived.Test.YtalknjokamfggaaDoorW1
import Derived.Test.YtalknjokamfggaaDoorRow
namespace Go.Proofs.YtalknjokamfggaaDoor
open Go.RowKit

theorem info5 : (Tryd.prog.info? 5).map (fun i => (i.zero, i.size, i.bytes)) = some (some (.int .u8 0), 1, 1) := by kernel_rfl
def digs : ByteArray := ⟨#[48, 49, 50, 51, 52, 53, 54, 55, 56, 57, 97, 98, 99, 100, 101, 102]⟩
def dig (n : Nat) : Nat := Sh.nth [48, 49, 50, 51, 52, 53, 54, 55, 56, 57, 97, 98, 99, 100, 101, 102] n
def hexs (l : List Nat) : Nat → List Nat
  | 0 => []
  | n + 1 => hexs l n ++ [dig (Sh.nth l n / 16), dig (Sh.nth l n % 16)]
theorem hexs_len (l : List Nat) : ∀ n, (hexs l n).length = 2 * n
  | 0 => rfl
  | n + 1 => by simp [hexs, hexs_len l n]; omega

theorem dig_at (j : Nat) (h : j < ({ data := #[48, 49, 50, 51, 52, 53, 54, 55, 56, 57, 97, 98, 99, 100, 101, 102] } : ByteArray).size) :
    ({ data := #[48, 49, 50, 51, 52, 53, 54, 55, 56, 57, 97, 98, 99, 100, 101, 102] } : ByteArray)[j].toNat = dig j := by
  have h16 : j < 16 := h
  have : ∀ i : Fin 16, (({ data := #[48, 49, 50, 51, 52, 53, 54, 55, 56, 57, 97, 98, 99, 100, 101, 102] } : ByteArray)[i.val]'(i.isLt)).toNat = dig i.val := by decide
  exact this ⟨j, h16⟩
theorem set_two (a : List Nat) (m x y : Nat) (h : 2 ≤ m) : ((a ++ List.replicate m 0).set a.length x).set (a.length + 1) y = (a ++ [x, y]) ++ List.replicate (m - 2) 0 := by
  obtain ⟨m, rfl⟩ : ∃ j, m = j + 2 := ⟨m - 2, by omega⟩
  simp [List.replicate_succ]
theorem hex_row (l : List Nat) (n k : Nat) (hk : k < n) : ((hexs l k ++ List.replicate (2 * n - 2 * k) 0).set (2 * k) (dig (Sh.nth l k / 16))).set (2 * k + 1) (dig (Sh.nth l k % 16)) = hexs l (k + 1) ++ List.replicate (2 * n - 2 * (k + 1)) 0 := by
  have h := set_two (hexs l k) (2 * n - 2 * k) (dig (Sh.nth l k / 16)) (dig (Sh.nth l k % 16)) (by omega)
  rw [hexs_len] at h
  rw [h, show 2 * n - 2 * k - 2 = 2 * n - 2 * (k + 1) from by omega]
  rfl

set_option maxRecDepth 100000 in
set_option maxHeartbeats 400000 in
theorem hex_any (s : ByteArray) (w : World) (hs : s.size ≤ 70368744177664) :
    Calls Tryd.prog 11 #[.string s] w fun e w' => e = .returned (.string (Sh.str (hexs (Sh.bl s) s.size))) ∧ Below w.heap.size w w' := by
  go_enter Tryd.func11, Tryd.ntmps11
  go_wp2_with (refine make_law rfl _ _ 35 rfl 5 .u8 Tryd.underlying35 info5 .i64 .i64 _ _ (2 * s.size) rfl rfl (by omega) (by omega) (by omega) ?_; intro w1 hw1)
  have r0 := Row.hidNew hw1
  have hb := below_hidAlloc (Below.refl w.heap.size w) hw1 (Nat.le_refl _)
  clear hw1
  go_loopw [11] (fun i wr => ∃ k : Nat, k ≤ s.size ∧ i = .int .i64 k ∧ Row .u8 5 wr w.heap.size (hexs (Sh.bl s) k ++ List.replicate (2 * s.size - 2 * k) 0) ∧ Below w.heap.size w wr)
    (fun i _ => s.size - (intOf i).toNat)
  case atStart => exact ⟨0, by omega, rfl, r0, hb⟩
  case round =>
    clear r0 hb
    obtain ⟨k, hk, rfl, r0, hb⟩ := hrel
    by_cases hlt : k < s.size
    · have hl : (hexs (Sh.bl s) k ++ List.replicate (2 * s.size - 2 * k) 0).length = 2 * s.size := by simp [hexs_len]; omega
      have HL := Lib.hid hl
      clear hl
      have c0 := r0.cell (2 * k) (by rw [HL.out]; omega)
      have c1 := r0.cell (2 * k + 1) (by rw [HL.out]; omega)
      have f0 := r0.frozen (2 * k)
      have f1 := r0.frozen (2 * k + 1)
      have hz : s[k].toNat < 256 := s[k].toNat_lt
      have hz1 : (s[k].toNat : Int) / 16 < 16 := by omega
      have HX : Hid (hexs (Sh.bl s) (k + 1) ++ List.replicate (2 * s.size - 2 * (k + 1)) 0 = ((hexs (Sh.bl s) k ++ List.replicate (2 * s.size - 2 * k) 0).set (2 * k) (dig (s[k].toNat / 16))).set (2 * k + 1) (dig (s[k].toNat % 16))) := by
        show _ = _
        rw [← Sh.nth_bl s k hlt]
        exact (hex_row (Sh.bl s) s.size k hlt).symm
      go_wp2
      go_roundw
      case rel =>
        refine ⟨k + 1, by omega, by go_num, ?_, (hb.setCell (by simp) _).setCell (by simp) _⟩
        simp only [dig_at]
        rw [HX.out]
        exact (r0.set _ _).set _ _
      case measure => simp [intOf]; omega
    · obtain rfl : k = s.size := by omega
      have r1 : Row .u8 5 wr w.heap.size (hexs (Sh.bl s) s.size) := by simpa using r0
      clear r0
      go_wp2_with (refine conv_law rfl _ 35 9 5 rfl Tryd.underlying35 Tryd.underlying5 Tryd.underlying9 w.heap.size (2 * s.size) _ 5 _ rfl r1 (hexs_len _ _) ?_)
      go_ret
      exact ⟨rfl, hb⟩

end Go.Proofs.YtalknjokamfggaaDoor
