/- The reference's Of. -/
import Derived.Test.YtalknjokamfggaaDoorR6
namespace Go.Proofs.YtalknjokamfggaaDoor
open Go.RowKit

theorem pad_full (n : Nat) : (n + (zs n + 9)) % 64 = 0 := by unfold zs; omega
theorem pad_bytes (n : Nat) : Sh.Bytes (pad n 8) := by
  have hb : ∀ i, Sh.Bytes (lb n i) := by
    intro i
    induction i with
    | zero => intro j; show Sh.nth [] j < 256; simp [Sh.nth]
    | succ i ih =>
      intro j
      rw [lb]
      by_cases h : j < (lb n i).length
      · rw [Sh.nth_append_left _ _ _ h]; exact ih j
      · rw [Sh.nth_append_right _ _ _ (by omega)]
        cases j - (lb n i).length with
        | zero => exact Nat.mod_lt _ (by decide)
        | succ m => simp [Sh.nth]
  intro j
  unfold pad
  by_cases h : j < (128 :: List.replicate (zs n) 0).length
  · rw [Sh.nth_append_left _ _ _ h]
    cases j with
    | zero => simp [Sh.nth]
    | succ j => show Sh.nth (List.replicate (zs n) 0) j < 256; rw [Sh.nth_replicate]; decide
  · rw [Sh.nth_append_right _ _ _ (by omega)]
    by_cases h2 : j - (128 :: List.replicate (zs n) 0).length < (lb n 8).length
    · rw [Sh.nth_append_left _ _ _ h2]; exact hb 8 _
    · rw [Sh.nth_append_right _ _ _ (by omega), Sh.nth_replicate]; decide
theorem bytes_append {a b : List Nat} (ha : Sh.Bytes a) (hb : Sh.Bytes b) : Sh.Bytes (a ++ b) := by
  intro i
  by_cases h : i < a.length
  · rw [Sh.nth_append_left _ _ _ h]; exact ha i
  · rw [Sh.nth_append_right _ _ _ (by omega)]; exact hb _
theorem bytes_drop {a : List Nat} (ha : Sh.Bytes a) (k : Nat) : Sh.Bytes (a.drop k) := fun i => by rw [Sh.nth_drop]; exact ha _

/-- A block hangs on its first 64 numbers alone. -/
theorem word_congr (a b : List Nat) (i : Nat) (h : ∀ j, j < 64 → Sh.nth a j = Sh.nth b j) (hi : i + 3 < 64) : Sh.word a i = Sh.word b i := by
  unfold Sh.word
  rw [h i (by omega), h (i + 1) (by omega), h (i + 2) (by omega), h (i + 3) (by omega)]
theorem sched0_congr (a b : List Nat) (h : ∀ j, j < 64 → Sh.nth a j = Sh.nth b j) : ∀ n, n ≤ 16 → Sh.sched0 a n = Sh.sched0 b n
  | 0, _ => rfl
  | n + 1, hn => by rw [Sh.sched0, Sh.sched0, sched0_congr a b h n (by omega), word_congr a b (4 * n) h (by omega)]
theorem sched_congr (a b : List Nat) (h : ∀ j, j < 64 → Sh.nth a j = Sh.nth b j) : ∀ n, Sh.sched a n = Sh.sched b n
  | 0 => sched0_congr a b h 16 (Nat.le_refl _)
  | n + 1 => by rw [Sh.sched, Sh.sched, sched_congr a b h n]
theorem mixP_congr (h8 a b : List Nat) (h : ∀ j, j < 64 → Sh.nth a j = Sh.nth b j) : Sh.mixP h8 a = Sh.mixP h8 b := by
  unfold Sh.mixP; rw [sched_congr a b h 48]
theorem mixs_left (h8 a b : List Nat) : ∀ n, 64 * n ≤ a.length → Sh.mixs h8 (a ++ b) n = Sh.mixs h8 a n
  | 0, _ => rfl
  | n + 1, hn => by
    rw [Sh.mixs, Sh.mixs, mixs_left h8 a b n (by omega)]
    apply mixP_congr
    intro j hj
    rw [Sh.nth_drop, Sh.nth_drop, Sh.nth_append_left _ _ _ (by omega)]
theorem mixs_right (h8 a b : List Nat) (m : Nat) (ha : a.length = 64 * m) : ∀ n, Sh.mixs h8 (a ++ b) (m + n) = Sh.mixs (Sh.mixs h8 a m) b n
  | 0 => mixs_left h8 a b m (by omega)
  | n + 1 => by
    rw [← Nat.add_assoc, Sh.mixs, Sh.mixs, mixs_right h8 a b m ha n]
    congr 1
    rw [List.drop_append, ha, show 64 * (m + n) - 64 * m = 64 * n from by omega]
    rw [List.drop_eq_nil_of_le (by omega), List.nil_append]

/-- The digest as the reference goes about it: all blocks of the padded bytes. -/
theorem ofL_all (s : ByteArray) : ofL s = bo (Sh.mixs Sh.H0 (Sh.bl s ++ pad s.size 8) ((s.size + (zs s.size + 9)) / 64)) 32 := by
  unfold ofL
  obtain ⟨q, hq⟩ : ∃ q, s.size - s.size % 64 = q := ⟨_, rfl⟩
  rw [hq]
  have hq64 : q = 64 * (s.size / 64) := by omega
  have hle : q ≤ s.size := by omega
  have e1 : (s.extract 0 q).size = q := by simp; omega
  have e2 : (s.extract q s.size ++ Sh.str (pad s.size 8)).size = s.size - q + (zs s.size + 9) := by
    rw [ByteArray.size_append, Sh.str_size, pad_len _ _ (Nat.le_refl _)]; simp
  rw [e1, e2, Sh.bl_append, Sh.bl_str _ (pad_bytes s.size), Sh.bl_take, Sh.bl_extract]
  have hsplit : Sh.bl s ++ pad s.size 8 = (Sh.bl s).take q ++ ((Sh.bl s).drop q ++ pad s.size 8) := by
    rw [← List.append_assoc, List.take_append_drop]
  rw [hsplit]
  have hm : (s.size + (zs s.size + 9)) / 64 = q / 64 + (s.size - q + (zs s.size + 9)) / 64 := by
    have := pad_full s.size
    omega
  rw [hm, mixs_right Sh.H0 _ _ (q / 64) (by rw [List.length_take, Sh.bl_len]; omega)]

end Go.Proofs.YtalknjokamfggaaDoor
