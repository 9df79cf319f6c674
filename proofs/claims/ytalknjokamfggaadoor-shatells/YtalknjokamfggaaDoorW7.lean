/- bytesOf, padding, padded. -/
import Derived.Test.YtalknjokamfggaaDoorW4
import Derived.Test.YtalknjokamfggaaDoorW6
import Derived.Lib.BufferWrite
namespace Go.Proofs.YtalknjokamfggaaDoor
open Go.RowKit

def bo (h : List Nat) : Nat → List Nat
  | 0 => []
  | n + 1 => bo h n ++ [Sh.nth h (n / 4) / 2 ^ (24 - n % 4 * 8) % 256]
theorem bo_len (h : List Nat) : ∀ n, (bo h n).length = n
  | 0 => rfl
  | n + 1 => by simp [bo, bo_len h n]
theorem bo_row (h : List Nat) (k : Nat) (hk : k < 32) : (bo h k ++ List.replicate (32 - k) 0).set k (Sh.nth h (k / 4) / 2 ^ (24 - k % 4 * 8) % 256) = bo h (k + 1) ++ List.replicate (32 - (k + 1)) 0 := by
  have q := set_zero (bo h k) (32 - k) (Sh.nth h (k / 4) / 2 ^ (24 - k % 4 * 8) % 256) (by omega)
  rw [bo_len] at q
  rw [q, show 32 - k - 1 = 32 - (k + 1) from by omega]; rfl
theorem zeros32 : #[Value.int .u8 0, .int .u8 0, .int .u8 0, .int .u8 0, .int .u8 0, .int .u8 0, .int .u8 0, .int .u8 0, .int .u8 0, .int .u8 0, .int .u8 0, .int .u8 0, .int .u8 0, .int .u8 0, .int .u8 0, .int .u8 0,
   .int .u8 0, .int .u8 0, .int .u8 0, .int .u8 0, .int .u8 0, .int .u8 0, .int .u8 0, .int .u8 0, .int .u8 0, .int .u8 0, .int .u8 0, .int .u8 0, .int .u8 0, .int .u8 0, .int .u8 0, .int .u8 0] = vs .u8 (List.replicate 32 0) := rfl

set_option maxRecDepth 100000 in
set_option maxHeartbeats 400000 in
theorem bytesOf_any (h8 : List Nat) (w : World) (hh : h8.length = 8) (hw : Sh.Words h8) :
    Calls Tryd.prog 18 #[.agg (vs .u32 h8)] w fun e w' => e = .returned (.string (Sh.str (bo h8 32))) ∧ Below w.heap.size w w' := by
  have HH := Lib.hid hh
  clear hh
  go_enter Tryd.func18, Tryd.ntmps18
  go_wp2_with fail
  go_loopw [5] (fun i wr => ∃ k : Nat, k ≤ 32 ∧ i = .int .i64 k ∧ Row .u32 28 wr w.heap.size h8 ∧ Row .u8 40 wr (w.heap.size + 1) (bo h8 k ++ List.replicate (32 - k) 0) ∧ Below w.heap.size w wr)
    (fun i _ => 32 - (intOf i).toNat)
  case atStart =>
    refine ⟨0, by omega, rfl, (Row.new w .u32 28 _ _ rfl).alloc _, ?_, ((Below.refl _ _).alloc (Nat.le_refl _) _).alloc (by simp) _⟩
    have q := Row.new (w.alloc (.cells (vs .u32 h8) 28)) .u8 40 (List.replicate 32 0) _ zeros32
    rw [size_alloc] at q
    exact q
  case round =>
    obtain ⟨k, hk, rfl, r0, r1, hb⟩ := hrel
    by_cases hlt : k < 32
    · have hl : (bo h8 k ++ List.replicate (32 - k) 0).length = 32 := by simp [bo_len]; omega
      have HL := Lib.hid hl
      clear hl
      have c0 := r0.cell (k / 4) (by rw [HH.out]; omega)
      have c1 := r1.cell k (by rw [HL.out]; omega)
      have f1 := r1.frozen k
      have hx := hw (k / 4)
      go_wp2
      go_roundw
      case rel =>
        refine ⟨k + 1, by omega, by go_num, r0.setOther _ (by simp), ?_, hb.setCell (by simp) _⟩
        have q := r1.set k (Sh.nth h8 (k / 4) / 2 ^ (24 - k % 4 * 8) % 256)
        rw [bo_row h8 k hlt] at q
        simpa using q
      case measure => simp [intOf]; omega
    · obtain rfl : k = 32 := by omega
      have r2 : Row .u8 40 wr (w.heap.size + 1) (bo h8 32) := by simpa using r1
      clear r1
      go_wp2_with (refine conv_law rfl _ 35 9 5 rfl Tryd.underlying35 Tryd.underlying5 Tryd.underlying9 (w.heap.size + 1) 32 _ 40 _ rfl r2 (bo_len _ _) ?_)
      go_ret
      exact ⟨rfl, hb⟩

/-- The bytes of a length, the highest first. -/
def lb (n : Nat) : Nat → List Nat
  | 0 => []
  | i + 1 => lb n i ++ [8 * n / 2 ^ (56 - 8 * i) % 256]
theorem lb_len (n : Nat) : ∀ i, (lb n i).length = i
  | 0 => rfl
  | i + 1 => by simp [lb, lb_len n i]
def zs (n : Nat) : Nat := (119 - n % 64) % 64
def pad (n i : Nat) : List Nat := (128 :: List.replicate (zs n) 0) ++ (lb n i ++ List.replicate (8 - i) 0)
theorem pad_len (n i : Nat) (h : i ≤ 8) : (pad n i).length = zs n + 9 := by simp [pad, lb_len]; omega
theorem pad_row (n i : Nat) (h : i < 8) : (pad n i).set (1 + zs n + i) (8 * n / 2 ^ (56 - 8 * i) % 256) = pad n (i + 1) := by
  have q := set_zero (lb n i) (8 - i) (8 * n / 2 ^ (56 - 8 * i) % 256) (by omega)
  rw [lb_len] at q
  unfold pad
  rw [List.set_append, if_neg (by simp; omega)]
  rw [show 1 + zs n + i - (128 :: List.replicate (zs n) 0).length = i from by simp; omega, q, show 8 - i - 1 = 8 - (i + 1) from by omega]
  rfl
theorem pad_zero (n : Nat) : (List.replicate (zs n + 9) 0).set 0 128 = pad n 0 := by
  unfold pad lb
  rw [show zs n + 9 = (zs n + 8) + 1 from rfl, List.replicate_succ]
  rw [List.nil_append, List.set_cons_zero, List.cons_append, ← List.replicate_append_replicate]

set_option maxRecDepth 100000 in
set_option maxHeartbeats 400000 in
theorem padding_any (n : Nat) (w : World) (hn : n ≤ 70368744177664) :
    Calls Tryd.prog 17 #[.int .i64 (n : Int)] w fun e w' => e = .returned (.string (Sh.str (pad n 8))) ∧ Below w.heap.size w w' := by
  have hz : zs n < 64 := Nat.mod_lt _ (by decide)
  have hzi : (119 - (n : Int) % 64) % 64 = (zs n : Nat) := by unfold zs; omega
  go_enter Tryd.func17, Tryd.ntmps17
  go_wp2_with (refine make_law rfl _ _ 35 rfl 5 .u8 Tryd.underlying35 info5 .i64 .i64 _ _ (zs n + 9) rfl rfl (by omega) (by omega) (by omega) ?_; intro w1 hw1; have r0 := Row.hidNew hw1; have hb := below_hidAlloc (Below.refl w.heap.size w) hw1 (Nat.le_refl _); clear hw1; have c0 := r0.cell 0 (by simp); have f0 := r0.frozen 0)
  have r1 := r0.set 0 128
  rw [pad_zero] at r1
  have hb1 := hb.setCell (p := ⟨w.heap.size, 0, none⟩) (Nat.le_refl _) (Value.int .u8 ((128 : Nat) : Int))
  clear r0 hb c0 f0 hzi
  go_loopw [20] (fun i wr => ∃ k : Nat, k ≤ 8 ∧ i = .int .i64 k ∧ Row .u8 5 wr w.heap.size (pad n k) ∧ Below w.heap.size w wr)
    (fun i _ => 8 - (intOf i).toNat)
  case atStart => exact ⟨0, by omega, rfl, r1, hb1⟩
  case round =>
    clear r1 hb1
    obtain ⟨k, hk, rfl, r0, hb⟩ := hrel
    by_cases hlt : k < 8
    · have c0 := r0.cell (1 + zs n + k) (by rw [pad_len n k hk]; omega)
      have f0 := r0.frozen (1 + zs n + k)
      go_wp2
      go_roundw
      case rel =>
        refine ⟨k + 1, by omega, by go_num, ?_, hb.setCell (by simp) _⟩
        have q := r0.set (1 + zs n + k) (8 * n / 2 ^ (56 - 8 * k) % 256)
        rw [pad_row n k hlt] at q
        simpa using q
      case measure => simp [intOf]; omega
    · obtain rfl : k = 8 := by omega
      go_wp2_with (refine conv_law rfl _ 35 9 5 rfl Tryd.underlying35 Tryd.underlying5 Tryd.underlying9 w.heap.size (zs n + 9) _ 5 _ rfl r0 (pad_len n 8 (Nat.le_refl _)) ?_)
      go_ret
      exact ⟨rfl, hb⟩

/-- A key of at most 64 bytes, filled up, the first k of them xor x. -/
def kx (l : List Nat) (x : Nat) : Nat → List Nat
  | 0 => l ++ List.replicate (64 - l.length) 0
  | k + 1 => (kx l x k).set k (Sh.nth (l ++ List.replicate (64 - l.length) 0) k ^^^ x)
theorem kx_len (l : List Nat) (x : Nat) (h : l.length ≤ 64) : ∀ k, (kx l x k).length = 64
  | 0 => by simp [kx]; omega
  | k + 1 => by simp [kx, kx_len l x h k]
theorem kx_nth (l : List Nat) (x : Nat) (h : l.length ≤ 64) : ∀ k i, k ≤ i → k ≤ 64 → Sh.nth (kx l x k) i = Sh.nth (l ++ List.replicate (64 - l.length) 0) i
  | 0, _, _, _ => rfl
  | k + 1, i, hi, hk => by
    rw [kx, Sh.nth_set _ _ _ _ (by rw [kx_len l x h]; omega), if_neg (by omega)]
    exact kx_nth l x h k i (by omega) (by omega)

/-- copy(out, key) into a block of zeros. -/
theorem copy_str {P : Program} {ops : Array Oper} {rest : List Oper} {o : Oper} {a : Act} {w : World} {Q : Exit → Act → World → Prop} (hgd : o.guard = none) (d x : Operand) (dT sT : TypeId)
    (ho : o.op = .call { callee := .builtin .copy, args := #[d, x], argTypes := #[dT, sT] }) (elem : TypeId) (hu : P.underlying dT = some (.slice elem)) (hsz : (P.info? elem).map (·.size) = some 1)
    (g n : Nat) (s : ByteArray) (t : TypeId) (hd : a.eval d = .slice (some ⟨g, 0, none⟩) n n) (hs : a.eval x = .string s) (hg : Row .u8 t w g (List.replicate n 0)) (hl : s.size ≤ n)
    (h : ∀ w', Hid (w' = w.setRow g (vs .u8 (Sh.bl s ++ List.replicate (n - s.size) 0))) → wpList P ops Q rest (a.put o.dst (goInt s.size)) w') : wpList P ops Q (o :: rest) a w := by
  refine wpList_plain hgd fun K hK => ?_
  have hrun := Lib.run_copy_row_string (P := P) w dT sT o.type elem g 0 n n s _ t hu hsz hg hl (by rw [vs_size]; simpa using hl)
  have e : ((vs .u8 (List.replicate n 0)).toList.take 0 ++ Lib.byteCells s.data.toList ++ (vs .u8 (List.replicate n 0)).toList.drop (0 + s.size)).toArray = vs .u8 (Sh.bl s ++ List.replicate (n - s.size) 0) := by
    simp [vs, Lib.byteCells, Sh.bl, Function.comp_def]
  rw [e] at hrun
  unfold Oper.wp
  simp [execOp, ho, resolve, invoke, builtin, hd, hs, hrun, Result.andThen]
  exact hK _ _ (h _ rfl)

theorem key_byte (s : ByteArray) (k : Nat) : Sh.nth (Sh.bl s ++ List.replicate (64 - (Sh.bl s).length) 0) k < 256 := by
  by_cases h : k < (Sh.bl s).length
  · rw [Sh.nth_append_left _ _ _ h]; exact Sh.bl_bytes s k
  · rw [Sh.nth_append_right _ _ _ (by omega), Sh.nth_replicate]; decide

set_option maxRecDepth 100000 in
set_option maxHeartbeats 400000 in
theorem padded_any (s : ByteArray) (x : Nat) (w : World) (hs : s.size ≤ 64) (hx : x < 256) :
    Calls Tryd.prog 21 #[.string s, .int .u8 (x : Int)] w fun e w' => e = .returned (.string (Sh.str (kx (Sh.bl s) x 64))) ∧ Below w.heap.size w w' := by
  have hl : (Sh.bl s).length ≤ 64 := by rw [Sh.bl_len]; exact hs
  have HL := Lib.hid hl
  clear hl
  go_enter Tryd.func21, Tryd.ntmps21
  go_wp2_with (first
    | (refine make_law rfl _ _ 35 rfl 5 .u8 Tryd.underlying35 info5 .i64 .i64 _ _ 64 rfl rfl rfl rfl (by decide) ?_; intro w1 hw1; have r0 := Row.hidNew hw1; have hb := below_hidAlloc (Below.refl w.heap.size w) hw1 (Nat.le_refl _); clear hw1)
    | (refine copy_str rfl (.tmp 8) (.tmp 9) 35 9 rfl 5 Tryd.underlying35 (by kernel_rfl) w.heap.size 64 s 5 rfl rfl r0 hs ?_; intro w2 hw2; replace r0 := r0.hidSet hw2; replace hb := below_hidSet hb hw2 (Nat.le_refl _); clear hw2))
  go_loopw [11] (fun i wr => ∃ k : Nat, k ≤ 64 ∧ i = .int .i64 k ∧ Row .u8 5 wr w.heap.size (kx (Sh.bl s) x k) ∧ Below w.heap.size w wr)
    (fun i _ => 64 - (intOf i).toNat)
  case atStart => exact ⟨0, by omega, rfl, by rw [kx, Sh.bl_len]; exact r0, hb⟩
  case round =>
    clear r0 hb
    obtain ⟨k, hk, rfl, r0, hb⟩ := hrel
    by_cases hlt : k < 64
    · have c0 := r0.cell k (by rw [kx_len _ _ HL.out]; exact hlt)
      rw [kx_nth _ _ HL.out k k (Nat.le_refl _) hk] at c0
      have f0 := r0.frozen k
      have e1 := u8_xor_nat (Sh.nth (Sh.bl s ++ List.replicate (64 - (Sh.bl s).length) 0) k) x (key_byte s k) hx
      have HK : Hid (kx (Sh.bl s) x (k + 1) = (kx (Sh.bl s) x k).set k (Sh.nth (Sh.bl s ++ List.replicate (64 - (Sh.bl s).length) 0) k ^^^ x)) := rfl
      go_wp2
      go_roundw
      case rel =>
        refine ⟨k + 1, by omega, by go_num, ?_, hb.setCell (by simp) _⟩
        rw [HK.out]
        exact r0.set _ _
      case measure => simp [intOf]; omega
    · obtain rfl : k = 64 := by omega
      go_wp2_with (refine conv_law rfl _ 35 9 5 rfl Tryd.underlying35 Tryd.underlying5 Tryd.underlying9 w.heap.size 64 _ 5 _ rfl r0 (kx_len _ _ HL.out _) ?_)
      go_ret
      exact ⟨rfl, hb⟩

end Go.Proofs.YtalknjokamfggaaDoor
