/- The reference's turned and Hex. -/
import Derived.Test.YtalknjokamfggaaDoorR5
import Derived.Test.YtalknjokamfggaaDoorW9
namespace Go.Proofs.YtalknjokamfggaaDoor
open Go.RowKit

theorem str_snoc (l : List Nat) (m : List Nat) : Sh.str l ++ Sh.str m = Sh.str (l ++ m) := by
  apply ByteArray.ext
  simp [Sh.str, ByteArray.data_append]

/-- string(b), of a block of bytes. -/
theorem run_conv {w : World} {g n c : Nat} {t : TypeId} {l : List Nat} (hr : Row .u8 t w g l) (hl : l.length = n) :
    (convert 35 9 (.slice (some ⟨g, 0, none⟩) n c)).run Tryd.prog w = .ok (.string (Sh.str l)) w := by
  subst hl
  have hload := run_loadCells_list (P := Tryd.prog) w ⟨g, 0, none⟩ (l.map fun n : Nat => Value.int .u8 n) (fun j v hv => by
    have hadd : (⟨g, 0, none⟩ : Addr).add j = ⟨g, j, none⟩ := by unfold Addr.add; split <;> simp_all
    have hj : j < l.length := by
      have := (List.getElem?_eq_some_iff.1 hv).1
      simpa using this
    rw [hadd, hr.cell j hj, ← hv, List.getElem?_map, Sh.nth_getElem?, List.getElem?_eq_getElem hj]
    rfl)
  rw [List.length_map] at hload
  have hrun := run_convert_bytes_string (P := Tryd.prog) w 35 9 5 (some ⟨g, 0, none⟩) l.length c Tryd.underlying35 Tryd.underlying5 Tryd.underlying9
  have hm : (l.map fun n : Nat => Value.int .u8 n) = (l.map fun n : Nat => (n : Int)).map (Value.int .u8) := by simp
  rw [hm] at hload
  rw [run_bytesToString w _ _ _ _ hload, Sh.push_str] at hrun
  have hstr : (⟨ByteArray.empty.data ++ ((l.map fun n : Nat => (n : Int)).map fun n : Int => UInt8.ofNat n.toNat).toArray⟩ : ByteArray) = Sh.str l := by
    have he0 : ByteArray.empty.data = #[] := rfl
    rw [he0]
    simp [Sh.str, Function.comp_def]
  rw [hstr] at hrun
  exact hrun
theorem conv2 (W : World) (a b : Nat) : (convert 35 9 (.slice (some ⟨W.heap.size, 0, none⟩) 2 2)).run Tryd.prog (W.alloc (.cells #[.int .u8 (a : Int), .int .u8 (b : Int)] 5)).drew = .ok (.string (Sh.str [a, b])) (W.alloc (.cells #[.int .u8 (a : Int), .int .u8 (b : Int)] 5)).drew :=
  run_conv (Row.new W .u8 5 [a, b] _ rfl).drew rfl
theorem conv4 (W : World) (a b c d : Nat) : (convert 35 9 (.slice (some ⟨W.heap.size, 0, none⟩) 4 4)).run Tryd.prog (W.alloc (.cells #[.int .u8 (a : Int), .int .u8 (b : Int), .int .u8 (c : Int), .int .u8 (d : Int)] 5)).drew = .ok (.string (Sh.str [a, b, c, d])) (W.alloc (.cells #[.int .u8 (a : Int), .int .u8 (b : Int), .int .u8 (c : Int), .int .u8 (d : Int)] 5)).drew :=
  run_conv (Row.new W .u8 5 [a, b, c, d] _ rfl).drew rfl

set_option maxRecDepth 100000 in
set_option maxHeartbeats 400000 in
theorem rhex_any (s : ByteArray) (w : World) (hs : s.size ≤ 100000) :
    Calls Tryd.prog 12 #[.string s] w fun e w' => e = .returned (.string (hexS s)) ∧ Below w.heap.size w w' := by
  go_enter Tryd.func12, Tryd.ntmps12
  go_wp2_with fail
  go_loopw [3, 4] (fun v i wr => ∃ k : Nat, k ≤ s.size ∧ i = .int .i64 k ∧ v = .string (Sh.str (hexs (Sh.bl s) k)) ∧ Below w.heap.size w wr) (fun _ i _ => s.size - (intOf i).toNat)
  case atStart => exact ⟨0, by omega, rfl, rfl, Below.refl _ _⟩
  case round =>
    obtain ⟨k, hk, rfl, rfl, hb⟩ := hrel
    have hbs := hb.size
    by_cases hlt : k < s.size
    · have hz : s[k].toNat < 256 := s[k].toNat_lt
      have hz1 : (s[k].toNat : Int) / 16 < 16 := by omega
      have hz2 : (0 : Int) ≤ (s[k].toNat : Int) / 16 := by omega
      have hz3 : (s[k].toNat : Int) % 16 < 16 := by omega
      have hz4 : (0 : Int) ≤ (s[k].toNat : Int) % 16 := by omega
      have hadd : ∀ a b : Nat, (9223372036854775807 < (Sh.str (hexs (Sh.bl s) k)).size + (Sh.str [a, b]).size) = False := by
        intro a b; rw [Sh.str_size, Sh.str_size, hexs_len]; exact eq_false (by simp; omega)
      have hcv := conv2
      have q1 : IntKind.i64.wrap ((s[k].toNat : Int) / 16) = (s[k].toNat : Int) / 16 := IntWalk.i64_in _ (by omega)
      have q2 : IntKind.i64.wrap ((s[k].toNat : Int) % 16) = (s[k].toNat : Int) % 16 := IntWalk.i64_in _ (by omega)
      have HX : Hid (hexs (Sh.bl s) (k + 1) = hexs (Sh.bl s) k ++ [dig (s[k].toNat / 16), dig (s[k].toNat % 16)]) := by
        show _ = _; rw [hexs, Sh.nth_bl s k hlt]
      go_wp2_with fail
      go_region
      all_goals
        clear hcv hadd q1 q2
        go_wp2
        go_roundw
        case rel =>
          refine ⟨k + 1, by omega, by go_num, ?_, (hb.alloc hb.size _).drew⟩
          simp only [dig_at]
          rw [HX.out, ← str_snoc]
        case measure => simp [intOf]; omega
    · obtain rfl : k = s.size := by omega
      go_wp2_with fail
      go_ret
      exact ⟨rfl, hb⟩

/-- A key's first k bytes, filled up, xor x. -/
def tk (l : List Nat) (x : Nat) : Nat → List Nat
  | 0 => []
  | k + 1 => tk l x k ++ [Sh.nth (l ++ List.replicate (64 - l.length) 0) k ^^^ x]
theorem tk_len (l : List Nat) (x : Nat) : ∀ k, (tk l x k).length = k
  | 0 => rfl
  | k + 1 => by simp [tk, tk_len l x k]
theorem kx_tk (l : List Nat) (x : Nat) (h : l.length ≤ 64) : ∀ k, k ≤ 64 → kx l x k = tk l x k ++ (l ++ List.replicate (64 - l.length) 0).drop k
  | 0, _ => by simp [kx, tk]
  | k + 1, hk => by
    rw [kx, kx_tk l x h k (by omega), tk]
    have hl : (l ++ List.replicate (64 - l.length) 0).length = 64 := by simp; omega
    obtain ⟨y, ys, hy⟩ : ∃ y ys, (l ++ List.replicate (64 - l.length) 0).drop k = y :: ys := by
      cases hd : (l ++ List.replicate (64 - l.length) 0).drop k with
      | nil => have := congrArg List.length hd; simp only [List.length_drop, hl, List.length_nil] at this; omega
      | cons y ys => exact ⟨y, ys, rfl⟩
    have hy2 : (l ++ List.replicate (64 - l.length) 0).drop (k + 1) = ys := by rw [← List.tail_drop, hy]; rfl
    rw [hy, hy2, List.set_append, if_neg (by rw [tk_len]; omega), tk_len, Nat.sub_self, List.set_cons_zero]
    simp
theorem kx_64 (l : List Nat) (x : Nat) (h : l.length ≤ 64) : kx l x 64 = tk l x 64 := by
  rw [kx_tk l x h 64 (Nat.le_refl _)]
  have : (l ++ List.replicate (64 - l.length) 0).drop 64 = [] := List.drop_eq_nil_of_le (by simp; omega)
  rw [this, List.append_nil]
theorem key_get (s : ByteArray) (k : Nat) (h : k < s.size) : Sh.nth (Sh.bl s ++ List.replicate (64 - (Sh.bl s).length) 0) k = s[k].toNat := by
  rw [Sh.nth_append_left _ _ _ (by rw [Sh.bl_len]; exact h), Sh.nth_bl s k h]
theorem key_gap (s : ByteArray) (k : Nat) (h : s.size ≤ k) : Sh.nth (Sh.bl s ++ List.replicate (64 - (Sh.bl s).length) 0) k = 0 := by
  rw [Sh.nth_append_right _ _ _ (by rw [Sh.bl_len]; exact h), Sh.nth_replicate]
theorem byte_xor (a x : Nat) (ha : a < 256) (hx : x < 256) : bits .xor .i64 (a : Int) (x : Int) % 256 = ((a ^^^ x : Nat) : Int) := by
  rw [xor64 a x (by omega) (by omega)]
  have : a ^^^ x < 256 := Nat.xor_lt_two_pow (n := 8) ha hx
  omega
theorem conv1 (W : World) (a : Nat) : (convert 35 9 (.slice (some ⟨W.heap.size, 0, none⟩) 1 1)).run Tryd.prog (W.alloc (.cells #[.int .u8 (a : Int)] 5)) = .ok (.string (Sh.str [a])) (W.alloc (.cells #[.int .u8 (a : Int)] 5)) :=
  run_conv (Row.new W .u8 5 [a] _ rfl) rfl

set_option maxRecDepth 100000 in
set_option maxHeartbeats 400000 in
theorem rturned_any (s : ByteArray) (x : Nat) (w : World) (hs : s.size ≤ 64) (hx : x < 256) :
    Calls Tryd.prog 22 #[.string s, .int .i64 (x : Int)] w fun e w' => e = .returned (.string (keyS s x)) ∧ Below w.heap.size w w' := by
  have HE : Hid (keyS s x = Sh.str (tk (Sh.bl s) x 64)) := by show _ = _; rw [keyS, kx_64 _ _ (by rw [Sh.bl_len]; exact hs)]
  go_enter Tryd.func22, Tryd.ntmps22
  go_wp2_with fail
  go_loopw [5, 6] (fun v i wr => ∃ k : Nat, k ≤ 64 ∧ i = .int .i64 k ∧ v = .string (Sh.str (tk (Sh.bl s) x k)) ∧ Below w.heap.size w wr) (fun _ i _ => 64 - (intOf i).toNat)
  case atStart => exact ⟨0, by omega, rfl, rfl, Below.refl _ _⟩
  case round =>
    obtain ⟨k, hk, rfl, rfl, hb⟩ := hrel
    have hbs := hb.size
    have hadd : ∀ a : Nat, (9223372036854775807 < (Sh.str (tk (Sh.bl s) x k)).size + (Sh.str [a]).size) = False := by
      intro a; rw [Sh.str_size, Sh.str_size, tk_len]; exact eq_false (by simp; omega)
    by_cases hlt : k < 64
    · have hcv := conv1
      by_cases hin : k < s.size
      · have hz : s[k].toNat < 256 := s[k].toNat_lt
        have e1 := byte_xor s[k].toNat x hz hx
        have HX : Hid (tk (Sh.bl s) x (k + 1) = tk (Sh.bl s) x k ++ [s[k].toNat ^^^ x]) := by show _ = _; rw [tk, key_get s k hin]
        go_wp2_with fail
        go_roundw
        case rel =>
          refine ⟨k + 1, by omega, by go_num, ?_, hb.alloc hb.size _⟩
          rw [HX.out, ← str_snoc]
        case measure => simp [intOf]; omega
      · have e1 : bits .xor .i64 0 (x : Int) % 256 = (x : Int) := by
          have := byte_xor 0 x (by omega) hx
          rw [Nat.zero_xor] at this
          exact this
        have HX : Hid (tk (Sh.bl s) x (k + 1) = tk (Sh.bl s) x k ++ [x]) := by show _ = _; rw [tk, key_gap s k (by omega), Nat.zero_xor]
        go_wp2_with fail
        go_roundw
        case rel =>
          refine ⟨k + 1, by omega, by go_num, ?_, hb.alloc hb.size _⟩
          rw [HX.out, ← str_snoc]
        case measure => simp [intOf]; omega
    · obtain rfl : k = 64 := by omega
      go_wp2_with fail
      go_ret
      rw [HE.out]
      exact ⟨rfl, hb⟩

end Go.Proofs.YtalknjokamfggaaDoor
