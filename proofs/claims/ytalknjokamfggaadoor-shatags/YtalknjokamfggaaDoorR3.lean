/- The reference's padded and k. -/
import Derived.Test.YtalknjokamfggaaDoorR2
import Derived.Test.YtalknjokamfggaaDoorW7
namespace Go.Proofs.YtalknjokamfggaaDoor
open Go.RowKit

def lenOf : Value → Nat
  | .slice _ n _ => n
  | _ => 0

theorem rshr_int (x n : Int) (w : World) (hx0 : 0 ≤ x) (hx : x < 9223372036854775808) (hn0 : 0 ≤ n) (hn : n ≤ 64) :
    Calls Tryd.prog 24 #[.int .i64 x, .int .i64 n] w fun e w' => e = .returned (.int .i64 ((x.toNat / 2 ^ n.toNat : Nat) : Int)) ∧ w = w' := by
  obtain ⟨x, rfl⟩ := Int.eq_ofNat_of_zero_le hx0
  obtain ⟨n, rfl⟩ := Int.eq_ofNat_of_zero_le hn0
  exact rshr_any x n w (by omega) (by omega)

theorem take_bl (s : ByteArray) (k : Nat) (h : k < s.size) : (Sh.bl s).take (k + 1) = (Sh.bl s).take k ++ [s[k].toNat] := by
  rw [List.take_succ_eq_append_getElem (by rw [Sh.bl_len]; exact h)]
  simp [Sh.bl]
  rfl

set_option maxRecDepth 100000 in
set_option maxHeartbeats 1000000 in
theorem rpadded_any (s : ByteArray) (w : World) (hs : s.size ≤ 100000) :
    Calls Tryd.prog 19 #[.string s] w fun e w' => ∃ v, e = .returned v ∧ Own w.heap.size w' v (Sh.bl s ++ pad s.size 8) ∧ Below w.heap.size w w' := by
  go_enter Tryd.func19, Tryd.ntmps19
  go_wp2_with fail
  go_loopw [3, 4] (fun v i wr => ∃ k : Nat, k ≤ s.size ∧ i = .int .i64 k ∧ Own w.heap.size wr v ((Sh.bl s).take k) ∧ Below w.heap.size w wr) (fun _ i _ => s.size - (intOf i).toNat)
  case atStart => exact ⟨0, by omega, rfl, Own.nil _ _, Below.refl _ _⟩
  case round =>
    obtain ⟨k, hk, rfl, hown, hb⟩ := hrel
    have hbs := hb.size
    by_cases hlt : k < s.size
    · have HT := Lib.hid (take_bl s k hlt)
      have hl : ((Sh.bl s).take k).length ≤ 1000000 := by rw [List.length_take]; omega
      have HL := Lib.hid hl
      clear hl
      have hz : s[k].toNat < 256 := s[k].toNat_lt
      go_wp2_with (at_builtin; refine app_law rfl (.tmp 12) (.tmp 17) rfl w.heap.size _ _ s[k].toNat rfl (hown.alloc _) wr.heap.size 1 rfl (by simp [World.cell?_alloc_new]) HL.out (by simp; omega) ?_; intro v' w1 hown' hb')
      go_roundw
      case rel => exact ⟨k + 1, by omega, by go_num, by rw [HT.out]; exact hown', (hb.alloc hb.size _).trans hb'⟩
      case measure => simp [intOf]; omega
    · obtain rfl : k = s.size := by omega
      have hown0 : Own w.heap.size wr u3 (Sh.bl s) := by rw [List.take_of_length_le (by rw [Sh.bl_len]; exact Nat.le_refl _)] at hown; exact hown
      clear hown hlt hk
      have HL : Hid ((Sh.bl s).length ≤ 1000000) := by show _ ≤ _; rw [Sh.bl_len]; omega
      go_wp2_with (at_builtin; refine app_law rfl (.tmp 19) (.tmp 20) rfl w.heap.size _ _ 128 rfl (hown0.alloc _) wr.heap.size 1 rfl (by simp [World.cell?_alloc_new]) HL.out (by simp; omega) ?_; intro v1 w1 hown1 hb1)
      replace hb1 := (hb.alloc hb.size _).trans hb1
      clear hown0 hb HL hbs
      have hz : zs s.size < 64 := Nat.mod_lt _ (by decide)
      have HZ : Hid (zs s.size = (119 - s.size % 64) % 64) := rfl
      go_loopw [3] (fun v wr => ∃ z : Nat, z ≤ zs s.size ∧ Own w.heap.size wr v ((Sh.bl s ++ [128]) ++ List.replicate z 0) ∧ Below w.heap.size w wr) (fun v _ => s.size + 1 + zs s.size - lenOf v)
      case atStart => exact ⟨0, by omega, by simpa using hown1, hb1⟩
      case round =>
        clear hown1 hb1
        obtain ⟨z, hzz, hown, hb⟩ := hrel
        have hlen : ((Sh.bl s ++ [128]) ++ List.replicate z 0).length = s.size + 1 + z := by simp [Sh.bl_len]; omega
        obtain ⟨g, cap, hv, _, _, _, _⟩ := hown.form (by rw [hlen]; omega)
        rw [hlen] at hv
        have HL : Hid (((Sh.bl s ++ [128]) ++ List.replicate z 0).length ≤ 1000000) := by show _ ≤ _; rw [hlen]; omega
        obtain ⟨m, hm⟩ : ∃ m, s.size + 1 + z = m := ⟨_, rfl⟩
        rw [hm] at hv
        clear hlen
        subst hv
        have hbs := hb.size
        by_cases hlt : z < zs s.size
        · have hd : ((m : Int) % 64 != 56) = true := by rw [bne_iff_ne]; have := HZ.out; omega
          have HM := Lib.hid hm
          clear hm
          go_wp2_with (at_builtin; refine app_law rfl (.tmp 26) (.tmp 27) rfl w.heap.size _ _ 0 rfl (hown.alloc _) wr.heap.size 1 rfl (by simp [World.cell?_alloc_new]) HL.out (by simp; omega) ?_; intro v' w2 hown' hb')
          go_roundw
          case rel =>
            refine ⟨z + 1, by omega, ?_, (hb.alloc hb.size _).trans hb'⟩
            rw [List.append_assoc, ← List.replicate_succ'] at hown'
            exact hown'
          case measure =>
            have hl' : ((Sh.bl s ++ [128]) ++ List.replicate z 0 ++ [0]).length = m + 1 := by rw [← HM.out]; simp [Sh.bl_len]; omega
            obtain ⟨g', cap', hv', _⟩ := hown'.form (by rw [hl']; omega)
            rw [hv', hl']
            have := HM.out
            simp [lenOf]; omega
        · obtain rfl : z = zs s.size := by omega
          have hd : ((m : Int) % 64 != 56) = false := by rw [bne_eq_false_iff_eq]; have := HZ.out; omega
          have HM := Lib.hid hm
          clear hm hlt hzz
          go_wp2_with fail
          clear hd HM HL
          go_loopw [3, 5] (fun v i wr => ∃ j : Nat, j ≤ 8 ∧ i = .int .i64 (7 - (j : Int)) ∧ Own w.heap.size wr v ((Sh.bl s ++ [128] ++ List.replicate (zs s.size) 0) ++ lb s.size j) ∧ Below w.heap.size w wr) (fun _ i _ => (intOf i + 1).toNat)
          case atStart => exact ⟨0, by omega, rfl, by simpa [lb] using hown, hb⟩
          case round =>
            clear hown hb hbs
            obtain ⟨j, hj, rfl, hown, hb⟩ := hrel
            have hbs := hb.size
            by_cases hlt : j < 8
            · have HL : Hid (((Sh.bl s ++ [128] ++ List.replicate (zs s.size) 0) ++ lb s.size j).length ≤ 1000000) := by show _ ≤ _; simp [Sh.bl_len, lb_len]; omega
              have HV : Hid ((8 * (s.size : Int)).toNat / 2 ^ (8 * (7 - (j : Int))).toNat = 8 * s.size / 2 ^ (56 - 8 * j)) := by
                show _ = _
                rw [show (8 * (s.size : Int)).toNat = 8 * s.size from by omega, show (8 * (7 - (j : Int))).toNat = 56 - 8 * j from by omega]
              obtain ⟨q, hq⟩ : ∃ q, Hid (8 * s.size / 2 ^ (56 - 8 * j) = q) := ⟨_, rfl⟩
              have hqb : q ≤ 800000 := by rw [← hq.out]; exact Nat.le_trans (Nat.div_le_self _ _) (by omega)
              have HP : Hid (lb s.size (j + 1) = lb s.size j ++ [q % 256]) := by show _ = _; rw [← hq.out]; rfl
              go_wp2_with (first | (go_at_call 24; refine (rshr_int _ _ _ (by omega) (by omega) (by omega) (by omega)).mono ?_; rintro e w' ⟨rfl, rfl⟩; rw [HV.out, hq.out]) | (at_builtin; refine app_law rfl (.tmp 33) (.tmp 41) rfl w.heap.size _ _ (q % 256) rfl (hown.alloc _) wr.heap.size 1 rfl (by simp [World.cell?_alloc_new]) HL.out (by simp; omega) ?_; intro v' w2 hown' hb'))
              go_roundw
              case rel =>
                refine ⟨j + 1, by omega, by go_num, ?_, (hb.alloc hb.size _).trans hb'⟩
                rw [HP.out, ← List.append_assoc]
                exact hown'
              case measure => simp [intOf]; omega
            · obtain rfl : j = 8 := by omega
              go_wp2_with fail
              go_ret
              refine ⟨_, rfl, ?_, hb⟩
              have e : Sh.bl s ++ pad s.size 8 = (Sh.bl s ++ [128] ++ List.replicate (zs s.size) 0) ++ lb s.size 8 := by simp [pad]
              rw [e]
              exact hown

end Go.Proofs.YtalknjokamfggaaDoor
