/- The reference's Of, walked. -/
import Derived.Test.YtalknjokamfggaaDoorR7
namespace Go.Proofs.YtalknjokamfggaaDoor
open Go.RowKit

theorem bo_four (h : List Nat) (j : Nat) : bo h (4 * (j + 1)) = bo h (4 * j) ++ [Sh.nth h j / 16777216 % 256, Sh.nth h j / 65536 % 256, Sh.nth h j / 256 % 256, Sh.nth h j % 256] := by
  rw [show 4 * (j + 1) = 4 * j + 1 + 1 + 1 + 1 from by omega, bo, bo, bo, bo]
  rw [show (4 * j + 1 + 1 + 1) / 4 = j from by omega, show (4 * j + 1 + 1) / 4 = j from by omega, show (4 * j + 1) / 4 = j from by omega, show 4 * j / 4 = j from by omega]
  rw [show 24 - (4 * j + 1 + 1 + 1) % 4 * 8 = 0 from by omega, show 24 - (4 * j + 1 + 1) % 4 * 8 = 8 from by omega, show 24 - (4 * j + 1) % 4 * 8 = 16 from by omega, show 24 - 4 * j % 4 * 8 = 24 from by omega]
  simp
/-- The four bytes of a word, number by number. -/
structure Four (x y0 y1 y2 y3 : Nat) : Prop where
  e0 : x / 16777216 % 256 = y0
  e1 : x / 65536 % 256 = y1
  e2 : x / 256 % 256 = y2
  e3 : x % 256 = y3
  q0 : IntKind.i64.wrap ((x : Int) / 16777216) = (y0 : Int)
  b0 : y0 < 256
  q1 : IntKind.i64.wrap ((x : Int) / 65536) = (x : Int) / 65536
  q2 : IntKind.i64.wrap ((x : Int) / 256) = (x : Int) / 256
  r0 : (x : Int) / 16777216 % 256 = (y0 : Int)
  r1 : (x : Int) / 65536 % 256 = (y1 : Int)
  r2 : (x : Int) / 256 % 256 = (y2 : Int)
  r3 : (x : Int) % 256 = (y3 : Int)
  s0 : IntKind.i64.wrap (y0 : Int) = (y0 : Int)
  s1 : IntKind.i64.wrap (y1 : Int) = (y1 : Int)
  s2 : IntKind.i64.wrap (y2 : Int) = (y2 : Int)
  s3 : IntKind.i64.wrap (y3 : Int) = (y3 : Int)
theorem four_of (x : Nat) (h : x < 4294967296) : Four x (x / 16777216 % 256) (x / 65536 % 256) (x / 256 % 256) (x % 256) where
  e0 := rfl
  e1 := rfl
  e2 := rfl
  e3 := rfl
  q0 := (IntWalk.i64_in _ (by omega)).trans (by omega)
  b0 := by omega
  q1 := IntWalk.i64_in _ (by omega)
  q2 := IntWalk.i64_in _ (by omega)
  r0 := by omega
  r1 := by omega
  r2 := by omega
  r3 := by omega
  s0 := IntWalk.i64_in _ (by omega)
  s1 := IntWalk.i64_in _ (by omega)
  s2 := IntWalk.i64_in _ (by omega)
  s3 := IntWalk.i64_in _ (by omega)

set_option maxRecDepth 100000 in
set_option maxHeartbeats 1000000 in
theorem rof_any (s : ByteArray) (w : World) (hs : s.size ≤ 100000) :
    Calls Tryd.prog 10 #[.string s] w fun e w' => e = .returned (.string (ofS s)) ∧ Below w.heap.size w w' := by
  have hlen : (Sh.bl s ++ pad s.size 8).length = s.size + (zs s.size + 9) := by rw [List.length_append, Sh.bl_len, pad_len _ _ (Nat.le_refl _)]
  have hz : zs s.size < 64 := Nat.mod_lt _ (by decide)
  have hdiv := pad_full s.size
  obtain ⟨m, hm⟩ : ∃ m, s.size + (zs s.size + 9) = 64 * m := ⟨(s.size + (zs s.size + 9)) / 64, by omega⟩
  have HO : Hid (ofS s = Sh.str (bo (Sh.mixs Sh.H0 (Sh.bl s ++ pad s.size 8) m) 32)) := by
    show _ = _
    rw [ofS, ofL_all, hm, Nat.mul_div_cancel_left _ (by decide)]
  have HB := Lib.hid (bytes_append (Sh.bl_bytes s) (pad_bytes s.size))
  have hmb : m ≤ 2000 := by omega
  rw [hm] at hlen
  obtain ⟨L, hL⟩ : ∃ L, Hid (Sh.bl s ++ pad s.size 8 = L) := ⟨_, rfl⟩
  have HLen := Lib.hid hlen
  rw [hL.out] at HO HB HLen
  clear hlen hdiv hm hz
  go_enter Tryd.func10, Tryd.ntmps10
  go_wp2_with fail
  refine (rpadded_any s _ hs).mono ?_
  rintro e w1 ⟨v4, rfl, own4, b1⟩
  rw [hL.out] at own4
  have own3 : Own w.heap.size w1 (.slice (some ⟨w.heap.size, 0, none⟩) 8 8) Sh.H0 := (Own.lit (l := Sh.H0) (heap_alloc_new w _) (Nat.le_refl _) (by show 8 ≤ maxLen; unfold maxLen; omega)).after b1
  have hB1 : Below w.heap.size w w1 := ((Below.refl _ _).alloc (Nat.le_refl _) _).trans (b1.mono (by simp))
  clear b1
  have hB1s := hB1.size
  by_cases hm0 : m = 0
  · exfalso
    have h1 := HLen.out
    rw [← hL.out, List.length_append, pad_len _ _ (Nat.le_refl _), hm0] at h1
    omega
  obtain ⟨g4, c4, hv4, _, g4l, hc4, cell4⟩ := own4.form (by rw [HLen.out]; omega)
  rw [HLen.out] at hv4 hc4 cell4
  subst hv4
  have C4 := Lib.hid cell4
  clear cell4 own4
  go_wp2_with fail
  go_loopw [3, 5] (fun v i wr => ∃ k : Nat, k ≤ m ∧ i = .int .i64 (64 * (k : Int)) ∧ Own w.heap.size wr v (Sh.mixs Sh.H0 L k) ∧ Below w1.heap.size w1 wr) (fun _ i _ => 64 * m - (intOf i).toNat)
  case atStart => exact ⟨0, by omega, rfl, own3, Below.refl _ _⟩
  case round =>
    clear own3
    obtain ⟨k, hk, rfl, hown, hb⟩ := hrel
    have hbs := hb.size
    have hvl := Sh.mixs_len Sh.H0 L rfl k
    obtain ⟨g, cap, hv, hgB, hgl, _, hcell⟩ := hown.form (by rw [hvl]; omega)
    rw [hvl] at hv hcell
    subst hv
    by_cases hlt : k < m
    · have HVL := Lib.hid hvl
      have HVW := Lib.hid (Sh.mixs_words Sh.H0 L rfl Sh.H0_words k)
      have HCV := Lib.hid hcell
      have HS : Hid (Sh.mixs Sh.H0 L (k + 1) = Sh.mixP (Sh.mixs Sh.H0 L k) (L.drop (64 * k))) := rfl
      have HCB : Hid (∀ i, i < 64 → wr.cell? ⟨g4, 64 * k + i, none⟩ = some (.int .i64 (Sh.nth (L.drop (64 * k)) i))) := fun i hi => by
        rw [Sh.nth_drop]; exact (hb.cell (p := ⟨g4, 64 * k + i, none⟩) g4l).trans (C4.out (64 * k + i) (by omega))
      clear hvl hcell
      go_wp2_with fail
      refine (rblock_any g cap g4 (64 * k) (c4 - 64 * k) (Sh.mixs Sh.H0 L k) (L.drop (64 * k)) _ HVL.out HVW.out hgl HCV.out (by omega) HCB.out (bytes_drop HB.out _)).mono ?_
      rintro e w2 ⟨v', rfl, own', b2⟩
      rw [← HS.out] at own'
      clear HCB HCV HVL HVW HS hown
      go_wp2_with fail
      go_roundw
      case rel => exact ⟨k + 1, by omega, by go_num, own'.weaken (by omega), hb.trans (b2.mono hbs)⟩
      case measure => simp [intOf]; omega
    · obtain rfl : k = m := by omega
      obtain ⟨wL, hwL⟩ : ∃ wL, wL = wr := ⟨_, rfl⟩
      subst hwL
      have HVW := Lib.hid (Sh.mixs_words Sh.H0 L rfl Sh.H0_words k)
      have HCV := Lib.hid hcell
      have hBL : Below w.heap.size w wL := rmore hB1 hb
      generalize Sh.mixs Sh.H0 L k = h8 at hown HVW HCV HO
      clear hvl hcell hown hb C4 hB1
      go_wp2_with fail
      go_loopw [6, 7] (fun v i wx => ∃ j : Nat, j ≤ 8 ∧ i = .int .i64 j ∧ v = .string (Sh.str (bo h8 (4 * j))) ∧ Below wL.heap.size wL wx) (fun _ i _ => 8 - (intOf i).toNat)
      case atStart => exact ⟨0, by omega, rfl, rfl, Below.refl _ _⟩
      case round =>
        obtain ⟨j, hj, rfl, rfl, hb⟩ := hrel
        have hbs2 := hb.size
        by_cases hlt : j < 8
        · have c0 := (hb.cell (p := ⟨g, j, none⟩) hgl).trans (HCV.out j hlt)
          have xb := HVW.out j
          have HS := Lib.hid (bo_four h8 j)
          generalize Sh.nth h8 j = x at c0 xb HS
          obtain ⟨y0, y1, y2, y3, hy⟩ : ∃ y0 y1 y2 y3, Four x y0 y1 y2 y3 := ⟨_, _, _, _, four_of x xb⟩
          have HE := Lib.hid (HS.out.trans (by rw [hy.e0, hy.e1, hy.e2, hy.e3]))
          clear HS
          have q0 := hy.q0
          have b0 := hy.b0
          have q1 := hy.q1
          have q2 := hy.q2
          have r0 := hy.r0
          have r1 := hy.r1
          have r2 := hy.r2
          have r3 := hy.r3
          have s0 := hy.s0
          have s1 := hy.s1
          have s2 := hy.s2
          have s3 := hy.s3
          have hcv := conv4
          have hadd : ∀ a b c d : Nat, (9223372036854775807 < (Sh.str (bo h8 (4 * j))).size + (Sh.str [a, b, c, d]).size) = False := by
            intro a b c d; rw [Sh.str_size, Sh.str_size, bo_len]; exact eq_false (by simp; omega)
          have d0 : (j : Int) < 8 := by omega
          go_wp2_with fail
          go_region
          all_goals
            clear q0 q1 q2 r0 r1 r2 r3 s0 s1 s2 s3 hcv hadd d0
            go_wp2
            go_roundw
            case rel =>
              refine ⟨j + 1, by omega, by go_num, ?_, (hb.alloc hb.size _).drew⟩
              rw [HE.out, ← str_snoc]
            case measure => simp [intOf]; omega
        · obtain rfl : j = 8 := by omega
          go_wp2_with fail
          go_ret
          rw [HO.out]
          exact ⟨rfl, hBL.trans (hb.mono hBL.size)⟩

end Go.Proofs.YtalknjokamfggaaDoor
