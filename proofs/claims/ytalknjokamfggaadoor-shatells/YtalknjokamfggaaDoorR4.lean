/- The reference's k and schedule. -/
import Derived.Test.YtalknjokamfggaaDoorR3
namespace Go.Proofs.YtalknjokamfggaaDoor
open Go.RowKit

set_option maxRecDepth 100000 in
set_option maxHeartbeats 1000000 in
theorem rk_any (w : World) : Calls Tryd.prog 26 #[] w fun e w' => ∃ v, e = .returned v ∧ Own w.heap.size w' v Sh.KK ∧ Below w.heap.size w w' := by
  go_enter Tryd.func26, Tryd.ntmps26
  go_wp2
  go_ret
  refine ⟨_, rfl, ?_, (Below.refl _ _).alloc (Nat.le_refl _) _⟩
  exact Own.lit (heap_alloc_new w _) (Nat.le_refl _) (by unfold maxLen; decide)

/-- A word as a sum. -/
theorem or_add (a b m : Nat) (hb : b < 2 ^ m) : a * 2 ^ m ||| b = a * 2 ^ m + b := by
  rw [Nat.mul_comm]; exact (Nat.two_pow_add_eq_or_of_lt hb a).symm
theorem word_sum (l : List Nat) (i : Nat) (h : Sh.Bytes l) : Sh.word l i = Sh.nth l i * 16777216 + Sh.nth l (i + 1) * 65536 + Sh.nth l (i + 2) * 256 + Sh.nth l (i + 3) := by
  have h1 := h (i + 1); have h2 := h (i + 2); have h3 := h (i + 3)
  unfold Sh.word
  have e1 := or_add (Sh.nth l i) (Sh.nth l (i + 1) * 65536) 24 (by omega)
  rw [show (2 : Nat) ^ 24 = 16777216 from rfl] at e1
  rw [e1]
  have e2 := or_add (Sh.nth l i * 256 + Sh.nth l (i + 1)) (Sh.nth l (i + 2) * 256) 16 (by omega)
  rw [show (2 : Nat) ^ 16 = 65536 from rfl, show (Sh.nth l i * 256 + Sh.nth l (i + 1)) * 65536 = Sh.nth l i * 16777216 + Sh.nth l (i + 1) * 65536 from by omega] at e2
  rw [e2]
  have e3 := or_add (Sh.nth l i * 65536 + Sh.nth l (i + 1) * 256 + Sh.nth l (i + 2)) (Sh.nth l (i + 3)) 8 (by omega)
  rw [show (2 : Nat) ^ 8 = 256 from rfl, show (Sh.nth l i * 65536 + Sh.nth l (i + 1) * 256 + Sh.nth l (i + 2)) * 256 = Sh.nth l i * 16777216 + Sh.nth l (i + 1) * 65536 + Sh.nth l (i + 2) * 256 from by omega] at e3
  rw [e3]

theorem sum4 {x0 x1 x2 x3 y0 y1 y2 s1 s2 s3 : Nat} (h0 : x0 * 16777216 = y0) (h1 : x1 * 65536 = y1) (h2 : x2 * 256 = y2) (h3 : y0 + y1 = s1) (h4 : s1 + y2 = s2) (h5 : s2 + x3 = s3) :
    x0 * 16777216 + x1 * 65536 + x2 * 256 + x3 = s3 := by rw [h0, h1, h2, h3, h4, h5]
theorem rrot_int (x : Nat) (a : Int) (w : World) (hx2 : x < 4294967296) (hk : 0 ≤ a) (hk2 : a ≤ 32) :
    Calls Tryd.prog 27 #[.int .i64 (x : Int), .int .i64 a] w fun e w' => e = .returned (.int .i64 (Sh.rotr x a.toNat : Nat)) ∧ w = w' := by
  obtain ⟨k, rfl⟩ := Int.eq_ofNat_of_zero_le hk
  exact rrot_any x k w hx2 (by omega)
theorem sg0_64 (y : Nat) (h : y < 4294967296) : bits .xor .i64 (bits .xor .i64 (Sh.rotr y 7 : Nat) (Sh.rotr y 18 : Nat)) ((y : Int) / 8) = ((Sh.sg0 y : Nat) : Int) :=
  xor3_64 _ _ (y / 8) (Sh.rotr_lt _ _ h) (Sh.rotr_lt _ _ h) (by omega)
theorem sg1_64 (y : Nat) (h : y < 4294967296) : bits .xor .i64 (bits .xor .i64 (Sh.rotr y 17 : Nat) (Sh.rotr y 19 : Nat)) ((y : Int) / 1024) = ((Sh.sg1 y : Nat) : Int) :=
  xor3_64 _ _ (y / 1024) (Sh.rotr_lt _ _ h) (Sh.rotr_lt _ _ h) (by omega)

set_option maxRecDepth 100000 in
set_option maxHeartbeats 1000000 in
theorem rsched_any (gb ob cb : Nat) (l : List Nat) (w : World) (hg : gb < w.heap.size) (hc : ∀ i, i < 64 → w.cell? ⟨gb, ob + i, none⟩ = some (.int .i64 (Sh.nth l i))) (hl : Sh.Bytes l) :
    Calls Tryd.prog 25 #[.slice (some ⟨gb, ob, none⟩) 64 cb] w fun e w' => ∃ v, e = .returned v ∧ Own w.heap.size w' v (Sh.sched l 48) ∧ Below w.heap.size w w' := by
  have HC := Lib.hid hc
  clear hc
  go_enter Tryd.func25, Tryd.ntmps25
  go_wp2_with fail
  go_loopw [3, 4] (fun v i wr => ∃ k : Nat, k ≤ 16 ∧ i = .int .i64 k ∧ Own w.heap.size wr v (Sh.sched0 l k) ∧ Below w.heap.size w wr) (fun _ i _ => 16 - (intOf i).toNat)
  case atStart => exact ⟨0, by omega, rfl, Own.nil _ _, Below.refl _ _⟩
  case round =>
    obtain ⟨k, hk, rfl, hown, hb⟩ := hrel
    have hbs := hb.size
    by_cases hlt : k < 16
    · have HW : Hid (Sh.sched0 l (k + 1) = Sh.sched0 l k ++ [Sh.nth l (4 * k) * 16777216 + Sh.nth l (4 * k + 1) * 65536 + Sh.nth l (4 * k + 2) * 256 + Sh.nth l (4 * k + 3)]) := by
        show _ = _; rw [Sh.sched0, word_sum l _ hl]
      have HL : Hid ((Sh.sched0 l k).length ≤ 1000000) := by show _ ≤ _; rw [Sh.sched0_len]; omega
      have c0 := (hb.cell (p := ⟨gb, ob + (4 * k), none⟩) hg).trans (HC.out (4 * k) (by omega))
      have c1 := (hb.cell (p := ⟨gb, ob + (4 * k + 1), none⟩) hg).trans (HC.out (4 * k + 1) (by omega))
      have c2 := (hb.cell (p := ⟨gb, ob + (4 * k + 2), none⟩) hg).trans (HC.out (4 * k + 2) (by omega))
      have c3 := (hb.cell (p := ⟨gb, ob + (4 * k + 3), none⟩) hg).trans (HC.out (4 * k + 3) (by omega))
      have x0b := hl (4 * k)
      have x1b := hl (4 * k + 1)
      have x2b := hl (4 * k + 2)
      have x3b := hl (4 * k + 3)
      generalize Sh.nth l (4 * k) = x0 at c0 x0b HW
      generalize Sh.nth l (4 * k + 1) = x1 at c1 x1b HW
      generalize Sh.nth l (4 * k + 2) = x2 at c2 x2b HW
      generalize Sh.nth l (4 * k + 3) = x3 at c3 x3b HW
      obtain ⟨y0, hy0⟩ : ∃ y, x0 * 16777216 = y := ⟨_, rfl⟩
      obtain ⟨y1, hy1⟩ : ∃ y, x1 * 65536 = y := ⟨_, rfl⟩
      obtain ⟨y2, hy2⟩ : ∃ y, x2 * 256 = y := ⟨_, rfl⟩
      obtain ⟨s1, hs1⟩ : ∃ y, y0 + y1 = y := ⟨_, rfl⟩
      obtain ⟨s2, hs2⟩ : ∃ y, s1 + y2 = y := ⟨_, rfl⟩
      obtain ⟨s3, hs3⟩ : ∃ y, s2 + x3 = y := ⟨_, rfl⟩
      have p0 : IntKind.i64.wrap ((x0 : Int) * 16777216) = (y0 : Int) := (IntWalk.i64_in _ (by omega)).trans (by omega)
      have p1 : IntKind.i64.wrap ((x1 : Int) * 65536) = (y1 : Int) := (IntWalk.i64_in _ (by omega)).trans (by omega)
      have p2 : IntKind.i64.wrap ((x2 : Int) * 256) = (y2 : Int) := (IntWalk.i64_in _ (by omega)).trans (by omega)
      have q1 : IntKind.i64.wrap ((y0 : Int) + y1) = (s1 : Int) := (IntWalk.i64_in _ (by omega)).trans (by omega)
      have q2 : IntKind.i64.wrap ((s1 : Int) + y2) = (s2 : Int) := (IntWalk.i64_in _ (by omega)).trans (by omega)
      have q3 : IntKind.i64.wrap ((s2 : Int) + x3) = (s3 : Int) := (IntWalk.i64_in _ (by omega)).trans (by omega)
      have HS : Hid (Sh.sched0 l (k + 1) = Sh.sched0 l k ++ [s3]) := by show _ = _; rw [HW.out, sum4 hy0 hy1 hy2 hs1 hs2 hs3]
      clear hy0 hy1 hy2 hs1 hs2 hs3 HW
      have a0 : IntKind.i64.wrap (4 * (k : Int)) = 4 * (k : Int) := IntWalk.i64_in _ (by omega)
      have a1 : IntKind.i64.wrap (4 * (k : Int) + 1) = 4 * (k : Int) + 1 := IntWalk.i64_in _ (by omega)
      have a2 : IntKind.i64.wrap (4 * (k : Int) + 2) = 4 * (k : Int) + 2 := IntWalk.i64_in _ (by omega)
      have a3 : IntKind.i64.wrap (4 * (k : Int) + 3) = 4 * (k : Int) + 3 := IntWalk.i64_in _ (by omega)
      have b0 : 0 ≤ 4 * (k : Int) := by omega
      have b1 : 0 ≤ 4 * (k : Int) + 1 := by omega
      have b2 : 0 ≤ 4 * (k : Int) + 2 := by omega
      have b3 : 0 ≤ 4 * (k : Int) + 3 := by omega
      have d0 : 4 * (k : Int) < 64 := by omega
      have d1 : 4 * (k : Int) + 1 < 64 := by omega
      have d2 : 4 * (k : Int) + 2 < 64 := by omega
      have d3 : 4 * (k : Int) + 3 < 64 := by omega
      have t0 : (4 * (k : Int)).toNat = 4 * k := by omega
      have t1 : (4 * (k : Int) + 1).toNat = 4 * k + 1 := by omega
      have t2 : (4 * (k : Int) + 2).toNat = 4 * k + 2 := by omega
      have t3 : (4 * (k : Int) + 3).toNat = 4 * k + 3 := by omega
      have ne : ¬ gb = wr.heap.size := by omega
      go_wp2_with fail
      go_region_held3 (fun w' => w'.cell? ⟨gb, ob + (4 * k), none⟩ = some (.int .i64 x0) ∧ w'.cell? ⟨gb, ob + (4 * k + 1), none⟩ = some (.int .i64 x1) ∧ w'.cell? ⟨gb, ob + (4 * k + 2), none⟩ = some (.int .i64 x2) ∧ w'.cell? ⟨gb, ob + (4 * k + 3), none⟩ = some (.int .i64 x3))
        (first | go_keep | exact ⟨(hb'.cell (p := ⟨gb, ob + (4 * k), none⟩) hg).trans (by simp [*]), (hb'.cell (p := ⟨gb, ob + (4 * k + 1), none⟩) hg).trans (by simp [*]), (hb'.cell (p := ⟨gb, ob + (4 * k + 2), none⟩) hg).trans (by simp [*]), (hb'.cell (p := ⟨gb, ob + (4 * k + 3), none⟩) hg).trans (by simp [*])⟩)
        ((refine app_step rfl (.tmp 14) (.tmp 44) rfl w.heap.size _ _ s3 rfl ((hown.alloc _).drew) wr.heap.size 1 rfl (by simp [World.cell?_alloc_new]) HL.out (by simp; omega) ?_; intro v' w1 hown' hb'))
      go_wp2
      go_roundw
      case rel => exact ⟨k + 1, by omega, by go_num, by rw [HS.out]; exact hown', (hb.alloc hb.size _).drew.trans hb'⟩
      case measure => simp [intOf]; omega
    · obtain rfl : k = 16 := by omega
      clear hlt hk
      go_wp2_with fail
      rw [show ((16 : Nat) : Int) = 16 from rfl]
      go_loopw [3, 5] (fun v i wr => ∃ k : Nat, k ≤ 48 ∧ i = .int .i64 (16 + (k : Int)) ∧ Own w.heap.size wr v (Sh.sched l k) ∧ Below w.heap.size w wr) (fun _ i _ => 64 - (intOf i).toNat)
      case atStart => exact ⟨0, by omega, rfl, hown, hb⟩
      case round =>
        clear hown hb hbs
        obtain ⟨k, hk, rfl, hown, hb⟩ := hrel
        have hbs := hb.size
        by_cases hlt : k < 48
        · have hlen := Sh.sched_len l k
          obtain ⟨g, cap, hv, hgB, hgl, _, hcell⟩ := hown.form (by rw [hlen]; omega)
          rw [hlen] at hv hcell
          have c0 := hcell k (by omega)
          have c1 := hcell (k + 1) (by omega)
          have c9 := hcell (k + 9) (by omega)
          have c14 := hcell (k + 14) (by omega)
          clear hcell
          have hww := Sh.sched_words l hl k
          have w0 := hww k
          have w1 := hww (k + 1)
          have w9 := hww (k + 9)
          have w14 := hww (k + 14)
          clear hww
          have HN : Hid (Sh.sched l (k + 1) = Sh.sched l k ++ [(Sh.nth (Sh.sched l k) k + Sh.sg0 (Sh.nth (Sh.sched l k) (k + 1)) + Sh.nth (Sh.sched l k) (k + 9) + Sh.sg1 (Sh.nth (Sh.sched l k) (k + 14))) % 4294967296]) := rfl
          have HL : Hid ((Sh.sched l k).length ≤ 1000000) := by show _ ≤ _; rw [hlen]; omega
          clear hlen
          subst hv
          generalize Sh.nth (Sh.sched l k) k = n0 at c0 w0 HN
          generalize Sh.nth (Sh.sched l k) (k + 1) = n1 at c1 w1 HN
          generalize Sh.nth (Sh.sched l k) (k + 9) = n9 at c9 w9 HN
          generalize Sh.nth (Sh.sched l k) (k + 14) = n14 at c14 w14 HN
          have e0 := sg0_64 n1 w1
          have e1 := sg1_64 n14 w14
          have t1 : (16 + (k : Int) - 15).toNat = k + 1 := by omega
          have t14 : (16 + (k : Int) - 2).toNat = k + 14 := by omega
          go_wp2_with (first | (go_at_call 27; refine (rrot_int _ _ _ (by omega) (by omega) (by omega)).mono ?_; rintro e w' ⟨rfl, rfl⟩) | (go_at_call 24; refine (rshr_int _ _ _ (by omega) (by omega) (by omega) (by omega)).mono ?_; rintro e w' ⟨rfl, rfl⟩))
          clear e0 e1 t1 t14 c1 c14
          have v1 := Sh.sg0_lt n1 w1
          have v14 := Sh.sg1_lt n14 w14
          generalize Sh.sg0 n1 = m1 at v1 HN ⊢
          generalize Sh.sg1 n14 = m14 at v14 HN ⊢
          obtain ⟨s1, hs1⟩ : ∃ y, n0 + m1 = y := ⟨_, rfl⟩
          obtain ⟨s2, hs2⟩ : ∃ y, s1 + n9 = y := ⟨_, rfl⟩
          obtain ⟨s3, hs3⟩ : ∃ y, s2 + m14 = y := ⟨_, rfl⟩
          have HS : Hid (Sh.sched l (k + 1) = Sh.sched l k ++ [s3 % 4294967296]) := by show _ = _; rw [HN.out, hs1, hs2, hs3]
          have hs3b : s3 < 17179869184 := by omega
          have p1 : IntKind.i64.wrap ((n0 : Int) + m1) = (s1 : Int) := (IntWalk.i64_in _ (by omega)).trans (by omega)
          have p2 : IntKind.i64.wrap ((s1 : Int) + n9) = (s2 : Int) := (IntWalk.i64_in _ (by omega)).trans (by omega)
          have p3 : IntKind.i64.wrap ((s2 : Int) + m14) = (s3 : Int) := (IntWalk.i64_in _ (by omega)).trans (by omega)
          clear HN hs1 hs2 hs3 w0 w1 w9 w14 v1 v14
          have a16 : IntKind.i64.wrap (16 + (k : Int) - 16) = (k : Int) := (IntWalk.i64_in _ (by omega)).trans (by omega)
          have a7 : IntKind.i64.wrap (16 + (k : Int) - 7) = ((k + 9 : Nat) : Int) := (IntWalk.i64_in _ (by omega)).trans (by omega)
          have b0 : (k : Int) < 16 + (k : Int) := by omega
          have b9 : (k : Int) + 9 < 16 + (k : Int) := by omega
          have b9' : 0 ≤ (k : Int) + 9 := by omega
          have t9 : ((k : Int) + 9).toNat = k + 9 := by omega
          go_region_law (first
              | (refine app_step rfl (.tmp 76) (.tmp 93) rfl w.heap.size _ _ (s3 % 4294967296) rfl ((hown.alloc _).drew) wr.heap.size 1 rfl (by simp [World.cell?_alloc_new]) HL.out (by simp; omega) ?_; intro v' w1 hown' hb')
              | (go_simp; go_at_call 28; refine (rword_any s3 _ (by omega)).mono ?_; rintro e w' ⟨rfl, rfl⟩))
          all_goals
            clear p1 p2 p3 a16 a7 b0 b9 b9' t9
            go_wp2
            go_roundw
            case rel => exact ⟨k + 1, by omega, by go_num, by rw [HS.out]; exact hown', (hb.alloc hb.size _).drew.trans hb'⟩
            case measure => simp [intOf]; omega
        · obtain rfl : k = 48 := by omega
          go_wp2_with fail
          go_ret
          exact ⟨_, rfl, hown, hb⟩

end Go.Proofs.YtalknjokamfggaaDoor
