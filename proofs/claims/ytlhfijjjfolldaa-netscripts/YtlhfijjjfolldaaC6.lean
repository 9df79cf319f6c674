/- A net, and the document's, beside each other. -/
import Derived.Test.YtlhfijjjfolldaaC5
namespace Go.Proofs.Ytlhfijjjfolldaa
open Go.RowKit Go.Maps

set_option maxRecDepth 100000 in
set_option maxHeartbeats 16000000 in
theorem scripts_law (HT : TwiceC) (m : Int) (A : Option Addr) (n cap : Nat) (os : List Oq) (w : World) (h : Sq w A n os) : Calls Try.prog 3 #[.int .i64 m, .slice A n cap] w fun e w' => e = .returned (.bool true) ∧ Below w.heap.size w w' := by
  have KL := Lib.hid (live_any HT)
  have KT : Hid TwiceC := HT
  have KS := Lib.hid (small_any A n cap os 60 w h)
  have H := Lib.hid h
  clear HT h
  go_enter Try.func3, Try.ntmps3
  go_wp2_with fail
  refine KS.out.mono ?_
  rintro _ w1 ⟨⟨b, rfl, hb⟩, rfl⟩
  cases b
  · clear KS
    go_wp2_with fail
    refine (KL.out _).mono ?_
    rintro _ w3 ⟨rfl, b3⟩
    go_wp2_with fail
    go_ret
    exact ⟨rfl, b3⟩
  obtain ⟨hn, ho⟩ := hb.out rfl
  have HO := Lib.hid ho
  clear hb ho KS
  by_cases hm : m < 1 ∨ 1000 < m
  · have HM := Lib.hid hm
    clear hm
    go_wp2_with fail
    refine (new_no m _ HM.out).mono ?_
    rintro _ w1 ⟨rfl, rfl⟩
    go_wp2_with fail
    refine (rnew_no m _ HM.out).mono ?_
    rintro _ w1 ⟨rfl, rfl⟩
    go_wp2_with fail
    refine (KL.out _).mono ?_
    rintro _ w3 ⟨rfl, b3⟩
    go_wp2_with fail
    go_ret
    exact ⟨rfl, b3⟩
  have m1 : 1 ≤ m := by omega
  have m2 : m ≤ 1000 := by omega
  clear hm
  go_wp2_with fail
  refine (new_ok m _ m1 m2).mono ?_
  rintro _ w1 ⟨rfl, n1, b1⟩
  obtain ⟨p, hp⟩ : ∃ p, p = w.heap.size := ⟨_, rfl⟩
  rw [← hp] at n1
  rw [← hp]
  have N1 := Lib.hid n1
  have B1 := Lib.hid b1
  have HP := Lib.hid (show w.heap.size ≤ p by omega)
  clear n1 b1 hp
  go_wp2_with fail
  refine (rnew_ok m _ m1 m2).mono ?_
  rintro _ w2 ⟨rfl, k2, b2⟩
  obtain ⟨r, hr⟩ : ∃ r, r = w1.heap.size := ⟨_, rfl⟩
  rw [← hr] at k2
  rw [← hr]
  have P2 : Hid (Pq w w2 p r m (.slice none 0 0) none 0 [] [] 0 0) := Lib.hid ⟨N1.out.next b2, ⟨k2, .inl rfl, (fun ad e => by cases e), (fun ad e => by cases e), (fun _ => rfl), Nat.le_refl _, by simp; omega, m1, m2⟩, (fun ad e => by cases e), bmore B1.out b2, HP.out, by have := B1.out.size; omega⟩
  clear k2 b2 hr N1 B1
  go_wp2_with fail
  go_loopg [7] n (fun g s7 wr => ∃ (i : Nat) (v : Value) (A' : Option Addr) (cap' : Nat) (l : List Str) (k : Int), i + g = n ∧ s7 = .int .i64 i ∧ Hid (Pq w wr p r m v A' cap' l l k k) ∧ 0 ≤ k ∧ k ≤ 51 * (i : Int))
  case atStart => exact ⟨0, _, _, _, [], 0, by omega, rfl, P2, by omega, by omega⟩
  case round =>
    clear P2
    obtain ⟨i, v, A', cap', l, k, hi, rfl, P, k0, k1⟩ := hrel
    cases gk with
    | zero =>
      obtain rfl : i = n := by omega
      have hlt : ¬ ((i : Int) < (i : Int)) := by omega
      go_wp2_with fail
      refine (KL.out _).mono ?_
      rintro _ w9 ⟨rfl, b9⟩
      go_wp2_with fail
      go_ret
      exact ⟨rfl, bmore P.out.low b9⟩
    | succ g1 =>
      have i0 : (0 : Int) ≤ (i : Int) := by omega
      have i1 : (i : Int) < (n : Int) := by omega
      obtain ⟨o, ex⟩ : ∃ o, os[i]? = some o := ⟨_, List.getElem?_eq_getElem (by have := H.out.len; omega)⟩
      have ho50 := HO.out o (List.mem_of_getElem? ex)
      obtain ⟨ad, rfl, hadl, ⟨hT, hwf⟩, hat⟩ := H.out.still ex
      obtain ⟨c0, c1, c2⟩ := hat wr P.out.low
      replace P := Lib.hid (P.out.next (Below.refl _ _).drew)
      have KD := Lib.hid (does_any KT.out P.out o hT ho50 k0 (by omega))
      clear hat hT hwf hadl ex P
      obtain ⟨od, oA, ocap, ozs, oi⟩ := o
      dsimp only at c0 c1 c2 ho50 KD
      go_upto_region 12 with fail
      refine wp_region_any (by kernel_rfl) (?_ : wpAny _ _ _ _ 27 (Array.replicate 27 false) _ wr.drew)
      refine wpAny_take (fuel := 26) (i := 0) rfl (by kernel_rfl) (by kernel_rfl) (by kernel_rfl) (fun _ _ _ h => h) (Or.inl ⟨by rfl, fun V => by go_simp; rfl⟩) ?_
      try simp only [Act.put, List.setIfInBounds_toArray]
      refine wpAny_take (fuel := 25) (i := 1) rfl (by kernel_rfl) (by kernel_rfl) (by kernel_rfl) (fun _ _ _ h => h) (Or.inl ⟨by rfl, fun V => by go_simp; rfl⟩) ?_
      try simp only [Act.put]
      refine wpAny_take (fuel := 24) (i := 2) rfl (by kernel_rfl) (by kernel_rfl) (by kernel_rfl) (fun _ _ _ h => h) (Or.inl ⟨by rfl, fun V => by go_simp; rfl⟩) ?_
      try simp only [Act.put]
      refine wpAny_take (fuel := 23) (i := 3) rfl (by kernel_rfl) (by kernel_rfl) (by kernel_rfl) (fun _ _ _ h => h) (Or.inl ⟨by rfl, fun V => by go_simp; rfl⟩) ?_
      try simp only [Act.put]
      refine wpAny_ready (fuel := 22) (rs := [4]) (by kernel_rfl) (by simp) ?_
      refine AllReady.cons rfl (fun K hK => ?_) AllReady.nil
      go_simp
      refine hK _ _ ?_
      clear hK K
      try simp only [Act.put, List.setIfInBounds_toArray]
      refine wpAny_ready (fuel := 21) (rs := [5]) (by kernel_rfl) (by simp) ?_
      refine AllReady.cons rfl (fun K hK => ?_) AllReady.nil
      go_simp
      refine hK _ _ ?_
      clear hK K
      try simp only [Act.put, List.setIfInBounds_toArray]
      refine wpAny_ready (fuel := 20) (rs := [6]) (by kernel_rfl) (by simp) ?_
      refine AllReady.cons rfl (fun K hK => ?_) AllReady.nil
      go_simp
      refine KD.out.mono ?_
      rintro _ w4 ⟨rfl, v', A', cap', l', k', p4, hk0, hk1⟩
      have P4 := Lib.hid p4
      clear p4 KD c0 c1 c2
      refine hK _ _ ?_
      clear hK K
      try simp only [Act.put, List.setIfInBounds_toArray]
      refine wpAny_ready (fuel := 19) (rs := [7]) (by kernel_rfl) (by simp) ?_
      refine AllReady.cons rfl (fun K hK => ?_) AllReady.nil
      go_simp
      refine hK _ _ ?_
      clear hK K
      try simp only [Act.put, List.setIfInBounds_toArray]
      refine wpAny_ready (fuel := 18) (rs := [8]) (by kernel_rfl) (by simp) ?_
      refine AllReady.cons rfl (fun K hK => ?_) AllReady.nil
      go_simp
      refine hK _ _ ?_
      clear hK K
      try simp only [Act.put, List.setIfInBounds_toArray]
      have hrl := P4.out.b.blk.lt
      have e1 := P4.out.b.blk.cell 1 _ rfl
      have e2 := P4.out.b.blk.cell 2 _ rfl
      have hl' := P4.out.a.len
      let SS : World → Prop := fun W => W.cell? ⟨r, 1, none⟩ = some (.slice A' l'.length cap') ∧ W.cell? ⟨r, 2, none⟩ = some (.int .i64 k')
      have hS : ∀ W, Below w4.heap.size w4 W → SS W := fun W hW => ⟨(hW.cell (p := ⟨r, 1, none⟩) hrl).trans e1, (hW.cell (p := ⟨r, 2, none⟩) hrl).trans e2⟩
      have s0 : SS w4 := hS _ (Below.refl _ _)
      clear e1 e2
      refine wpAny_of_z (S := SS) (z := fun _ => false) _ _ _ _ ?_
      refine wpAnyZ_take (fuel := 17) (i := 9) rfl (by kernel_rfl) (by kernel_rfl) (by kernel_rfl) (by kernel_rfl) (fun _ _ _ h => h) (Or.inl ⟨by rfl, fun V hV => by obtain ⟨g1, g2⟩ := hV; go_simp; rfl⟩) s0 ?_
      try simp only [Act.put, List.setIfInBounds_toArray]
      refine wpAnyZ_take (fuel := 16) (i := 11) rfl (by kernel_rfl) (by kernel_rfl) (by kernel_rfl) (by kernel_rfl) (fun _ _ _ h => h) (Or.inl ⟨by rfl, fun V hV => by obtain ⟨g1, g2⟩ := hV; go_simp; rfl⟩) s0 ?_
      try simp only [Act.put]
      refine wpAnyZ_take (fuel := 15) (i := 12) rfl (by kernel_rfl) (by kernel_rfl) (by kernel_rfl) (by kernel_rfl) (fun _ _ _ h => h) (Or.inl ⟨by rfl, fun V hV => by obtain ⟨g1, g2⟩ := hV; go_simp; rfl⟩) s0 ?_
      try simp only [Act.put]
      refine wpAnyZ_take (fuel := 14) (i := 13) rfl (by kernel_rfl) (by kernel_rfl) (by kernel_rfl) (by kernel_rfl) (fun _ _ _ h => h) (Or.inl ⟨by rfl, fun V hV => by obtain ⟨g1, g2⟩ := hV; go_simp; rfl⟩) s0 ?_
      try simp only [Act.put]
      refine wpAnyZ_take (fuel := 13) (i := 14) rfl (by kernel_rfl) (by kernel_rfl) (by kernel_rfl) (by kernel_rfl) (fun _ _ _ h => h) (Or.inl ⟨by rfl, fun V hV => by obtain ⟨g1, g2⟩ := hV; go_simp; rfl⟩) s0 ?_
      try simp only [Act.put]
      refine wpAnyZ_one (i := 10) (fuel := 12) (by kernel_rfl) rfl (fun K hK => ?_)
      go_simp
      refine (list_any P4.out.a).mono ?_
      rintro _ w7 ⟨A7, c7, rfl, s7, _, b7⟩
      have P7 := Lib.hid (P4.out.next b7)
      have S7 := Lib.hid s7
      have s1 : SS w7 := hS _ b7
      have B7 := Lib.hid b7
      clear s7 b7
      refine hK _ _ (fun _ => s1) ?_
      clear hK K
      try simp only [Act.put, List.setIfInBounds_toArray]
      refine wpAnyZ_one (i := 15) (fuel := 11) (by kernel_rfl) rfl (fun K hK => ?_)
      go_simp
      refine (same_any A7 A' l'.length l'.length c7 cap' l' l' _ S7.out P7.out.b.at_ rfl rfl (by omega) (by omega)).mono ?_
      rintro _ w8 ⟨rfl, b8⟩
      have P8 := Lib.hid (P7.out.next b8)
      have s2 : SS w8 := hS _ (bmore B7.out b8)
      rw [show decide (l' = l') = true from decide_eq_true rfl]
      clear b8
      refine hK _ _ (fun _ => s2) ?_
      clear hK K
      try simp only [Act.put, List.setIfInBounds_toArray]
      refine wpAnyZ_one (i := 16) (fuel := 10) (by kernel_rfl) rfl (fun K hK => ?_)
      go_simp
      refine hK _ _ (fun _ => s2) ?_
      clear hK K
      try simp only [Act.put, List.setIfInBounds_toArray]
      refine wpAnyZ_one (i := 17) (fuel := 9) (by kernel_rfl) rfl (fun K hK => ?_)
      go_simp
      refine hK _ _ (fun _ => s2) ?_
      clear hK K
      try simp only [Act.put, List.setIfInBounds_toArray]
      refine wpAnyZ_one (i := 18) (fuel := 8) (by kernel_rfl) rfl (fun K hK => ?_)
      go_simp
      refine hK _ _ (fun _ => s2) ?_
      clear hK K
      try simp only [Act.put, List.setIfInBounds_toArray]
      refine wpAnyZ_take (fuel := 7) (i := 19) rfl (by kernel_rfl) (by kernel_rfl) (by kernel_rfl) (by kernel_rfl) (fun _ _ _ h => h) (Or.inl ⟨by rfl, fun V hV => by obtain ⟨g1, g2⟩ := hV; go_simp; rfl⟩) s2 ?_
      try simp only [Act.put, List.setIfInBounds_toArray]
      refine wpAnyZ_take (fuel := 6) (i := 21) rfl (by kernel_rfl) (by kernel_rfl) (by kernel_rfl) (by kernel_rfl) (fun _ _ _ h => h) (Or.inl ⟨by rfl, fun V hV => by obtain ⟨g1, g2⟩ := hV; go_simp; rfl⟩) s2 ?_
      try simp only [Act.put]
      refine wpAnyZ_take (fuel := 5) (i := 22) rfl (by kernel_rfl) (by kernel_rfl) (by kernel_rfl) (by kernel_rfl) (fun _ _ _ h => h) (Or.inl ⟨by rfl, fun V hV => by obtain ⟨g1, g2⟩ := hV; go_simp; rfl⟩) s2 ?_
      try simp only [Act.put]
      refine wpAnyZ_take (fuel := 4) (i := 23) rfl (by kernel_rfl) (by kernel_rfl) (by kernel_rfl) (by kernel_rfl) (fun _ _ _ h => h) (Or.inl ⟨by rfl, fun V hV => by obtain ⟨g1, g2⟩ := hV; go_simp; rfl⟩) s2 ?_
      try simp only [Act.put]
      refine wpAnyZ_take (fuel := 3) (i := 24) rfl (by kernel_rfl) (by kernel_rfl) (by kernel_rfl) (by kernel_rfl) (fun _ _ _ h => h) (Or.inl ⟨by rfl, fun V hV => by obtain ⟨g1, g2⟩ := hV; go_simp; rfl⟩) s2 ?_
      try simp only [Act.put]
      refine wpAnyZ_one (i := 20) (fuel := 2) (by kernel_rfl) rfl (fun K hK => ?_)
      go_simp
      refine (lost_any P8.out.a).mono ?_
      rintro _ w9 ⟨rfl, rfl⟩
      refine hK _ _ (fun _ => s2) ?_
      clear hK K
      try simp only [Act.put, List.setIfInBounds_toArray]
      refine wpAnyZ_one (i := 25) (fuel := 1) (by kernel_rfl) rfl (fun K hK => ?_)
      go_simp
      refine hK _ _ (fun _ => s2) ?_
      clear hK K
      try simp only [Act.put, List.setIfInBounds_toArray]
      refine wpAnyZ_one (i := 26) (fuel := 0) (by kernel_rfl) rfl (fun K hK => ?_)
      go_simp
      refine hK _ _ (fun _ => s2) ?_
      clear hK K
      try simp only [Act.put, List.setIfInBounds_toArray]
      refine wpAnyZ_done (by kernel_rfl) ?_ _
      go_wp2_with fail
      go_roundg g1
      case measure => omega
      case rel => exact ⟨i + 1, v', A', cap', l', k', by omega, by go_num, P8, hk0, by omega⟩
end Go.Proofs.Ytlhfijjjfolldaa
