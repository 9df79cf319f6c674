/- The reference's block: its main loop. -/
import Derived.Test.YtalknjokamfggaaDoorR4
namespace Go.Proofs.YtalknjokamfggaaDoor
open Go.RowKit

theorem rmore {w w1 w2 : World} (h : Below w.heap.size w w1) (h2 : Below w1.heap.size w1 w2) : Below w.heap.size w w2 := h.trans (h2.mono h.size)
theorem chid {w w2 : World} {p : Addr} {v : Value} (h : w.cell? p = some v) (e : Hid (w2 = w.drew)) : w2.cell? p = some v := by rw [e.out]; exact h
theorem rrot_lit (x k : Nat) (a : Int) (ha : (k : Int) = a) (w : World) (hx2 : x < 4294967296) (hk2 : k ≤ 32) :
    Calls Tryd.prog 27 #[.int .i64 (x : Int), .int .i64 a] w fun e w' => e = .returned (.int .i64 (Sh.rotr x k : Nat)) ∧ w' = w := by
  subst ha; exact (rrot_any x k w hx2 hk2).mono fun _ _ h => ⟨h.1, h.2.symm⟩
theorem rword_lit (n : Nat) (w : World) (hn : n < 9223372036854775808) :
    Calls Tryd.prog 28 #[.int .i64 (n : Int)] w fun e w' => e = .returned (.int .i64 ((n % 4294967296 : Nat) : Int)) ∧ w' = w :=
  (rword_any n w hn).mono fun _ _ h => ⟨h.1, h.2.symm⟩
theorem bs1_64 (y : Nat) (h : y < 4294967296) : bits .xor .i64 (bits .xor .i64 (Sh.rotr y 6 : Nat) (Sh.rotr y 11 : Nat)) (Sh.rotr y 25 : Nat) = ((Sh.bs1 y : Nat) : Int) :=
  xor3_64 _ _ _ (Sh.rotr_lt _ _ h) (Sh.rotr_lt _ _ h) (Sh.rotr_lt _ _ h)
theorem bs0_64 (y : Nat) (h : y < 4294967296) : bits .xor .i64 (bits .xor .i64 (Sh.rotr y 2 : Nat) (Sh.rotr y 13 : Nat)) (Sh.rotr y 22 : Nat) = ((Sh.bs0 y : Nat) : Int) :=
  xor3_64 _ _ _ (Sh.rotr_lt _ _ h) (Sh.rotr_lt _ _ h) (Sh.rotr_lt _ _ h)
theorem ch_64 (e f g n : Nat) (he : e < 4294967296) (hf : f < 4294967296) (hg : g < 4294967296) (hn : n = 4294967295 - e) :
    bits .xor .i64 (bits .and .i64 (e : Int) (f : Int)) (bits .and .i64 (n : Int) (g : Int)) = ((Sh.ch e f g : Nat) : Int) := by
  subst hn
  rw [and64 _ _ he hf, and64 _ _ (by omega) hg, xor64 _ _ (Sh.and_lt he) (Sh.and_lt (by omega))]
  rfl
theorem maj_64 (a b c : Nat) (ha : a < 4294967296) (hb : b < 4294967296) (hc : c < 4294967296) :
    bits .xor .i64 (bits .xor .i64 (bits .and .i64 (a : Int) (b : Int)) (bits .and .i64 (a : Int) (c : Int))) (bits .and .i64 (b : Int) (c : Int)) = ((Sh.maj a b c : Nat) : Int) := by
  rw [and64 _ _ ha hb, and64 _ _ ha hc, and64 _ _ hb hc, xor64 _ _ (Sh.and_lt ha) (Sh.and_lt ha), xor64 _ _ (Sh.xor_lt (Sh.and_lt ha) (Sh.and_lt ha)) (Sh.and_lt hb)]
  rfl
theorem ch_lt (e f g : Nat) (he : e < 4294967296) : Sh.ch e f g < 4294967296 := Sh.xor_lt (Sh.and_lt he) (Sh.and_lt (by omega))
theorem maj_lt (a b c : Nat) (ha : a < 4294967296) (hb : b < 4294967296) : Sh.maj a b c < 4294967296 := Sh.xor_lt (Sh.xor_lt (Sh.and_lt ha) (Sh.and_lt ha)) (Sh.and_lt hb)
theorem KK_words : Sh.Words Sh.KK := by
  intro i
  by_cases h : i < 64
  · have : ∀ j : Fin 64, Sh.nth Sh.KK j.val < 4294967296 := by decide +kernel
    exact this ⟨i, h⟩
  · rw [Sh.nth_ge _ _ (by show 64 ≤ i; omega)]; decide

/-- One round, of sums that are not yet cut to words. -/
theorem step_sums (v : List Nat) (k w t u : Nat) (ht : Sh.nth v 7 + Sh.bs1 (Sh.nth v 4) + Sh.ch (Sh.nth v 4) (Sh.nth v 5) (Sh.nth v 6) + k + w = t) (hu : Sh.bs0 (Sh.nth v 0) + Sh.maj (Sh.nth v 0) (Sh.nth v 1) (Sh.nth v 2) = u) :
    Sh.step v k w = [(t + u) % 4294967296, Sh.nth v 0, Sh.nth v 1, Sh.nth v 2, (Sh.nth v 3 + t) % 4294967296, Sh.nth v 4, Sh.nth v 5, Sh.nth v 6] := by
  unfold Sh.step Sh.tt Sh.uu
  rw [ht, hu]
  congr 1
  · omega
  · congr 4
    omega

/-- What one round of the reference reckons, number by number. -/
structure Round (v : List Nat) (kk ww x0 x1 x2 x3 x4 x5 x6 x7 ne b1 b0 cc mm s1 s2 s3 t u tu xt : Nat) : Prop where
  e0 : Sh.nth v 0 = x0
  e1 : Sh.nth v 1 = x1
  e2 : Sh.nth v 2 = x2
  e3 : Sh.nth v 3 = x3
  e4 : Sh.nth v 4 = x4
  e5 : Sh.nth v 5 = x5
  e6 : Sh.nth v 6 = x6
  e7 : Sh.nth v 7 = x7
  l0 : x0 < 4294967296
  l4 : x4 < 4294967296
  n : (4294967295 : Int) - (x4 : Int) = (ne : Int)
  f1 : bits .xor .i64 (bits .xor .i64 (Sh.rotr x4 6 : Nat) (Sh.rotr x4 11 : Nat)) (Sh.rotr x4 25 : Nat) = (b1 : Int)
  f0 : bits .xor .i64 (bits .xor .i64 (Sh.rotr x0 2 : Nat) (Sh.rotr x0 13 : Nat)) (Sh.rotr x0 22 : Nat) = (b0 : Int)
  fc : bits .xor .i64 (bits .and .i64 (x4 : Int) (x5 : Int)) (bits .and .i64 (ne : Int) (x6 : Int)) = (cc : Int)
  fm : bits .xor .i64 (bits .xor .i64 (bits .and .i64 (x0 : Int) (x1 : Int)) (bits .and .i64 (x0 : Int) (x2 : Int))) (bits .and .i64 (x1 : Int) (x2 : Int)) = (mm : Int)
  p1 : IntKind.i64.wrap ((x7 : Int) + b1) = (s1 : Int)
  p2 : IntKind.i64.wrap ((s1 : Int) + cc) = (s2 : Int)
  p3 : IntKind.i64.wrap ((s2 : Int) + kk) = (s3 : Int)
  p4 : IntKind.i64.wrap ((s3 : Int) + ww) = (t : Int)
  p5 : IntKind.i64.wrap ((b0 : Int) + mm) = (u : Int)
  p6 : IntKind.i64.wrap ((t : Int) + u) = (tu : Int)
  p7 : IntKind.i64.wrap ((x3 : Int) + t) = (xt : Int)
  tub : tu < 9223372036854775808
  xtb : xt < 9223372036854775808
  out : Sh.step v kk ww = [tu % 4294967296, x0, x1, x2, xt % 4294967296, x4, x5, x6]
theorem add_in {a b c : Nat} (h : a + b = c) (hc : c < 1000000000000) : IntKind.i64.wrap ((a : Int) + b) = (c : Int) :=
  (IntWalk.i64_in _ (by omega)).trans (by omega)
theorem round_facts (v : List Nat) (kk ww : Nat) (hv : Sh.Words v) (hk : kk < 4294967296) (hw : ww < 4294967296) :
    ∃ x0 x1 x2 x3 x4 x5 x6 x7 ne b1 b0 cc mm s1 s2 s3 t u tu xt, Round v kk ww x0 x1 x2 x3 x4 x5 x6 x7 ne b1 b0 cc mm s1 s2 s3 t u tu xt := by
  have h0 := hv 0; have h1 := hv 1; have h2 := hv 2; have h3 := hv 3; have h4 := hv 4; have h5 := hv 5; have h6 := hv 6; have h7 := hv 7
  have hb1 := Sh.bs1_lt _ h4
  have hb0 := Sh.bs0_lt _ h0
  have hcc := ch_lt (Sh.nth v 4) (Sh.nth v 5) (Sh.nth v 6) h4
  have hmm := maj_lt (Sh.nth v 0) (Sh.nth v 1) (Sh.nth v 2) h0 h1
  exact ⟨_, _, _, _, _, _, _, _, 4294967295 - Sh.nth v 4, Sh.bs1 (Sh.nth v 4), Sh.bs0 (Sh.nth v 0), Sh.ch (Sh.nth v 4) (Sh.nth v 5) (Sh.nth v 6), Sh.maj (Sh.nth v 0) (Sh.nth v 1) (Sh.nth v 2), _, _, _, _, _, _, _,
    { e0 := rfl, e1 := rfl, e2 := rfl, e3 := rfl, e4 := rfl, e5 := rfl, e6 := rfl, e7 := rfl, l0 := h0, l4 := h4, n := by omega,
      f1 := bs1_64 _ h4, f0 := bs0_64 _ h0, fc := ch_64 _ _ _ _ h4 h5 h6 rfl, fm := maj_64 _ _ _ h0 h1 h2,
      p1 := add_in rfl (by omega), p2 := add_in rfl (by omega), p3 := add_in rfl (by omega), p4 := add_in rfl (by omega), p5 := add_in rfl (by omega), p6 := add_in rfl (by omega), p7 := add_in rfl (by omega),
      tub := by omega, xtb := by omega, out := step_sums v kk ww _ _ rfl rfl }⟩

/-- The first n sums. -/
def sums (h v : List Nat) : Nat → List Nat
  | 0 => []
  | n + 1 => sums h v n ++ [(Sh.nth h n + Sh.nth v n) % 4294967296]
theorem sums_len (h v : List Nat) : ∀ n, (sums h v n).length = n
  | 0 => rfl
  | n + 1 => by simp [sums, sums_len h v n]
theorem sums_addTo (h v : List Nat) (hh : h.length = 8) : Sh.addTo h v 8 = sums h v 8 := by
  match h, hh with
  | [_, _, _, _, _, _, _, _], _ => rfl

/-- append of a whole slice to none. -/
theorem app_all {ops : Array Oper} {rest : List Oper} {o : Oper} {a : Act} {w : World} {Q : Exit → Act → World → Prop} (hgd : o.guard = none) (s x : Operand)
    (ho : o.op = .call { callee := .builtin .append, args := #[s, x], argTypes := #[32, 32] }) (l : List Nat) (m : Nat) (hm : l.length = m) (hs : a.eval s = .slice none 0 0)
    (g1 c : Nat) (hx : a.eval x = .slice (some ⟨g1, 0, none⟩) m c) (hn : ∀ i, i < m → w.cell? ⟨g1, i, none⟩ = some (.int .i64 (Sh.nth l i))) (hl : m ≤ 1000000)
    (h : ∀ v' w', Own w.heap.size w' v' l → Below w.heap.size w w' → wpList Tryd.prog ops Q rest (a.put o.dst v') w') : wpList Tryd.prog ops Q (o :: rest) a w := by
  obtain ⟨i, hi, hz0, hz1, hz2⟩ := info_parts info3
  subst hm
  refine wpList_append_own w hgd s x 32 ho w.heap.size 3 i _ 1 8 Tryd.underlying32 hi hz0 hz1 hz2 rfl (by decide) _ 0 [] hs (World.ownsRow_nil w _ 3 1) ⟨g1, 0, none⟩ l.length c (is64 l) hx (by simp [is64]) ?_ ?_ ?_ ?_ (Nat.le_refl _) ?_
  · intro j u hj
    have hjl : j < l.length := by
      have := (List.getElem?_eq_some_iff.1 hj).1
      simpa [is64] using this
    have hadd : (⟨g1, 0, none⟩ : Addr).add j = ⟨g1, j, none⟩ := by unfold Addr.add; split <;> simp_all
    rw [hadd, hn j hjl, ← hj, is64_get l j hjl]
  · intro u hu
    obtain ⟨n, _, rfl⟩ := List.mem_map.1 hu
    rfl
  · unfold maxLen; omega
  · omega
  · intro v' w' h2 h3 _
    refine h v' w' ?_ ((Below.refl _ w).grown h3 (Nat.le_refl _) fun k hk => by cases hk)
    simpa [Own] using h2

set_option maxRecDepth 100000 in
set_option maxHeartbeats 1000000 in
theorem rblock_any (gh ch gb ob cb : Nat) (h8 l : List Nat) (w : World) (hh8 : h8.length = 8) (hw8 : Sh.Words h8) (hgh : gh < w.heap.size) (hch : ∀ i, i < 8 → w.cell? ⟨gh, i, none⟩ = some (.int .i64 (Sh.nth h8 i)))
    (hg : gb < w.heap.size) (hc : ∀ i, i < 64 → w.cell? ⟨gb, ob + i, none⟩ = some (.int .i64 (Sh.nth l i))) (hl : Sh.Bytes l) :
    Calls Tryd.prog 20 #[.slice (some ⟨gh, 0, none⟩) 8 ch, .slice (some ⟨gb, ob, none⟩) 64 cb] w fun e w' => ∃ v, e = .returned v ∧ Own w.heap.size w' v (Sh.mixP h8 l) ∧ Below w.heap.size w w' := by
  have HC := Lib.hid hc
  have HCH := Lib.hid hch
  have HH := Lib.hid hh8
  have HW := Lib.hid hw8
  have HLB := Lib.hid hl
  clear hc hch hh8 hw8 hl
  go_enter Tryd.func20, Tryd.ntmps20
  go_wp2_with fail
  refine (rsched_any gb ob cb l _ hg HC.out HLB.out).mono ?_
  rintro e w1 ⟨v5, rfl, own5, b1⟩
  have b1s := b1.size
  go_wp2_with fail
  refine (rk_any _).mono ?_
  rintro e w2 ⟨v6, rfl, own6, b2⟩
  replace own5 := own5.after b2
  have b2s := b2.size
  replace b2 := rmore b1 b2
  clear b1
  have hcw : Hid (∀ i, i < 8 → w2.cell? ⟨gh, i, none⟩ = some (.int .i64 (Sh.nth h8 i))) := fun i hi => (b2.cell (p := ⟨gh, i, none⟩) hgh).trans (HCH.out i hi)
  go_wp2_with (at_builtin; refine app_all rfl (.tmp 19) (.tmp 20) rfl h8 8 HH.out rfl gh ch rfl hcw.out (by decide) ?_; intro v7 w3 own7 b3)
  replace own5 := own5.after b3
  replace own6 := own6.after b3
  have b3s := b3.size
  replace b3 := rmore b2 b3
  clear b2 hcw
  replace own7 := own7.weaken (B' := w.heap.size) (by omega)
  have l5 := Sh.sched_len l 48
  obtain ⟨g5, c5, hv5, _, g5l, _, cell5⟩ := own5.form (by rw [l5]; omega)
  rw [l5, show 16 + 48 = 64 from rfl] at hv5 cell5
  obtain ⟨g6, c6, hv6, _, g6l, _, cell6⟩ := own6.form (by decide)
  rw [show Sh.KK.length = 64 from rfl] at hv6
  subst hv5 hv6
  have C5 := Lib.hid cell5
  have C6 : Hid (∀ i, i < 64 → w3.cell? ⟨g6, i, none⟩ = some (.int .i64 (Sh.nth Sh.KK i))) := cell6
  have HWS := Lib.hid (Sh.sched_words l HLB.out 48)
  obtain ⟨ws, hws⟩ : ∃ ws, Hid (Sh.sched l 48 = ws) := ⟨_, rfl⟩
  rw [hws.out] at C5 HWS
  clear cell5 cell6 l5 own5 own6
  go_loopw [7, 8] (fun v i wr => ∃ k : Nat, k ≤ 64 ∧ i = .int .i64 k ∧ Own w.heap.size wr v (Sh.rounds h8 ws k) ∧ Below w3.heap.size w3 wr) (fun _ i _ => 64 - (intOf i).toNat)
  case atStart => exact ⟨0, by omega, rfl, own7, Below.refl _ _⟩
  case round =>
    clear own7
    obtain ⟨k, hk, rfl, hown, hb⟩ := hrel
    have hbs := hb.size
    have hvl := Sh.rounds_len h8 ws HH.out k
    obtain ⟨g, cap, hv, hgB, hgl, _, hcell⟩ := hown.form (by rw [hvl]; omega)
    rw [hvl] at hv hcell
    subst hv
    by_cases hlt : k < 64
    · have hvw := Sh.rounds_words h8 ws HW.out k
      have HV : Hid (Sh.rounds h8 ws (k + 1) = Sh.step (Sh.rounds h8 ws k) (Sh.nth Sh.KK k) (Sh.nth ws k)) := rfl
      generalize Sh.rounds h8 ws k = v at hown hvl hcell hvw HV
      obtain ⟨x0, x1, x2, x3, x4, x5, x6, x7, ne, b1, b0, cc, mm, s1, s2, s3, t, u, tu, xt, R⟩ := round_facts v (Sh.nth Sh.KK k) (Sh.nth ws k) hvw (KK_words k) (HWS.out k)
      have k0 := Lib.hid (hcell 0 (by decide))
      have k1 := Lib.hid (hcell 1 (by decide))
      have k2 := Lib.hid (hcell 2 (by decide))
      have k3 := Lib.hid (hcell 3 (by decide))
      have k4 := Lib.hid (hcell 4 (by decide))
      have k5 := Lib.hid (hcell 5 (by decide))
      have k6 := Lib.hid (hcell 6 (by decide))
      have k7 := Lib.hid (hcell 7 (by decide))
      rw [R.e0] at k0
      rw [R.e1] at k1
      rw [R.e2] at k2
      rw [R.e3] at k3
      rw [R.e4] at k4
      rw [R.e5] at k5
      rw [R.e6] at k6
      rw [R.e7] at k7
      have HS := Lib.hid (HV.out.trans R.out)
      have ck := Lib.hid ((hb.cell (p := ⟨g6, k, none⟩) g6l).trans (C6.out k hlt))
      have cw := Lib.hid ((hb.cell (p := ⟨g5, k, none⟩) g5l).trans (C5.out k hlt))
      clear hcell hvl hvw HV
      have R2 : Round v (Sh.nth Sh.KK k) (Sh.nth ws k) x0 x1 x2 x3 x4 x5 x6 x7 ne b1 b0 cc mm s1 s2 s3 t u tu xt := R
      clear R
      have d0 : (k : Int) < 64 := by omega
      have j4 := k4.out
      have j0 := k0.out
      have hne := R2.n
      go_wp2_with fail
      clear hne j4 j0
      refine region_still (by kernel_rfl) (by kernel_rfl) (fun w4 hw4 => ?_)
      have hown4 := hown.hid hw4
      have hb4 := below_hid hb hw4
      have j7 := chid k7.out hw4
      have j5 := chid k5.out hw4
      have j6 := chid k6.out hw4
      have jk := chid ck.out hw4
      have jw := chid cw.out hw4
      have f1 := R2.f1
      have fc := R2.fc
      have p1 := R2.p1
      have p2 := R2.p2
      have p3 := R2.p3
      have p4 := R2.p4
      repeat still_step
      still_call (rrot_lit _ 6 6 rfl _ R2.l4 (by decide))
      repeat still_step
      still_call (rrot_lit _ 11 11 rfl _ R2.l4 (by decide))
      repeat still_step
      still_call (rrot_lit _ 25 25 rfl _ R2.l4 (by decide))
      repeat still_step
      refine wpStill_nil ?_
      clear j7 j5 j6 jk jw f1 fc p1 p2 p3 p4
      go_wp2_with fail
      refine region_still (by kernel_rfl) (by kernel_rfl) (fun w5 hw5 => ?_)
      have hown5 := hown4.hid hw5
      have hb5 := below_hid hb4 hw5
      have j1 := chid (chid k1.out hw4) hw5
      have j2 := chid (chid k2.out hw4) hw5
      have f0 := R2.f0
      have fm := R2.fm
      have p5 := R2.p5
      repeat still_step
      still_call (rrot_lit _ 2 2 rfl _ R2.l0 (by decide))
      repeat still_step
      still_call (rrot_lit _ 13 13 rfl _ R2.l0 (by decide))
      repeat still_step
      still_call (rrot_lit _ 22 22 rfl _ R2.l0 (by decide))
      repeat still_step
      refine wpStill_nil ?_
      clear j1 j2 f0 fm p5
      go_wp2_with fail
      refine region_tail 28 (by kernel_rfl) (by kernel_rfl) (fun w6 hw6 => ?_)
      have hb6 := below_hid hb5 hw6
      have j0 := chid (chid (chid k0.out hw4) hw5) hw6
      have j1 := chid (chid (chid k1.out hw4) hw5) hw6
      have j2 := chid (chid (chid k2.out hw4) hw5) hw6
      have j3 := chid (chid (chid k3.out hw4) hw5) hw6
      have j4 := chid (chid (chid k4.out hw4) hw5) hw6
      have j5 := chid (chid (chid k5.out hw4) hw5) hw6
      have j6 := chid (chid (chid k6.out hw4) hw5) hw6
      have p6 := R2.p6
      have p7 := R2.p7
      simp only [List.take_succ_cons, List.take_zero, List.drop_succ_cons, List.drop_zero]
      repeat still_step
      still_call (rword_lit _ _ R2.tub)
      repeat still_step
      still_call (rword_lit _ _ R2.xtb)
      repeat still_step
      refine wpStill_nil ?_
      clear j0 j1 j2 j3 j4 j5 j6 p6 p7
      go_wp2
      go_roundw
      case rel =>
        refine ⟨k + 1, by omega, by go_num, ?_, hb6.alloc hb6.size _⟩
        rw [HS.out]
        exact Own.lit (l := [tu % 4294967296, x0, x1, x2, xt % 4294967296, x4, x5, x6]) (heap_alloc_new w6 _) (by have := hb6.size; omega) (by show 8 ≤ maxLen; unfold maxLen; omega)
      case measure => simp [intOf]; omega
    · obtain rfl : k = 64 := by omega
      obtain ⟨wL, hwL⟩ : ∃ wL, wL = wr := ⟨_, rfl⟩
      subst hwL
      clear hlt hk C5 C6
      have HM : Hid (Sh.mixP h8 l = sums h8 (Sh.rounds h8 ws 64) 8) := by show _ = _; rw [Sh.mixP, hws.out, sums_addTo _ _ HH.out]
      have hvw := Lib.hid (Sh.rounds_words h8 ws HW.out 64)
      generalize Sh.rounds h8 ws 64 = v at hown hvl hcell HM hvw
      have HCV := Lib.hid hcell
      clear hcell hvl
      have hbw : Below w.heap.size w wL := rmore b3 hb
      have HCW : Hid (∀ i, i < 8 → wL.cell? ⟨gh, i, none⟩ = some (.int .i64 (Sh.nth h8 i))) := fun i hi => (hbw.cell (p := ⟨gh, i, none⟩) hgh).trans (HCH.out i hi)
      have hghr : gh < wL.heap.size := by have := hbw.size; omega
      clear hb hbs HCH HC hown b3 b3s b2s b1s g5l g6l
      go_wp2_with fail
      rw [show ((64 : Nat) : Int) = 64 from rfl]
      go_loopw [14, 15] (fun o i wx => ∃ j : Nat, j ≤ 8 ∧ i = .int .i64 j ∧ Own wL.heap.size wx o (sums h8 v j) ∧ Below wL.heap.size wL wx) (fun _ i _ => 8 - (intOf i).toNat)
      case atStart => exact ⟨0, by omega, rfl, Own.nil _ _, Below.refl _ _⟩
      case round =>
        obtain ⟨j, hj, rfl, hown, hb⟩ := hrel
        have hbs := hb.size
        by_cases hlt : j < 8
        · have c0 := (hb.cell (p := ⟨gh, j, none⟩) hghr).trans (HCW.out j hlt)
          have c1 := (hb.cell (p := ⟨g, j, none⟩) hgl).trans (HCV.out j hlt)
          have x0b := HW.out j
          have x1b := hvw.out j
          have HN : Hid (sums h8 v (j + 1) = sums h8 v j ++ [(Sh.nth h8 j + Sh.nth v j) % 4294967296]) := rfl
          have HL : Hid ((sums h8 v j).length ≤ 1000000) := by show _ ≤ _; rw [sums_len]; omega
          generalize Sh.nth h8 j = n0 at c0 x0b HN
          generalize Sh.nth v j = n1 at c1 x1b HN
          obtain ⟨s3, hs3⟩ : ∃ y, n0 + n1 = y := ⟨_, rfl⟩
          rw [hs3] at HN
          have p1 := add_in hs3 (by omega)
          have hs3b : s3 < 17179869184 := by omega
          clear hs3 x0b x1b
          have d0 : (j : Int) < 8 := by omega
          go_wp2_with fail
          go_region_law (first
              | (refine app_step rfl (.tmp 129) (.tmp 140) rfl wL.heap.size _ _ (s3 % 4294967296) rfl ((hown.alloc _).drew) wr.heap.size 1 rfl (by simp [World.cell?_alloc_new]) HL.out (by simp; omega) ?_; intro v' w1 hown' hb')
              | (go_simp; go_at_call 28; refine (rword_any s3 _ (by omega)).mono ?_; rintro e w' ⟨rfl, rfl⟩))
          all_goals
            clear p1 d0
            go_wp2
            go_roundw
            case rel => exact ⟨j + 1, by omega, by go_num, by rw [HN.out]; exact hown', (hb.alloc hb.size _).drew.trans hb'⟩
            case measure => simp [intOf]; omega
        · obtain rfl : j = 8 := by omega
          go_wp2_with fail
          go_ret
          refine ⟨_, rfl, ?_, hbw.trans (hb.mono hbw.size)⟩
          rw [HM.out]
          exact hown.weaken hbw.size

end Go.Proofs.YtalknjokamfggaaDoor
