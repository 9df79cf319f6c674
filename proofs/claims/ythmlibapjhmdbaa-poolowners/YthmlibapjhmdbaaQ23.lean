/- The law on a pool's owners. -/
import Derived.Test.YthmlibapjhmdbaaQ22
namespace Go.Proofs.Ythmlibapjhmdbaa
open Go.RowKit Go.Shelf Go.Maps Go.Sort

attribute [local go_sem] eq33 eq40

set_option maxRecDepth 100000 in
set_option maxHeartbeats 8000000 in
theorem owners_law (s q : Int) (A : Option Addr) (n cap : Nat) (os : List Oq) (w : World) (h : Sq w A n os) :
    Calls Try.prog 7 #[.agg #[.int .i64 s, .int .i64 q], .slice A n cap] w fun e w' => e = .returned (.bool true) ∧ Below w.heap.size w w' := by
  have KL := Lib.hid live_any
  have HS := Lib.hid h
  clear h
  have hb0 := (Below.refl _ w).alloc (Nat.le_refl _) (.cells #[.int .i64 s, .int .i64 q] 23)
  by_cases hn : (40 : Int) < (n : Int)
  · go_enter Try.func7, Try.ntmps7
    go_wp2_with fail
    refine (KL.out _).mono ?_
    rintro _ w9 ⟨rfl, hb9⟩
    go_wp2_with fail
    go_ret
    exact ⟨rfl, bmore hb0 hb9⟩
  rcases LOk_or s q with ⟨s', q', rfl, rfl, hL⟩ | hL
  case inr =>
    go_enter Try.func7, Try.ntmps7
    go_wp2_with fail
    refine (rCheck_bad s q _ hL).mono ?_
    rintro _ w8 ⟨rfl, hb8⟩
    replace hb0 := bmore hb0 hb8
    clear hb8
    go_wp2_with fail
    refine (KL.out _).mono ?_
    rintro _ w9 ⟨rfl, hb9⟩
    go_wp2_with fail
    go_ret
    exact ⟨rfl, bmore hb0 hb9⟩
  have HL := Lib.hid hL
  clear hL
  have j0 := Bk.new w 23 #[.int .i64 s', .int .i64 q']
  go_enter Try.func7, Try.ntmps7
  go_wp2_with fail
  refine (rCheck_ok s' q' _ HL.out).mono ?_
  rintro _ w1 ⟨rfl, hb⟩
  replace hb0 := bmore hb0 hb; replace j0 := j0.next hb; clear hb
  have c0 := j0.cell 0 _ rfl
  have c1 := j0.cell 1 _ rfl
  go_wp2_with fail
  refine (own_any s' q' _).mono ?_
  rintro _ w2 ⟨rfl, hb⟩
  replace hb0 := bmore hb0 hb; clear hb c0 c1 j0
  go_wp2_with fail
  refine (new_ok s' q' _ HL.out).mono ?_
  rintro _ w3 ⟨p, b, rfl, hp, hbb, hP, hb⟩
  have S0 := Lib.hid (show St w w3 p b 0 s' q' (fun _ => Option.none) [] from ⟨hP, bmore hb0 hb, by have := hb0.size; omega, Own.none⟩)
  clear hb0 hb hp hbb hP
  go_wp2_with fail
  go_loopg [6] n (fun g s6 wr => ∃ (i k : Nat) (f : Int → Option Sh) (L : List Int), i + g = n ∧ s6 = .int .i64 i ∧ k ≤ i ∧ Hid (St w wr p b k s' q' f L))
  case atStart => exact ⟨0, 0, _, [], by omega, rfl, Nat.le_refl _, S0⟩
  case round =>
    clear S0
    obtain ⟨i, k, f, L, hig, rfl, hki, ST⟩ := hrel
    cases gk with
    | zero =>
      have hlt : ¬ ((i : Int) < (n : Int)) := by omega
      go_wp2_with fail
      refine (KL.out _).mono ?_
      rintro _ w9 ⟨rfl, hb9⟩
      go_wp2_with fail
      go_ret
      exact ⟨rfl, bmore ST.out.low hb9⟩
    | succ gn =>
      have i0 : (0 : Int) ≤ (i : Int) := by omega
      have i1 : (i : Int) < (n : Int) := by omega
      obtain ⟨ad, o, rfl, hwf, hblk, hat⟩ := HS.out.still (i := i) (by omega)
      obtain ⟨c0, c1, c2, c3, c4, c5, c6, c7, c8, c9, c10, c11, c12⟩ := hat wr ST.out.low
      clear hat hblk
      obtain ⟨od, on, f0, f1, f2, f3, or, op, ods, m0, m1, m2, m3⟩ := o
      dsimp only at c0 c1 c2 c3 c4 c5 c6 c7 c8 c9 c10 c11 c12 hwf
      have HW := Lib.hid hwf
      clear hwf
      have hba := (Below.refl _ wr).alloc (Nat.le_refl _) (.cells #[.int .i64 od, .int .i64 on, .int .u64 f0, .int .u64 f1, .int .u64 f2, .int .u64 f3, .int .i64 or, .int .i64 op, .int .i64 ods, .int .u64 m0, .int .u64 m1, .int .u64 m2, .int .u64 m3] 39)
      have k0 := Bk.new wr 39 #[.int .i64 od, .int .i64 on, .int .u64 f0, .int .u64 f1, .int .u64 f2, .int .u64 f3, .int .i64 or, .int .i64 op, .int .i64 ods, .int .u64 m0, .int .u64 m1, .int .u64 m2, .int .u64 m3]
      have hne := Lib.hid (show wr.heap.size ≠ b from by have := ST.out.pool.ltb; omega)
      have S1 := Lib.hid (ST.out.next hba)
      have HK0 := Lib.hid k0
      have HKI := Lib.hid hki
      have e0 := k0.cell 0 _ rfl
      have e1 := k0.cell 1 _ rfl
      have e6 := k0.cell 6 _ rfl
      have e7 := k0.cell 7 _ rfl
      have e8 := k0.cell 8 _ rfl
      clear hba k0 ST hki
      go_upto_if 45 with fail
      go_cut [] (fun wx => ∃ (k' : Nat) (g' : Int → Option Sh) (L' : List Int), k' ≤ i + 1 ∧ Hid (St w wx p b k' s' q' g' L') ∧ Bk wx wr.heap.size 39 #[.int .i64 od, .int .i64 on, .int .u64 f0, .int .u64 f1, .int .u64 f2, .int .u64 f3, .int .i64 or, .int .i64 op, .int .i64 ods, .int .u64 m0, .int .u64 m1, .int .u64 m2, .int .u64 m3])
      case first =>
        have hi40 : k < 1000000 := by have := HKI.out; omega
        by_cases hz : od = 0
        · have t0 : (od == 0) = true := by simpa using hz
          clear hz
          have KR := Lib.hid (res_any S1.out HL.out HW.out or op ods hi40 wr.heap.size _ HK0.out hne.out)
          clear S1 HK0 hi40
          go_wp2_with fail
          refine KR.out.mono ?_
          rintro _ w4 ⟨A1, R, ms, er, k', g', L', rfl, hM, hk', hS, hB, hcmp⟩
          have HM := Lib.hid hM
          have HK1 := Lib.hid hk'
          have HS1 := Lib.hid hS
          have HB := Lib.hid hB
          have HC := Lib.hid hcmp
          clear hM hk' hS hB hcmp KR e0 e1 e6 e7 e8 t0
          go_wp2_with fail
          go_loopg [11] R (fun g s11 wx => ∃ (j x0 x1 x2 x3 : Nat), j + g = R ∧ s11 = .int .i64 j ∧ Hid (orAll (ms.take j) = [x0, x1, x2, x3]) ∧ Bk wx w4.heap.size 40 #[.int .u64 x0, .int .u64 x1, .int .u64 x2, .int .u64 x3] ∧ Below w4.heap.size w4 wx)
          case atStart => exact ⟨0, 0, 0, 0, 0, by omega, rfl, Lib.hid rfl, Bk.new _ _ _, (Below.refl _ _).alloc (Nat.le_refl _) _⟩
          case round =>
            obtain ⟨j, x0, x1, x2, x3, hjR, rfl, HO, hA, hb⟩ := hrel
            have hx4 : Hid (Mk.W4 [x0, x1, x2, x3]) := Lib.hid (by rw [← HO.out]; exact orAll_W4 _ (fun m hm => HM.out.w4 m (List.mem_of_mem_take hm)))
            cases gk with
            | succ gR =>
              have p0 : (0 : Int) ≤ (j : Int) := by omega
              have p1 : (j : Int) < (R : Int) := by omega
              obtain ⟨gm, m, rfl, hm, hm4, hat⟩ := HM.out.still (j := j) (by omega)
              obtain ⟨y0, y1, y2, y3, hy⟩ : ∃ y0 y1 y2 y3, zw Nat.lor [x0, x1, x2, x3] m = [y0, y1, y2, y3] := ⟨_, _, _, _, Mk.len4 (lor_W4 hx4.out hm4).1⟩
              have HO2 := Lib.hid (show orAll (ms.take (j + 1)) = [y0, y1, y2, y3] from by rw [orAll_snoc ms j m hm, HO.out, hy])
              have KM := Lib.hid (show ∀ V, Calls Try.prog 22 #[.agg #[.int .u64 x0, .int .u64 x1, .int .u64 x2, .int .u64 x3], .agg #[.int .u64 (Mk.nth m 0 : Nat), .int .u64 (Mk.nth m 1 : Nat), .int .u64 (Mk.nth m 2 : Nat), .int .u64 (Mk.nth m 3 : Nat)]] V fun e w' => e = .returned (.agg #[.int .u64 y0, .int .u64 y1, .int .u64 y2, .int .u64 y3]) ∧ Below V.heap.size V w' from fun V => by
                have em := Mk.len4 hm4.1
                have := or_any [x0, x1, x2, x3] [Mk.nth m 0, Mk.nth m 1, Mk.nth m 2, Mk.nth m 3] V hx4.out (by rw [← em]; exact hm4)
                rw [← em, hy] at this
                rw [em] at this
                exact this)
              have HT := Lib.hid (And.intro hm hat)
              clear hm hat hy hm4 hx4 HO
              go_wp2_with fail
              refine region_tail 5 (by kernel_rfl) (by kernel_rfl) (fun w5 hw5 => ?_)
              have hA5 : Bk w5 w4.heap.size 40 #[.int .u64 x0, .int .u64 x1, .int .u64 x2, .int .u64 x3] := by rw [hw5.out]; exact hA
              have hb5 := below_hid hb hw5
              have hmc := (HT.out.2 w5 hb5).2
              have a0 := hmc j m HT.out.1 0 (by decide)
              have a1 := hmc j m HT.out.1 1 (by decide)
              have a2 := hmc j m HT.out.1 2 (by decide)
              have a3 := hmc j m HT.out.1 3 (by decide)
              simp only [Nat.add_zero] at a0
              have b0 := hA5.cell 0 _ rfl
              have b1 := hA5.cell 1 _ rfl
              have b2 := hA5.cell 2 _ rfl
              have b3 := hA5.cell 3 _ rfl
              clear hA hb hw5 hmc HT
              simp only [List.take_succ_cons, List.take_zero, List.drop_succ_cons, List.drop_zero]
              repeat still_step
              refine wpStill_nil ?_
              go_wp2_with fail
              refine (KM.out _).mono ?_
              rintro _ w6 ⟨rfl, hb6⟩
              have hA6 := hA5.next hb6
              replace hb5 := bmore hb5 hb6
              clear a0 a1 a2 a3 b0 b1 b2 b3 hA5 hb6 KM
              have b0 := hA6.cell 0 _ rfl
              have b1 := hA6.cell 1 _ rfl
              have b2 := hA6.cell 2 _ rfl
              have b3 := hA6.cell 3 _ rfl
              have z0 := hA6.frozen 0
              have z1 := hA6.frozen 1
              have z2 := hA6.frozen 2
              have z3 := hA6.frozen 3
              have HA7 := Lib.hid (hA6.set4 (.int .u64 y0) (.int .u64 y1) (.int .u64 y2) (.int .u64 y3))
              have HB7 := Lib.hid (below_set4 hb5 (Nat.le_refl _) (.int .u64 y0) (.int .u64 y1) (.int .u64 y2) (.int .u64 y3))
              have hR32 := HM.out.most
              go_wp2_with fail
              go_roundg gR
              case measure => omega
              case rel => exact ⟨j + 1, y0, y1, y2, y3, by omega, by go_num, HO2, HA7.out, HB7.out⟩
            | zero =>
              obtain rfl : j = R := by omega
              have HE := Lib.hid (show orAll ms = [x0, x1, x2, x3] from by rw [← HO.out, List.take_of_length_le (by have := HM.out.len; omega)])
              have S2 := Lib.hid (HS1.out.next hb)
              have hB2 := HB.out.next hb
              have e1 := hB2.cell 1 _ rfl
              have hlt : ¬ ((j : Int) < (j : Int)) := by omega
              have hok := (((g' on).getD Sh.none)).ok
              obtain ⟨z0, z1, z2, z3, hz⟩ : ∃ z0 z1 z2 z3, ((g' on).getD Sh.none).m = [z0, z1, z2, z3] := ⟨_, _, _, _, Mk.len4 hok.1⟩
              have KOf := Lib.hid (show Calls Try.prog 18 #[.pointer (some ⟨p, 0, none⟩), .int .i64 on] wr fun e w' => e = .returned (.tuple #[.agg #[.int .u64 z0, .int .u64 z1, .int .u64 z2, .int .u64 z3], .bool ((g' on).getD Sh.none).t]) ∧ Below wr.heap.size wr w' from by
                have := ofOwner_any S2.out.pool HW.out
                rw [hz] at this
                exact this)
              have HCZ := Lib.hid (show er = 0 → [z0, z1, z2, z3] = [x0, x1, x2, x3] ∧ ((g' on).getD Sh.none).t = false from fun e => ⟨by rw [← hz, (HC.out e).1, HE.out], (HC.out e).2⟩)
              clear hz hok HC
              generalize ((g' on).getD Sh.none).t = tt at KOf HCZ
              by_cases her : er = 0
              · have t1 : (er == 0) = true := by simpa using her
                obtain ⟨hq, rfl⟩ := HCZ.out her
                simp only [List.cons.injEq, and_true] at hq
                obtain ⟨rfl, rfl, rfl, rfl⟩ := hq
                clear her HCZ HO HE
                go_wp2_with fail
                refine KOf.out.mono ?_
                rintro _ w6 ⟨rfl, hb6⟩
                have S3 := Lib.hid ((S2.out.next hb6).next ((Below.refl _ w6).alloc (Nat.le_refl _) (.cells #[.int .u64 z0, .int .u64 z1, .int .u64 z2, .int .u64 z3] 40)))
                have hB3 := Lib.hid ((hB2.next hb6).next ((Below.refl _ w6).alloc (Nat.le_refl _) (.cells #[.int .u64 z0, .int .u64 z1, .int .u64 z2, .int .u64 z3] 40)))
                have hA3 := (hA.next hb6).next ((Below.refl _ w6).alloc (Nat.le_refl _) (.cells #[.int .u64 z0, .int .u64 z1, .int .u64 z2, .int .u64 z3] 40))
                have b0 := hA3.cell 0 _ rfl
                have b1 := hA3.cell 1 _ rfl
                have b2 := hA3.cell 2 _ rfl
                have b3 := hA3.cell 3 _ rfl
                clear hA3 hA hB2 e1 hb6
                go_wp2_with fail
                go_meet
                exact ⟨k', g', L', by have := HKI.out; have := HK1.out; omega, S3, hB3.out⟩
              · have t1 : (er == 0) = false := by simpa using her
                clear her HCZ HO HE
                go_wp2_with fail
                refine KOf.out.mono ?_
                rintro _ w6 ⟨rfl, hb6⟩
                have S3 := Lib.hid ((S2.out.next hb6).next ((Below.refl _ w6).alloc (Nat.le_refl _) (.cells #[.int .u64 z0, .int .u64 z1, .int .u64 z2, .int .u64 z3] 40)))
                have hB3 := Lib.hid ((hB2.next hb6).next ((Below.refl _ w6).alloc (Nat.le_refl _) (.cells #[.int .u64 z0, .int .u64 z1, .int .u64 z2, .int .u64 z3] 40)))
                clear hA hB2 e1 hb6
                go_wp2_with fail
                go_meet
                exact ⟨k', g', L', by have := HKI.out; have := HK1.out; omega, S3, hB3.out⟩
        · have t0 : (od == 0) = false := by simpa using hz
          clear hz
          have KR := Lib.hid (rel_any S1.out HW.out wr.heap.size _ HK0.out hne.out)
          clear S1 HK0 hi40
          go_wp2_with fail
          refine KR.out.mono ?_
          rintro _ w4 ⟨er, g', L', rfl, hS, hB⟩
          have HS1 := Lib.hid hS
          clear e0 e1 e6 e7 e8 t0 KR hS
          go_wp2_with fail
          go_meet
          exact ⟨k, g', L', by have := HKI.out; omega, HS1, hB⟩
      case rest =>
        clear S1 HK0 e0 e1 e6 e7 e8
        obtain ⟨k', g', L', hk', ST, hB⟩ := hcut
        have HK1 := Lib.hid hk'
        have HB := Lib.hid hB
        have KO := Lib.hid (owners_at ST.out.pool L' ST.out.own.up ST.out.own.has (by have := ST.out.own.len; omega))
        clear hk' hB
        go_wp2_with fail
        refine KO.out.mono ?_
        rintro _ w4 ⟨v, rfl, hrow, _, hb⟩
        obtain ⟨A1, k1, rfl⟩ := own_form hrow
        obtain ⟨n1, hn1⟩ : ∃ n1, n1 = L'.length := ⟨_, rfl⟩
        rw [← hn1] at hrow ⊢
        have HN1 := Lib.hid hn1
        have HZ := Lib.hid (zs_at hrow)
        have S4 := Lib.hid (ST.out.next hb)
        have HB4 := Lib.hid (HB.out.next hb)
        clear hrow hb hn1 KO ST HB
        go_wp2_with fail
        go_loopg [14, 16] n1 (fun g s14 s16 wx => ∃ j : Nat, j + g = n1 ∧ s16 = .int .i64 j ∧ s14 = .bool (decide (on ∈ L'.take j)) ∧ Below w4.heap.size w4 wx)
        case atStart => exact ⟨0, by omega, rfl, by simp, Below.refl _ _⟩
        case round =>
          obtain ⟨j, hj, rfl, rfl, hb⟩ := hrel
          have e1 := (HB4.out.next hb).cell 1 _ rfl
          cases gk with
          | succ g1 =>
            have p0 : (0 : Int) ≤ (j : Int) := by omega
            have p1 : (j : Int) < (n1 : Int) := by omega
            obtain ⟨gz, rfl, hgz, hat⟩ : ∃ gz, A1 = some ⟨gz, 0, none⟩ ∧ gz < w4.heap.size ∧ ∀ j z, j < n1 → L'[j]? = some z → w4.cell? ⟨gz, j, none⟩ = some (.int .i64 z) := by
              rcases HZ.out with e | e
              · omega
              · exact e
            obtain ⟨z, ez⟩ : ∃ z, L'[j]? = some z := ⟨_, List.getElem?_eq_getElem (by have := HN1.out; omega)⟩
            have a0 := (hb.cell (p := ⟨gz, j, none⟩) hgz).trans (hat j z (by omega) ez)
            have HX := Lib.hid (show decide (on ∈ L'.take (j + 1)) = (decide (on ∈ L'.take j) || (z == on)) from by
              rw [List.take_add_one, ez]
              by_cases e : z = on
              · subst e; simp
              · have e2 : ¬ on = z := fun h => e h.symm
                simp [e, e2])
            have hn41 : n1 ≤ 41 := by have h1 := S4.out.own.len; have h2 := HK1.out; have h3 := HN1.out; omega
            clear hat ez hgz
            generalize decide (on ∈ L'.take j) = fo at HX ⊢
            cases fo
            · go_wp2_with fail
              go_quiet (fail)
              go_wp2_with fail
              go_roundg g1
              case measure => omega
              case rel => exact ⟨j + 1, by omega, by go_num, by rw [HX.out]; rfl, below_drewN' hb _⟩
            · go_wp2_with fail
              go_quiet (fail)
              go_wp2_with fail
              go_roundg g1
              case measure => omega
              case rel => exact ⟨j + 1, by omega, by go_num, by rw [HX.out]; rfl, below_drewN' hb _⟩
          | zero =>
            obtain rfl : j = n1 := by omega
            have hlt : ¬ ((j : Int) < (j : Int)) := by omega
            have S5 := Lib.hid (S4.out.next hb)
            have hok := (((g' on).getD Sh.none)).ok
            obtain ⟨z0, z1, z2, z3, hz⟩ : ∃ z0 z1 z2 z3, ((g' on).getD Sh.none).m = [z0, z1, z2, z3] := ⟨_, _, _, _, Mk.len4 hok.1⟩
            have KOf := Lib.hid (show Calls Try.prog 18 #[.pointer (some ⟨p, 0, none⟩), .int .i64 on] wr fun e w' => e = .returned (.tuple #[.agg #[.int .u64 z0, .int .u64 z1, .int .u64 z2, .int .u64 z3], .bool ((g' on).getD Sh.none).t]) ∧ Below wr.heap.size wr w' from by
              have := ofOwner_any S5.out.pool HW.out
              rw [hz] at this
              exact this)
            have hf : decide (on ∈ L'.take j) = !((z0 : Int) == 0 && (z1 : Int) == 0 && (z2 : Int) == 0 && (z3 : Int) == 0) := by
              rw [List.take_of_length_le (by have := HN1.out; omega), S5.out.own.in_ on, hz]
              rw [Bool.eq_iff_iff]
              simp [Mk.zero]
              omega
            rw [hf]
            clear hz hok hf
            go_wp2_with fail
            refine KOf.out.mono ?_
            rintro _ w6 ⟨rfl, hb6⟩
            have S6 := Lib.hid ((S5.out.next hb6).next ((Below.refl _ w6).alloc (Nat.le_refl _) (.cells #[.int .u64 z0, .int .u64 z1, .int .u64 z2, .int .u64 z3] 40)))
            clear e1 hb6 hb
            go_wp2_with fail
            go_roundg gn
            case measure => omega
            case rel => exact ⟨i + 1, k', g', L', by omega, by go_num, HK1.out, S6⟩
end Go.Proofs.Ythmlibapjhmdbaa
