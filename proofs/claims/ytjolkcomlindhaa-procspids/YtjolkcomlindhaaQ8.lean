/- The law on Pids. -/
import Derived.Test.YtjolkcomlindhaaQ7
namespace Go.Proofs.Ytjolkcomlindhaa
open Go.RowKit Go.Shelf Go.Maps Go.Sort

set_option maxRecDepth 100000 in
set_option maxHeartbeats 8000000 in
theorem pids_law (A : Option Addr) (n cap : Nat) (os : List Oq) (w : World) (h : Sq w A n os) :
    Calls Try.prog 10 #[.slice A n cap] w fun e w' => e = .returned (.bool true) ∧ Below w.heap.size w w' := by
  obtain ⟨i0', hi, hz0, hz1, hz2⟩ := info_parts info61
  have KL := Lib.hid plive_any
  have KS := Lib.hid (small_any A n cap os 60 w h)
  have HS := Lib.hid h
  clear h
  cases hsm : smB os n 60
  · rw [hsm] at KS
    clear hsm
    go_enter Try.func10, Try.ntmps10
    go_wp2_with fail
    refine KS.out.mono ?_
    rintro _ w1 ⟨rfl, rfl⟩
    go_wp2_with fail
    refine (KL.out _).mono ?_
    rintro _ w9 ⟨rfl, hb9⟩
    go_wp2_with fail
    go_ret
    exact ⟨rfl, hb9⟩
  have HQ := Lib.hid (smB_true hsm)
  have hn60 : n ≤ 60 := by have := (smB_true hsm).2; omega
  rw [hsm] at KS
  clear hsm
  go_enter Try.func10, Try.ntmps10
  go_wp2_with fail
  refine KS.out.mono ?_
  rintro _ w1 ⟨rfl, rfl⟩
  go_wp2_with fail
  refine (tnew_any w).mono ?_
  rintro _ w1 ⟨p, rfl, hpl, hTb, hb⟩
  have L0 := Lib.hid (show Lt w w1 p none 0 0 [] from ⟨hTb, hb, hpl, (fun b e => by cases e), (fun x hx => by cases hx)⟩)
  have R0 := Lib.hid (show PI w w1 0 [] (.slice none 0 0) [] from ⟨World.ownsRow_nil _ _ _ _, rfl, (fun a ha => by cases ha), (fun x hx => by cases hx)⟩)
  clear hTb hb hpl
  go_wp2_with fail
  go_loopg [4, 5, 6] n (fun g s4 s5 s6 wr => ∃ (i : Nat) (m : Option Nat) (N : Int) (T aT : List Pr), i + g = n ∧ s6 = .int .i64 i ∧ s4 = .int .i64 N ∧ Hid (Lt w wr p m i N T) ∧ Hid (PI w wr N T s5 aT) ∧ Hid (T.length ≤ i ∧ N ≤ i))
  case atStart => exact ⟨0, none, 0, [], [], by omega, rfl, rfl, L0, R0, Lib.hid ⟨Nat.le_refl _, Int.le_refl _⟩⟩
  case round =>
    clear L0 R0
    obtain ⟨i, m, N, T, aT, hig, rfl, rfl, HL, HR, HK⟩ := hrel
    obtain ⟨wo, hwo⟩ : ∃ x, x = wr := ⟨_, rfl⟩
    subst hwo
    obtain ⟨A5, k5, rfl⟩ := own_form HR.out.row
    cases gk with
    | zero =>
      have hlt : ¬ ((i : Int) < (n : Int)) := by omega
      go_wp2_with fail
      refine (KL.out _).mono ?_
      rintro _ w9 ⟨rfl, hb9⟩
      go_wp2_with fail
      go_ret
      exact ⟨rfl, bmore HL.out.low hb9⟩
    | succ g =>
      have i0 : (0 : Int) ≤ (i : Int) := by omega
      have i1 : (i : Int) < (n : Int) := by omega
      obtain ⟨ad, o, rfl, hm, hblk, hat⟩ := HS.out.still (i := i) (by omega)
      have HO := Lib.hid (hat w (Below.refl _ _)).2
      have hl300 := HQ.out.1 o hm
      obtain ⟨⟨c0, c1, c2, c3, c4, c5, c6, c7, c8, c9, c10⟩, _⟩ := hat wo HL.out.low
      have low := below_alloc wo (.cells #[.int .i64 o.d, .int .i64 o.pid, .int .i64 o.n, .int .i64 o.p0, .int .i64 o.j, .int .i64 o.e, .int .i64 o.s, .int .i64 o.r, .slice o.A o.len o.cap, .int .i64 o.st, .int .i64 o.c] 63)
      have kb := Bk.new wo 63 #[.int .i64 o.d, .int .i64 o.pid, .int .i64 o.n, .int .i64 o.p0, .int .i64 o.j, .int .i64 o.e, .int .i64 o.s, .int .i64 o.r, .slice o.A o.len o.cap, .int .i64 o.st, .int .i64 o.c]
      have L1 := Lib.hid (HL.out.next low)
      have R1 := Lib.hid (HR.out.next low)
      have hTl := HK.out.1
      have hNl := HK.out.2
      have hbx := low.size
      by_cases h0 : o.d = 0
      · have K1 := Lib.hid (spawn_two L1.out HO.out hl300 (by omega) (by omega) (by omega))
        have hf0 := HL.out.tab.few
        clear hat hm hblk low HL HR
        obtain ⟨od, opid, on, op0, oj, oe, os', or, oA, olen, ocap, ozs, ost, oc⟩ := o
        dsimp only at c0 c1 c2 c3 c4 c5 c6 c7 c8 c9 c10 K1 kb h0 hl300
        have hlen := HO.out.len
        dsimp only at hlen
        subst h0 hlen
        go_upto_region 12 with fail
        clear c0 c1 c2 c3 c4 c5 c6 c7 c8 c9 c10
        generalize wo.heap.size = bx at *
        generalize wo.alloc (.cells #[.int .i64 0, .int .i64 opid, .int .i64 on, .int .i64 op0, .int .i64 oj, .int .i64 oe, .int .i64 os', .int .i64 or, .slice oA ozs.length ocap, .int .i64 ost, .int .i64 oc] 63) = W1 at *
        have e0 := kb.cell 0 _ rfl
        have e3 := kb.cell 3 _ rfl
        have e4 := kb.cell 4 _ rfl
        have e5 := kb.cell 5 _ rfl
        have e6 := kb.cell 6 _ rfl
        have e7 := kb.cell 7 _ rfl
        have e8 := kb.cell 8 _ rfl
        have e9 := kb.cell 9 _ rfl
        have e10 := kb.cell 10 _ rfl
        go_wp2_with fail
        refine K1.out.mono ?_
        rintro _ V3 (⟨rfl, hb⟩ | ⟨rfl, m', A', cap', b', hL, hTt⟩)
        · have L2 := Lib.hid ((L1.out.next hb).few (show i ≤ i + 1 by omega))
          have R2 := Lib.hid (R1.out.next hb)
          have HK2 := Lib.hid (show T.length ≤ i + 1 ∧ N ≤ ((i + 1 : Nat) : Int) from ⟨by omega, by omega⟩)
          clear e0 e3 e4 e5 e6 e7 e8 e9 e10 K1 hb
          go_wp2_with fail
          go_roundg g
          case measure => omega
          case rel => exact ⟨i + 1, m, N, T, aT, by omega, by go_num, rfl, L2, R2, HK2⟩
        · have hrow := row_tt R1.out.row L1.out.tab hTt
          have kb3 := kb.tt L1.out.tab hTt (by decide) (by decide)
          have hlT := R1.out.len
          have hs3 := hL.low.size
          have HLL := Lib.hid hL
          have HPN := Lib.hid (fun (W : World) (v6 : Value) (hown6 : W.ownsRow w.heap.size 61 8 v6 (aT.length + 1) (kRow aT ++ Pr.c8 ⟨op0, oj, oe, os', or, ost, oc, 0, oA, ocap, ozs, 0⟩)) => PI.new (x := ⟨N + 1, oj, oe, os', or, 0, 0, 0, A', cap', ozs, b'⟩) (T := T) hlT R1.out.ok (fun x hx => ⟨(L1.out.tab.pids x hx).1, R1.out.at_ x hx⟩) hown6 ⟨HO.out.ints, hl300⟩ rfl ⟨rfl, rfl, rfl, rfl, rfl⟩)
          have HKX := Lib.hid (show (T ++ [(⟨N + 1, oj, oe, os', or, 0, 0, 0, A', cap', ozs, b'⟩ : Pr)]).length ≤ i + 1 ∧ N + 1 ≤ ((i + 1 : Nat) : Int) from ⟨by simp; omega, by omega⟩)
          have hn0 := hf0.1
          have hn1 : N ≤ 60 := by omega
          have hlT2 : aT.length ≤ 60 := by omega
          clear e0 e3 e4 e5 e6 e7 e8 e9 e10 K1 hL hTt
          have e3 := kb3.cell 3 _ rfl
          have e4 := kb3.cell 4 _ rfl
          have e5 := kb3.cell 5 _ rfl
          have e6 := kb3.cell 6 _ rfl
          have e7 := kb3.cell 7 _ rfl
          have e8 := kb3.cell 8 _ rfl
          have e9 := kb3.cell 9 _ rfl
          have e10 := kb3.cell 10 _ rfl
          have HLT := Lib.hid hlT
          clear hlT kb kb3
          go_upto_region 20 with (at_builtin; refine wpList_append_own _ rfl _ _ 56 rfl w.heap.size 61 i0' (tkV 0 0 0 0 0 (.slice none 0 0) 0 0) 8 80 Try.underlying56 hi hz0 hz1 hz2 rfl (by decide) _ _ _ rfl (hrow.alloc _) _ 1 1 (Pr.c8 ⟨op0, oj, oe, os', or, ost, oc, 0, oA, ocap, ozs, 0⟩) rfl rfl (cells8_new V3 ⟨op0, oj, oe, os', or, ost, oc, 0, oA, ocap, ozs, 0⟩ _) (by simp [Value.oneCell']) (by unfold maxLen; omega) (by omega) (by simp; omega) ?_; intro v6 w6 hown6 hgrow6 _; have LX := Lib.hid (HLL.out.app hrow hgrow6); have RX := Lib.hid (HPN.out w6 v6 hown6); obtain ⟨A6, k6, rfl⟩ := own_form hown6)
          clear hrow hgrow6 hown6 e3 e4 e5 e6 e7 e8 e9 e10 HPN HLL HLT R1 L1 hs3
          have hla0 : aT.length + 1 ≤ 61 := by omega
          generalize (T ++ [(⟨N + 1, oj, oe, os', or, 0, 0, 0, A', cap', ozs, b'⟩ : Pr)]) = TX at *
          generalize (aT ++ [(⟨op0, oj, oe, os', or, ost, oc, 0, oA, ocap, ozs, 0⟩ : Pr)]) = aX at *
          generalize aT.length + 1 = la at *
          generalize N + 1 = NX at *
          obtain ⟨_, _, e6⟩ := own_form RX.out.row
          have hla : la = aX.length := by injection e6
          clear e6
          subst hla
          obtain ⟨wX, hwX⟩ : ∃ x, x = w6 := ⟨_, rfl⟩
          subst hwX
          go_wp2_with fail
          refine (list_any LX.out.tab (by have := HKX.out.1; omega)).mono ?_
          rintro _ w7 ⟨v1, Q1, rfl, ht1, hb⟩
          obtain ⟨A1, k1, rfl⟩ := own_form ht1.row
          have L7 := Lib.hid (LX.out.next hb)
          have HPI := Lib.hid (RX.out.next hb)
          have hl1 := ht1.len
          have HTK := Lib.hid (And.intro (ht1.tks LX.out.tab.few_cs) ht1.same)
          have HPD := Lib.hid (And.intro LX.out.tab.pids LX.out.tab.up)
          rw [hl1]
          obtain ⟨n1, hn1⟩ : ∃ n1, n1 = TX.length := ⟨_, rfl⟩
          rw [← hn1] at hl1 ⊢
          have HN1 := Lib.hid hn1
          have HL1 := Lib.hid hl1
          have hn61 : n1 ≤ 61 := by have := HKX.out.1; omega
          clear ht1 hb hl1 hn1 LX RX
          go_wp2_with fail
          go_loopg [11] n1 (fun g s11 wx => ∃ j : Nat, j + g = n1 ∧ s11 = .int .i64 j ∧ Below w7.heap.size w7 wx)
          case atStart => exact ⟨0, by omega, rfl, Below.refl _ _⟩
          case round =>
            obtain ⟨j, hjg, rfl, hb⟩ := hrel
            cases gk with
            | zero =>
              obtain rfl : j = n1 := by omega
              have hlt3 : ¬ ((j : Int) < (j : Int)) := by omega
              have L8 := Lib.hid (L7.out.next hb)
              have R8 := Lib.hid (HPI.out.next hb)
              go_wp2_with fail
              go_roundg g
              case measure => omega
              case rel => exact ⟨i + 1, m', NX, TX, aX, by omega, by go_num, rfl, L8, R8, HKX⟩
            | succ g2 =>
              have p0 : (0 : Int) ≤ (j : Int) := by omega
              have p1 : (j : Int) < (n1 : Int) := by omega
              have hjT : j < TX.length := by rw [← HN1.out]; omega
              have hjQ : j < Q1.length := by rw [HL1.out]; omega
              have ey := List.getElem?_eq_getElem hjT
              have ez := List.getElem?_eq_getElem hjQ
              have hym : TX[j] ∈ TX := List.getElem_mem _
              have hzm : Q1[j] ∈ Q1 := List.getElem_mem _
              have hzy := HTK.out.2 j _ _ ez ey
              have HZ := Lib.hid (fun (W : World) (hW : Below w7.heap.size w7 W) => (HTK.out.1.next hW).at_ j _ ez)
              have CZ := Lib.hid (fun (W : World) (hW : Below w7.heap.size w7 W) => And.intro ((HTK.out.1.next hW).cs _ hzm) (HTK.out.1.few _ hzm))
              have hpid := HPD.out.1 _ hym
              obtain ⟨a, ha, hka⟩ := HPI.out.at_ _ hym
              obtain ⟨t, ht⟩ : ∃ t : Nat, TX[j].pid = (t : Int) + 1 := ⟨(TX[j].pid - 1).toNat, by omega⟩
              have ht2 : (TX[j].pid - 1).toNat = t := by omega
              rw [ht2] at ha
              have htl := (List.getElem?_eq_some_iff.1 ha).1
              have ham : a ∈ aX := List.mem_of_getElem? ha
              have hzp : Q1[j].pid = (t : Int) + 1 := hzy.1.trans ht
              have HA := Lib.hid (fun (W : World) (hW : Below w7.heap.size w7 W) => tk_at (own_next HPI.out.row hW) ha)
              have HAI := Lib.hid (fun (W : World) (hW : Below w7.heap.size w7 W) => And.intro ((HPI.out.ok a ham).1.next (bmore L7.out.low hW)) (HPI.out.ok a ham).2)
              have hS := Lib.hid (show sameT ⟨(t : Int) + 1, a.j, a.e, a.s, a.r, Q1[j].st, Q1[j].code, 0, a.A, a.cap, a.cs, 0⟩ Q1[j] from ⟨hzp.symm, hka.1.trans hzy.2.1.symm, hka.2.1.trans hzy.2.2.1.symm, hka.2.2.1.trans hzy.2.2.2.1.symm, hka.2.2.2.1.trans hzy.2.2.2.2.1.symm, rfl, rfl, hka.2.2.2.2.trans hzy.2.2.2.2.2.2.2.symm⟩)
              have HP2 := Lib.hid (fun c (hc : c < j) => show ∃ z2, Q1[c]? = some z2 ∧ z2.pid < (t : Int) + 1 from by
                have hcT : c < TX.length := by omega
                have hcQ : c < Q1.length := by omega
                have e1 := List.getElem?_eq_getElem hcT
                have e2 := List.getElem?_eq_getElem hcQ
                refine ⟨_, e2, ?_⟩
                rw [(HTK.out.2 c _ _ e2 e1).1, ← ht]
                exact List.pairwise_iff_getElem.1 HPD.out.2 c j hcT hjT hc)
              have htl2 : t < aX.length := htl
              have htN : (t : Int) + 1 ≤ NX := by omega
              have ht61 : t ≤ 61 := by omega
              have t0 : (0 : Int) ≤ (t : Int) := by omega
              have t1 : (t : Int) < (aX.length : Int) := by omega
              clear hzy hka hpid ht ht2 ey ham ha hzm hym
              have hzi := Lib.hid ez
              obtain ⟨z, hz⟩ : ∃ z, z = Q1[j] := ⟨_, rfl⟩
              rw [← hz] at HZ CZ hzp hS hzi
              clear hz ez
              obtain ⟨ad, rfl, r1, u1⟩ := HZ.out wr hb
              obtain ⟨a0, _⟩ := u1.in_ (by rw [block_add]; exact r1)
              simp only [hzp] at a0
              have f1 : decide ((t : Int) + 1 < 1) = false := by simp; omega
              have f2 : decide (NX < (t : Int) + 1) = false := by simp; omega
              have hIn := Mo.inNonempty wr.heap.size wr
              clear u1
              go_upto_region 24 with fail
              go_cut [97] (fun s97 wx => s97 = .bool false ∧ Below w7.heap.size w7 wx)
              case first =>
                by_cases hj : j = 0
                · have f3 : decide ((0 : Int) < (j : Int)) = false := by simp; omega
                  have f4 : decide (0 < j) = false := by simp; omega
                  clear hj
                  refine Mo.region_in wr.heap.size (by kernel_rfl) (by kernel_rfl) ?_
                  repeat (go_big_quiet_step (fail))
                  refine wpQuiet_nil ?_
                  intro wn hbn
                  go_wp2_with fail
                  go_meet
                  exact ⟨rfl, bmore hb hbn⟩
                · obtain ⟨c, hc⟩ : ∃ c : Nat, (j : Int) - 1 = (c : Int) := ⟨j - 1, by omega⟩
                  obtain ⟨z2, ez2, hlt2⟩ := HP2.out c (by omega)
                  obtain ⟨ad', e', r2, u2⟩ := (HTK.out.1.next hb).at_ c _ ez2
                  cases e'
                  obtain ⟨b0, _⟩ := u2.in_ (by rw [block_add]; exact r2)
                  have f3 : decide ((0 : Int) < (j : Int)) = true := by simp; omega
                  have f4 : decide (0 < j) = true := by simp; omega
                  have f5 : decide ((t : Int) + 1 ≤ z2.pid) = false := by simp; omega
                  have hc61 : c ≤ 61 := by omega
                  have hw : IntKind.i64.wrap (c : Int) = (c : Int) := IntWalk.i64_in _ (by omega)
                  have k0 : (0 : Int) ≤ (c : Int) := by omega
                  have k1 : (c : Int) < (n1 : Int) := by omega
                  have hj0 : 0 < j := by omega
                  clear hj u2 ez2
                  refine Mo.region_in wr.heap.size (by kernel_rfl) (by kernel_rfl) ?_
                  repeat (go_big_quiet_step (fail))
                  refine wpQuiet_nil ?_
                  intro wn hbn
                  go_wp2_with fail
                  go_meet
                  exact ⟨rfl, bmore hb hbn⟩
              case rest =>
                obtain ⟨rfl, hbc⟩ := hcut
                clear a0 f1 f2 r1 hIn hb
                obtain ⟨w8, hw8⟩ : ∃ x, x = wc := ⟨_, rfl⟩
                subst hw8
                obtain ⟨ad', e', r1, u1⟩ := HZ.out w8 hbc
                cases e'
                have z0 := u1.c0
                rw [hzp] at z0
                obtain ⟨ad5, rfl, r5, u5⟩ := HA.out w8 hbc
                obtain ⟨a0, a1, a2, a3, a4, a5, a6, a7⟩ := u5
                go_upto_region 27 with fail
                clear a0 a1 a2 a3 a4 a5 a6 a7 z0 r1 r5 u1
                have la := below_alloc w8 (.cells (tkC a.pid a.j a.e a.s a.r (.slice a.A a.cs.length a.cap) a.st a.code) 61)
                have kz := Bk.new w8 61 (tkC a.pid a.j a.e a.s a.r (.slice a.A a.cs.length a.cap) a.st a.code)
                have B0 := bmore hbc la
                have hzb := hbc.size
                clear la
                generalize w8.heap.size = bz at *
                generalize w8.alloc (.cells (tkC a.pid a.j a.e a.s a.r (.slice a.A a.cs.length a.cap) a.st a.code) 61) = Wa at *
                have kz1 := kz.set 0 (.int .i64 ((t : Int) + 1))
                have kz2 := kz1.set 6 (.int .i64 z.st)
                have kz3 := kz2.set 7 (.int .i64 z.code)
                have B1 := B0.setCell (p := ⟨bz, 0, none⟩) (show w7.heap.size ≤ bz from hzb) (.int .i64 ((t : Int) + 1))
                have B2 := B1.setCell (p := ⟨bz, 6, none⟩) (show w7.heap.size ≤ bz from hzb) (.int .i64 z.st)
                have B3 := B2.setCell (p := ⟨bz, 7, none⟩) (show w7.heap.size ≤ bz from hzb) (.int .i64 z.code)
                obtain ⟨ad', e', r1, u0⟩ := HZ.out _ B0
                cases e'
                obtain ⟨ad', e', r2, u1⟩ := HZ.out _ B1
                cases e'
                obtain ⟨ad', e', r3, u2⟩ := HZ.out _ B2
                cases e'
                obtain ⟨ad', e', r4, u3⟩ := HZ.out _ B3
                cases e'
                have y0 := u0.c0
                rw [hzp] at y0
                have y6 := u1.c6
                have y7 := u2.c7
                have d0 := kz.cell 0 _ rfl
                have d6 := kz1.cell 6 _ rfl
                have d7 := kz2.cell 7 _ rfl
                have q0 := kz.frozen 0
                have q6 := kz1.frozen 6
                have q7 := kz2.frozen 7
                clear u0 u1 u2 kz kz1 kz2 r1 r2 r3
                go_upto_region 30 with fail
                clear y0 y6 y7 d0 d6 d7 q0 q6 q7 B0 B1 B2
                have hk3 : Bk (((Wa.setCell ⟨bz, 0, none⟩ (.int .i64 ((t : Int) + 1))).setCell ⟨bz, 6, none⟩ (.int .i64 z.st)).setCell ⟨bz, 7, none⟩ (.int .i64 z.code)) bz 61 (tkC ((t : Int) + 1) a.j a.e a.s a.r (.slice a.A a.cs.length a.cap) z.st z.code) := kz3
                clear kz3
                generalize ((Wa.setCell ⟨bz, 0, none⟩ (.int .i64 ((t : Int) + 1))).setCell ⟨bz, 6, none⟩ (.int .i64 z.st)).setCell ⟨bz, 7, none⟩ (.int .i64 z.code) = W3 at *
                obtain ⟨a0, a1, a2, a3, a4, a5, a6, a7⟩ := u3.in_ (by rw [block_add]; exact r4)
                have b0 := Mo.In.cell (B := W3.heap.size) (p := ⟨bz, 0, none⟩) hk3.lt (hk3.cell 0 _ rfl)
                have b1 := Mo.In.cell (B := W3.heap.size) (p := ⟨bz, 1, none⟩) hk3.lt (hk3.cell 1 _ rfl)
                have b2 := Mo.In.cell (B := W3.heap.size) (p := ⟨bz, 2, none⟩) hk3.lt (hk3.cell 2 _ rfl)
                have b3 := Mo.In.cell (B := W3.heap.size) (p := ⟨bz, 3, none⟩) hk3.lt (hk3.cell 3 _ rfl)
                have b4 := Mo.In.cell (B := W3.heap.size) (p := ⟨bz, 4, none⟩) hk3.lt (hk3.cell 4 _ rfl)
                have b5 := Mo.In.cell (B := W3.heap.size) (p := ⟨bz, 5, none⟩) hk3.lt (hk3.cell 5 _ rfl)
                have b6 := Mo.In.cell (B := W3.heap.size) (p := ⟨bz, 6, none⟩) hk3.lt (hk3.cell 6 _ rfl)
                have b7 := Mo.In.cell (B := W3.heap.size) (p := ⟨bz, 7, none⟩) hk3.lt (hk3.cell 7 _ rfl)
                have SM := Lib.hid (fun n : Mo.In W3.heap.size W3 => one_same hS.out n.val (HAI.out n.val (bmore B3 n.ok)).1 (CZ.out n.val (bmore B3 n.ok)).1 (by have := (HAI.out W3 B3).2; show a.cs.length ≤ 1000; omega))
                have hIn := Mo.inNonempty W3.heap.size W3
                clear u3 hk3 r4 hzp
                refine Mo.region_in W3.heap.size (by kernel_rfl) (by kernel_rfl) ?_
                repeat (go_big_quiet_step (first | (go_at_call 38; with_reducible exact Mo.Calls.in_of (Nat.le_refl _) (SM.out _))))
                refine wpQuiet_nil ?_
                intro wn hbn
                have hb := bmore B3 hbn
                clear a0 a1 a2 a3 a4 a5 a6 a7 b0 b1 b2 b3 b4 b5 b6 b7 B3 hbn SM
                go_wp2_with fail
                go_roundg g2
                case measure => omega
                case rel => exact ⟨j + 1, by omega, by go_num, hb⟩
      · have hd0 : (o.d == 0) = false := by simpa using h0
        have hN0 := h0
        have KD := Lib.hid (does_all w (wo.alloc (.cells #[.int .i64 o.d, .int .i64 o.pid, .int .i64 o.n, .int .i64 o.p0, .int .i64 o.j, .int .i64 o.e, .int .i64 o.s, .int .i64 o.r, .slice o.A o.len o.cap, .int .i64 o.st, .int .i64 o.c] 63)) p i m N T o L1.out HO.out hl300 (by omega) (by omega) (by omega))
        clear hat hm hblk low HL HR
        obtain ⟨od, opid, on, op0, oj, oe, os', or, oA, olen, ocap, ozs, ost, oc⟩ := o
        dsimp only [Oq.v] at c0 c1 c2 c3 c4 c5 c6 c7 c8 c9 c10 KD kb h0 hl300 hd0 hN0
        go_upto_region 12 with fail
        clear c0 c1 c2 c3 c4 c5 c6 c7 c8 c9 c10
        generalize wo.heap.size = bx at *
        generalize wo.alloc (.cells #[.int .i64 od, .int .i64 opid, .int .i64 on, .int .i64 op0, .int .i64 oj, .int .i64 oe, .int .i64 os', .int .i64 or, .slice oA olen ocap, .int .i64 ost, .int .i64 oc] 63) = W1 at *
        have e := kb.cell 0 _ rfl
        have kb2 := kb.next (below_alloc W1 (.cells dt0 58))
        have e0 := kb2.cell 0 _ rfl
        have e1 := kb2.cell 1 _ rfl
        have e2 := kb2.cell 2 _ rfl
        have e3 := kb2.cell 3 _ rfl
        have e4 := kb2.cell 4 _ rfl
        have e5 := kb2.cell 5 _ rfl
        have e6 := kb2.cell 6 _ rfl
        have e7 := kb2.cell 7 _ rfl
        have e8 := kb2.cell 8 _ rfl
        have e9 := kb2.cell 9 _ rfl
        have e10 := kb2.cell 10 _ rfl
        clear kb kb2
        go_wp2_with fail
        refine KD.out.mono ?_
        rintro _ V3 ⟨⟨b, rfl⟩, m', N', TX, hL, hD, hTt⟩
        obtain ⟨hNN, _⟩ := hD.kin hN0
        subst hNN
        have LX := Lib.hid hL
        have RX := Lib.hid (R1.out.dd L1.out.tab hTt hD hN0)
        have HKX := Lib.hid (show TX.length ≤ i + 1 ∧ N' ≤ ((i + 1 : Nat) : Int) from by have := hD.len; constructor <;> omega)
        have hla0 : aT.length + 1 ≤ 61 := by have := R1.out.len; omega
        clear e e0 e1 e2 e3 e4 e5 e6 e7 e8 e9 e10 KD hL hD hTt L1 R1
        obtain ⟨aX, haX⟩ : ∃ x, x = aT := ⟨_, rfl⟩
        subst haX
        obtain ⟨NX, hNX⟩ : ∃ x, x = N' := ⟨_, rfl⟩
        subst hNX
        obtain ⟨wX, hwX⟩ : ∃ x, x = V3 := ⟨_, rfl⟩
        subst hwX
        go_wp2_with fail
        refine (list_any LX.out.tab (by have := HKX.out.1; omega)).mono ?_
        rintro _ w7 ⟨v1, Q1, rfl, ht1, hb⟩
        obtain ⟨A1, k1, rfl⟩ := own_form ht1.row
        have L7 := Lib.hid (LX.out.next hb)
        have HPI := Lib.hid (RX.out.next hb)
        have hl1 := ht1.len
        have HTK := Lib.hid (And.intro (ht1.tks LX.out.tab.few_cs) ht1.same)
        have HPD := Lib.hid (And.intro LX.out.tab.pids LX.out.tab.up)
        rw [hl1]
        obtain ⟨n1, hn1⟩ : ∃ n1, n1 = TX.length := ⟨_, rfl⟩
        rw [← hn1] at hl1 ⊢
        have HN1 := Lib.hid hn1
        have HL1 := Lib.hid hl1
        have hn61 : n1 ≤ 61 := by have := HKX.out.1; omega
        clear ht1 hb hl1 hn1 LX RX
        go_wp2_with fail
        go_loopg [11] n1 (fun g s11 wx => ∃ j : Nat, j + g = n1 ∧ s11 = .int .i64 j ∧ Below w7.heap.size w7 wx)
        case atStart => exact ⟨0, by omega, rfl, Below.refl _ _⟩
        case round =>
          obtain ⟨j, hjg, rfl, hb⟩ := hrel
          cases gk with
          | zero =>
            obtain rfl : j = n1 := by omega
            have hlt3 : ¬ ((j : Int) < (j : Int)) := by omega
            have L8 := Lib.hid (L7.out.next hb)
            have R8 := Lib.hid (HPI.out.next hb)
            go_wp2_with fail
            go_roundg g
            case measure => omega
            case rel => exact ⟨i + 1, m', NX, TX, aX, by omega, by go_num, rfl, L8, R8, HKX⟩
          | succ g2 =>
            have p0 : (0 : Int) ≤ (j : Int) := by omega
            have p1 : (j : Int) < (n1 : Int) := by omega
            have hjT : j < TX.length := by rw [← HN1.out]; omega
            have hjQ : j < Q1.length := by rw [HL1.out]; omega
            have ey := List.getElem?_eq_getElem hjT
            have ez := List.getElem?_eq_getElem hjQ
            have hym : TX[j] ∈ TX := List.getElem_mem _
            have hzm : Q1[j] ∈ Q1 := List.getElem_mem _
            have hzy := HTK.out.2 j _ _ ez ey
            have HZ := Lib.hid (fun (W : World) (hW : Below w7.heap.size w7 W) => (HTK.out.1.next hW).at_ j _ ez)
            have CZ := Lib.hid (fun (W : World) (hW : Below w7.heap.size w7 W) => And.intro ((HTK.out.1.next hW).cs _ hzm) (HTK.out.1.few _ hzm))
            have hpid := HPD.out.1 _ hym
            obtain ⟨a, ha, hka⟩ := HPI.out.at_ _ hym
            obtain ⟨t, ht⟩ : ∃ t : Nat, TX[j].pid = (t : Int) + 1 := ⟨(TX[j].pid - 1).toNat, by omega⟩
            have ht2 : (TX[j].pid - 1).toNat = t := by omega
            rw [ht2] at ha
            have htl := (List.getElem?_eq_some_iff.1 ha).1
            have ham : a ∈ aX := List.mem_of_getElem? ha
            have hzp : Q1[j].pid = (t : Int) + 1 := hzy.1.trans ht
            have HA := Lib.hid (fun (W : World) (hW : Below w7.heap.size w7 W) => tk_at (own_next HPI.out.row hW) ha)
            have HAI := Lib.hid (fun (W : World) (hW : Below w7.heap.size w7 W) => And.intro ((HPI.out.ok a ham).1.next (bmore L7.out.low hW)) (HPI.out.ok a ham).2)
            have hS := Lib.hid (show sameT ⟨(t : Int) + 1, a.j, a.e, a.s, a.r, Q1[j].st, Q1[j].code, 0, a.A, a.cap, a.cs, 0⟩ Q1[j] from ⟨hzp.symm, hka.1.trans hzy.2.1.symm, hka.2.1.trans hzy.2.2.1.symm, hka.2.2.1.trans hzy.2.2.2.1.symm, hka.2.2.2.1.trans hzy.2.2.2.2.1.symm, rfl, rfl, hka.2.2.2.2.trans hzy.2.2.2.2.2.2.2.symm⟩)
            have HP2 := Lib.hid (fun c (hc : c < j) => show ∃ z2, Q1[c]? = some z2 ∧ z2.pid < (t : Int) + 1 from by
              have hcT : c < TX.length := by omega
              have hcQ : c < Q1.length := by omega
              have e1 := List.getElem?_eq_getElem hcT
              have e2 := List.getElem?_eq_getElem hcQ
              refine ⟨_, e2, ?_⟩
              rw [(HTK.out.2 c _ _ e2 e1).1, ← ht]
              exact List.pairwise_iff_getElem.1 HPD.out.2 c j hcT hjT hc)
            have htl2 : t < aX.length := htl
            have htN : (t : Int) + 1 ≤ NX := by omega
            have ht61 : t ≤ 61 := by omega
            have t0 : (0 : Int) ≤ (t : Int) := by omega
            have t1 : (t : Int) < (aX.length : Int) := by omega
            clear hzy hka hpid ht ht2 ey ham ha hzm hym
            have hzi := Lib.hid ez
            obtain ⟨z, hz⟩ : ∃ z, z = Q1[j] := ⟨_, rfl⟩
            rw [← hz] at HZ CZ hzp hS hzi
            clear hz ez
            obtain ⟨ad, rfl, r1, u1⟩ := HZ.out wr hb
            obtain ⟨a0, _⟩ := u1.in_ (by rw [block_add]; exact r1)
            simp only [hzp] at a0
            have f1 : decide ((t : Int) + 1 < 1) = false := by simp; omega
            have f2 : decide (NX < (t : Int) + 1) = false := by simp; omega
            have hIn := Mo.inNonempty wr.heap.size wr
            clear u1
            go_upto_region 24 with fail
            go_cut [97] (fun s97 wx => s97 = .bool false ∧ Below w7.heap.size w7 wx)
            case first =>
              by_cases hj : j = 0
              · have f3 : decide ((0 : Int) < (j : Int)) = false := by simp; omega
                have f4 : decide (0 < j) = false := by simp; omega
                clear hj
                refine Mo.region_in wr.heap.size (by kernel_rfl) (by kernel_rfl) ?_
                repeat (go_big_quiet_step (fail))
                refine wpQuiet_nil ?_
                intro wn hbn
                go_wp2_with fail
                go_meet
                exact ⟨rfl, bmore hb hbn⟩
              · obtain ⟨c, hc⟩ : ∃ c : Nat, (j : Int) - 1 = (c : Int) := ⟨j - 1, by omega⟩
                obtain ⟨z2, ez2, hlt2⟩ := HP2.out c (by omega)
                obtain ⟨ad', e', r2, u2⟩ := (HTK.out.1.next hb).at_ c _ ez2
                cases e'
                obtain ⟨b0, _⟩ := u2.in_ (by rw [block_add]; exact r2)
                have f3 : decide ((0 : Int) < (j : Int)) = true := by simp; omega
                have f4 : decide (0 < j) = true := by simp; omega
                have f5 : decide ((t : Int) + 1 ≤ z2.pid) = false := by simp; omega
                have hc61 : c ≤ 61 := by omega
                have hw : IntKind.i64.wrap (c : Int) = (c : Int) := IntWalk.i64_in _ (by omega)
                have k0 : (0 : Int) ≤ (c : Int) := by omega
                have k1 : (c : Int) < (n1 : Int) := by omega
                have hj0 : 0 < j := by omega
                clear hj u2 ez2
                refine Mo.region_in wr.heap.size (by kernel_rfl) (by kernel_rfl) ?_
                repeat (go_big_quiet_step (fail))
                refine wpQuiet_nil ?_
                intro wn hbn
                go_wp2_with fail
                go_meet
                exact ⟨rfl, bmore hb hbn⟩
            case rest =>
              obtain ⟨rfl, hbc⟩ := hcut
              clear a0 f1 f2 r1 hIn hb
              obtain ⟨w8, hw8⟩ : ∃ x, x = wc := ⟨_, rfl⟩
              subst hw8
              obtain ⟨ad', e', r1, u1⟩ := HZ.out w8 hbc
              cases e'
              have z0 := u1.c0
              rw [hzp] at z0
              obtain ⟨ad5, rfl, r5, u5⟩ := HA.out w8 hbc
              obtain ⟨a0, a1, a2, a3, a4, a5, a6, a7⟩ := u5
              go_upto_region 27 with fail
              clear a0 a1 a2 a3 a4 a5 a6 a7 z0 r1 r5 u1
              have la := below_alloc w8 (.cells (tkC a.pid a.j a.e a.s a.r (.slice a.A a.cs.length a.cap) a.st a.code) 61)
              have kz := Bk.new w8 61 (tkC a.pid a.j a.e a.s a.r (.slice a.A a.cs.length a.cap) a.st a.code)
              have B0 := bmore hbc la
              have hzb := hbc.size
              clear la
              generalize w8.heap.size = bz at *
              generalize w8.alloc (.cells (tkC a.pid a.j a.e a.s a.r (.slice a.A a.cs.length a.cap) a.st a.code) 61) = Wa at *
              have kz1 := kz.set 0 (.int .i64 ((t : Int) + 1))
              have kz2 := kz1.set 6 (.int .i64 z.st)
              have kz3 := kz2.set 7 (.int .i64 z.code)
              have B1 := B0.setCell (p := ⟨bz, 0, none⟩) (show w7.heap.size ≤ bz from hzb) (.int .i64 ((t : Int) + 1))
              have B2 := B1.setCell (p := ⟨bz, 6, none⟩) (show w7.heap.size ≤ bz from hzb) (.int .i64 z.st)
              have B3 := B2.setCell (p := ⟨bz, 7, none⟩) (show w7.heap.size ≤ bz from hzb) (.int .i64 z.code)
              obtain ⟨ad', e', r1, u0⟩ := HZ.out _ B0
              cases e'
              obtain ⟨ad', e', r2, u1⟩ := HZ.out _ B1
              cases e'
              obtain ⟨ad', e', r3, u2⟩ := HZ.out _ B2
              cases e'
              obtain ⟨ad', e', r4, u3⟩ := HZ.out _ B3
              cases e'
              have y0 := u0.c0
              rw [hzp] at y0
              have y6 := u1.c6
              have y7 := u2.c7
              have d0 := kz.cell 0 _ rfl
              have d6 := kz1.cell 6 _ rfl
              have d7 := kz2.cell 7 _ rfl
              have q0 := kz.frozen 0
              have q6 := kz1.frozen 6
              have q7 := kz2.frozen 7
              clear u0 u1 u2 kz kz1 kz2 r1 r2 r3
              go_upto_region 30 with fail
              clear y0 y6 y7 d0 d6 d7 q0 q6 q7 B0 B1 B2
              have hk3 : Bk (((Wa.setCell ⟨bz, 0, none⟩ (.int .i64 ((t : Int) + 1))).setCell ⟨bz, 6, none⟩ (.int .i64 z.st)).setCell ⟨bz, 7, none⟩ (.int .i64 z.code)) bz 61 (tkC ((t : Int) + 1) a.j a.e a.s a.r (.slice a.A a.cs.length a.cap) z.st z.code) := kz3
              clear kz3
              generalize ((Wa.setCell ⟨bz, 0, none⟩ (.int .i64 ((t : Int) + 1))).setCell ⟨bz, 6, none⟩ (.int .i64 z.st)).setCell ⟨bz, 7, none⟩ (.int .i64 z.code) = W3 at *
              obtain ⟨a0, a1, a2, a3, a4, a5, a6, a7⟩ := u3.in_ (by rw [block_add]; exact r4)
              have b0 := Mo.In.cell (B := W3.heap.size) (p := ⟨bz, 0, none⟩) hk3.lt (hk3.cell 0 _ rfl)
              have b1 := Mo.In.cell (B := W3.heap.size) (p := ⟨bz, 1, none⟩) hk3.lt (hk3.cell 1 _ rfl)
              have b2 := Mo.In.cell (B := W3.heap.size) (p := ⟨bz, 2, none⟩) hk3.lt (hk3.cell 2 _ rfl)
              have b3 := Mo.In.cell (B := W3.heap.size) (p := ⟨bz, 3, none⟩) hk3.lt (hk3.cell 3 _ rfl)
              have b4 := Mo.In.cell (B := W3.heap.size) (p := ⟨bz, 4, none⟩) hk3.lt (hk3.cell 4 _ rfl)
              have b5 := Mo.In.cell (B := W3.heap.size) (p := ⟨bz, 5, none⟩) hk3.lt (hk3.cell 5 _ rfl)
              have b6 := Mo.In.cell (B := W3.heap.size) (p := ⟨bz, 6, none⟩) hk3.lt (hk3.cell 6 _ rfl)
              have b7 := Mo.In.cell (B := W3.heap.size) (p := ⟨bz, 7, none⟩) hk3.lt (hk3.cell 7 _ rfl)
              have SM := Lib.hid (fun n : Mo.In W3.heap.size W3 => one_same hS.out n.val (HAI.out n.val (bmore B3 n.ok)).1 (CZ.out n.val (bmore B3 n.ok)).1 (by have := (HAI.out W3 B3).2; show a.cs.length ≤ 1000; omega))
              have hIn := Mo.inNonempty W3.heap.size W3
              clear u3 hk3 r4 hzp
              refine Mo.region_in W3.heap.size (by kernel_rfl) (by kernel_rfl) ?_
              repeat (go_big_quiet_step (first | (go_at_call 38; with_reducible exact Mo.Calls.in_of (Nat.le_refl _) (SM.out _))))
              refine wpQuiet_nil ?_
              intro wn hbn
              have hb := bmore B3 hbn
              clear a0 a1 a2 a3 a4 a5 a6 a7 b0 b1 b2 b3 b4 b5 b6 b7 B3 hbn SM
              go_wp2_with fail
              go_roundg g2
              case measure => omega
              case rel => exact ⟨j + 1, by omega, by go_num, hb⟩
end Go.Proofs.Ytjolkcomlindhaa
