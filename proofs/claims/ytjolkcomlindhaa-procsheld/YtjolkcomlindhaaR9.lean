/- The law on who is held. -/
import Derived.Test.YtjolkcomlindhaaGR7xR8
import Derived.Deep.DeepCutAuto
namespace Go.Proofs.Ytjolkcomlindhaa
open Go.RowKit Go.Shelf Go.Maps Go.Sort

set_option maxRecDepth 100000 in
set_option maxHeartbeats 8000000 in
theorem held_law (A : Option Addr) (n cap : Nat) (os : List Oq) (w : World) (h : Sq w A n os) :
    Calls Try.prog 9 #[.slice A n cap] w fun e w' => e = .returned (.bool true) ∧ Below w.heap.size w w' := by
  have KL := Lib.hid plive_any
  have KS := Lib.hid (small_any A n cap os 60 w h)
  have HS := Lib.hid h
  clear h
  cases hsm : smB os n 60
  · rw [hsm] at KS
    clear hsm
    go_enter Try.func9, Try.ntmps9
    go_wp2_with fail
    refine KS.out.mono ?_
    rintro _ w1 ⟨rfl, rfl⟩
    go_wp2_with fail
    refine (KL.out _).mono ?_
    rintro _ w9 ⟨rfl, hb9⟩
    go_wp2_with fail
    go_ret
    exact ⟨rfl, hb9⟩
  have HQ := Lib.hid (smB_true hsm)
  have hn60 : n ≤ 60 := by have := (smB_true hsm).2; omega
  rw [hsm] at KS
  clear hsm
  go_enter Try.func9, Try.ntmps9
  go_wp2_with fail
  refine KS.out.mono ?_
  rintro _ w1 ⟨rfl, rfl⟩
  go_wp2_with fail
  refine (tnew_any w).mono ?_
  rintro _ w1 ⟨p, rfl, hpl, hTb, hb⟩
  have la := below_alloc w1 (.cells dt0 58)
  obtain ⟨tb, bi, bz0, bz1, bz2⟩ := info_parts info4
  obtain ⟨w3, hmk, hd0, hg0⟩ := run_make_full (w1.alloc (.cells dt0 58)) (w1.alloc (.cells dt0 58)).heap.size 59 4 tb (.bool false) 1 Try.underlying59 bi bz0 bz1 .i64 .i64 61 (by rw [bz2]; omega) (by unfold maxLen; omega) (Nat.le_refl _)
  have hb3 : Below (w1.alloc (.cells dt0 58)).heap.size (w1.alloc (.cells dt0 58)) w3 := ⟨hg0.os, hg0.tape, hg0.output, hg0.size, fun i hi => hg0.block i hi (by simp)⟩
  have hmk2 : (Instr.makeSlice 59 (.int .i64 61) (.int .i64 61)).run Try.prog (w1.alloc (.cells dt0 58)) = .ok (.slice (some ⟨(w1.alloc (.cells dt0 58)).heap.size, 0, none⟩) 61 61) w3 := hmk
  have B0 := Lib.hid (made_rb hd0)
  have L0 := Lib.hid (show Hd w w3 p none 0 0 [] w1.heap.size (.slice none 0 0) (.slice none 0 0) 0 [] [] from
    Hd.next (V := w1.alloc (.cells dt0 58)) ⟨Lt.next ⟨hTb, hb, hpl, (fun b e => by cases e), (fun x hx => by cases hx)⟩ la, ⟨Bk.new w1 58 dt0, World.ownsRow_nil _ _ _ _, World.ownsRow_nil _ _ _ _, rfl, (fun x hx => by cases hx), (fun x hx => by cases hx), (fun x hx => by cases hx)⟩, hb.size, (fun x hx => by cases hx)⟩ hb3)
  have hge : w.heap.size ≤ w1.heap.size + 1 := by have := hb.size; omega
  rw [size_alloc] at hmk2 B0
  clear hTb hb hpl la hd0 hg0 hb3 hmk
  go_wp2_with fail
  clear hmk2
  generalize w1.heap.size + 1 = gy at *
  generalize w1.heap.size = r at *
  go_loopg [6] n (fun g s6 wr => ∃ (i : Nat) (m : Option Nat) (N : Int) (T : List Pr) (vL vS : Value) (ND : Int) (Q : List Pr) (S : List Int) (f : Nat → Bool), i + g = n ∧ s6 = .int .i64 i ∧ Hid (Hd w wr p m i N T r vL vS ND Q S) ∧ Hid (T.length ≤ i ∧ N ≤ i ∧ Q.length ≤ i) ∧ Hid (Bk wr gy 4 (rb f)) ∧ Hid (NotRun T f))
  case atStart => exact ⟨0, none, 0, [], _, _, 0, [], [], _, by omega, rfl, L0, Lib.hid ⟨Nat.le_refl _, Int.le_refl _, Nat.le_refl _⟩, B0, Lib.hid (fun x hx => by cases hx)⟩
  case round =>
    clear L0 B0
    obtain ⟨i, m, N, T, vL, vS, ND, Q, S, f, hig, rfl, HL, HK, BR, HN⟩ := hrel
    obtain ⟨wo, hwo⟩ : ∃ x, x = wr := ⟨_, rfl⟩
    subst hwo
    cases gk with
    | zero =>
      have hlt : ¬ ((i : Int) < (n : Int)) := by omega
      go_wp2_with fail
      refine (KL.out _).mono ?_
      rintro _ w9 ⟨rfl, hb9⟩
      go_wp2_with fail
      go_ret
      exact ⟨rfl, bmore HL.out.lt.low hb9⟩
    | succ g =>
      have i0 : (0 : Int) ≤ (i : Int) := by omega
      have i1 : (i : Int) < (n : Int) := by omega
      obtain ⟨ad, o, rfl, hm, hblk, hat⟩ := HS.out.still (i := i) (by omega)
      have HO := Lib.hid (hat w (Below.refl _ _)).2
      have hl300 := HQ.out.1 o hm
      obtain ⟨⟨c0, c1, c2, c3, c4, c5, c6, c7, c8, c9, c10⟩, _⟩ := hat wo HL.out.lt.low
      have low := below_alloc wo (.cells #[.int .i64 o.d, .int .i64 o.pid, .int .i64 o.n, .int .i64 o.p0, .int .i64 o.j, .int .i64 o.e, .int .i64 o.s, .int .i64 o.r, .slice o.A o.len o.cap, .int .i64 o.st, .int .i64 o.c] 63)
      have kb := Bk.new wo 63 #[.int .i64 o.d, .int .i64 o.pid, .int .i64 o.n, .int .i64 o.p0, .int .i64 o.j, .int .i64 o.e, .int .i64 o.s, .int .i64 o.r, .slice o.A o.len o.cap, .int .i64 o.st, .int .i64 o.c]
      have KD := Lib.hid (doesh_any (HL.out.next low) (by have := HK.out.2.2; omega) o HO.out hl300 (by omega) (by have := HK.out.2.1; omega) (by have := HK.out.1; omega))
      have B1 := Lib.hid (BR.out.next low)
      have HT0 := Lib.hid HL.out.lt.tab.pids
      clear hat hm hblk low HL BR
      obtain ⟨od, opid, on, op0, oj, oe, os', or, oA, olen, ocap, ozs, ost, oc⟩ := o
      dsimp only [Oq.v] at c0 c1 c2 c3 c4 c5 c6 c7 c8 c9 c10 KD kb B1
      go_upto_region 12 with fail
      clear c0 c1 c2 c3 c4 c5 c6 c7 c8 c9 c10
      generalize wo.heap.size = bx at *
      generalize wo.alloc (.cells #[.int .i64 od, .int .i64 opid, .int .i64 on, .int .i64 op0, .int .i64 oj, .int .i64 oe, .int .i64 os', .int .i64 or, .slice oA olen ocap, .int .i64 ost, .int .i64 oc] 63) = W1 at *
      have KBX := Lib.hid kb
      have e0 := kb.cell 0 _ rfl
      have e1 := kb.cell 1 _ rfl
      have e2 := kb.cell 2 _ rfl
      have e3 := kb.cell 3 _ rfl
      have e4 := kb.cell 4 _ rfl
      have e5 := kb.cell 5 _ rfl
      have e6 := kb.cell 6 _ rfl
      have e7 := kb.cell 7 _ rfl
      have e8 := kb.cell 8 _ rfl
      have e9 := kb.cell 9 _ rfl
      have e10 := kb.cell 10 _ rfl
      clear kb
      go_wp2_with fail
      refine KD.out.mono ?_
      rintro _ w2 ⟨⟨b, rfl⟩, m', N', T', vL', vS', ND', Q', S', hH, hD, hQ, hk⟩
      have hx := hk _ _ _ KBX.out (by decide) (by decide) (by decide) (by decide) (by decide)
      have B2 := Lib.hid (hk _ _ _ B1.out (by decide) (by decide) (by decide) (by decide) (by decide))
      have HK2 := Lib.hid (show T'.length ≤ i + 1 ∧ N' ≤ ((i + 1 : Nat) : Int) ∧ Q'.length ≤ i + 1 from by have := HK.out; have := hD.len; refine ⟨?_, ?_, ?_⟩ <;> omega)
      have H2 := Lib.hid hH
      have HD := Lib.hid hD
      clear KD hH hD hQ hk e0 e1 e2 e3 e4 e5 e6 e7 e8 e9 e10 B1 KBX
      go_upto_region 13 with fail
      have x0 := hx.cell 0 _ rfl
      have x1 := hx.cell 1 _ rfl
      clear hx
      go_cut [46] (fun s46 wx => ∃ c : Bool, s46 = .bool c ∧ wx = w2 ∧ Hid (c = true ↔ (od = 1 ∧ 0 ≤ opid ∧ opid ≤ 60)))
      case first =>
        clear HD HN HT0
        cases t0 : (od == 1)
        · have HC := Lib.hid (show (false = true ↔ (od = 1 ∧ 0 ≤ opid ∧ opid ≤ 60)) from ⟨(fun e => by cases e), fun e => absurd e.1 (by simpa using t0)⟩)
          go_wp2_with fail
          go_meet
          exact ⟨_, rfl, rfl, HC⟩
        cases t1 : decide (0 ≤ opid)
        · have HC := Lib.hid (show (false = true ↔ (od = 1 ∧ 0 ≤ opid ∧ opid ≤ 60)) from ⟨(fun e => by cases e), fun e => absurd e.2.1 (by simpa using t1)⟩)
          go_wp2_with fail
          go_meet
          exact ⟨_, rfl, rfl, HC⟩
        cases t2 : decide (opid ≤ 60)
        · have HC := Lib.hid (show (false = true ↔ (od = 1 ∧ 0 ≤ opid ∧ opid ≤ 60)) from ⟨(fun e => by cases e), fun e => absurd e.2.2 (by simpa using t2)⟩)
          go_wp2_with fail
          go_meet
          exact ⟨_, rfl, rfl, HC⟩
        · have HC := Lib.hid (show od = 1 ∧ 0 ≤ opid ∧ opid ≤ 60 from ⟨by simpa using t0, by simpa using t1, by simpa using t2⟩)
          go_wp2_with fail
          go_meet
          exact ⟨_, rfl, rfl, Lib.hid ⟨fun _ => HC.out, fun _ => rfl⟩⟩
      case rest =>
      obtain ⟨c, rfl, rfl, HC⟩ := hcut
      go_upto_if 46 with fail
      go_cut [] (fun wx => ∃ f1, Hid (Hd w wx p m' (i + 1) N' T' r vL' vS' ND' Q' S') ∧ Hid (Bk wx gy 4 (rb f1)) ∧ Hid (NotRun T' f1))
      case first =>
        cases c
        · have hrel : ¬ (od = 1 ∧ 0 ≤ opid ∧ opid ≤ 60) := fun e => by cases HC.out.2 e
          have HF := Lib.hid (show NotRun T' f from HN.out.dd HD.out (fun q e => e) (fun e x hx e2 => by
            have e' : x.pid = opid := e2
            have e1 : od = 1 := e
            have := HT0.out x hx
            have := HK.out.2.1
            exact absurd ⟨e1, by omega, by omega⟩ hrel))
          clear HD HN HT0 HC hrel
          go_wp2_with fail
          go_meet
          exact ⟨f, H2, B2, HF⟩
        · obtain ⟨q0, q1, q2⟩ := HC.out.1 rfl
          clear HC
          obtain ⟨j, rfl⟩ : ∃ j : Nat, opid = (j : Int) := ⟨opid.toNat, by omega⟩
          have HF := Lib.hid (show NotRun T' (fun q => f q || q == j) from HN.out.dd HD.out (fun q e => by
            have e' : (f q || q == j) = false := e
            rw [Bool.or_eq_false_iff] at e'
            exact e'.1) (fun _ x _ e => by
            have e' : x.pid = (j : Int) := e
            show (f x.pid.toNat || x.pid.toNat == j) = true
            rw [e']
            simp))
          have d7 := B2.out.cell j _ (rb_at (by omega))
          have d8 := B2.out.frozen j
          have HP := Lib.hid (H2.out.put4 B2.out hge j (.bool true))
          have BP := Lib.hid (B2.out.set j (.bool true))
          rw [rb_set] at BP
          subst q0
          clear HD HN HT0
          go_wp2_with fail
          go_meet
          exact ⟨_, HP, BP, HF⟩
      case rest =>
        obtain ⟨f1, HH, HB, HF⟩ := hcut
        clear x0 x1 B2 H2 HD HN HT0 HC
        go_wp2_with fail
        refine (list_any HH.out.lt.tab (by have := HK2.out.1; omega)).mono ?_
        rintro _ w3 ⟨v1, Q1, rfl, ht1, hb⟩
        obtain ⟨A1, k1, rfl⟩ := own_form ht1.row
        have H3 := Lib.hid (HH.out.next hb)
        have B3 := Lib.hid (HB.out.next hb)
        have HTS := Lib.hid ht1.same
        have hl1 := ht1.len
        have HTK := Lib.hid (ht1.tks HH.out.lt.tab.few_cs)
        rw [hl1]
        obtain ⟨n1, hn1⟩ : ∃ n1, n1 = T'.length := ⟨_, rfl⟩
        rw [← hn1] at hl1 ⊢
        have hn61 : n1 ≤ 61 := by have := HK2.out.1; omega
        have HN1 := Lib.hid hn1
        have HL1 := Lib.hid hl1
        clear ht1 hb hl1 hn1 HH HB
        go_wp2_with fail
        go_loopg [9] n1 (fun g s9 wx => ∃ k : Nat, k + g = n1 ∧ s9 = .int .i64 k ∧ Below w3.heap.size w3 wx)
        case atStart => exact ⟨0, by omega, rfl, Below.refl _ _⟩
        case round =>
          obtain ⟨k, hkg, rfl, hb⟩ := hrel
          cases gk with
          | zero =>
            obtain rfl : k = n1 := by omega
            have hlt2 : ¬ ((k : Int) < (k : Int)) := by omega
            have H4 := Lib.hid (H3.out.next hb)
            have B4 := Lib.hid (B3.out.next hb)
            go_wp2_with fail
            go_roundg g
            case measure => omega
            case rel => exact ⟨i + 1, m', N', T', vL', vS', ND', Q', S', f1, by omega, by go_num, H4, HK2, B4, HF⟩
          | succ g2 =>
            have j0 : (0 : Int) ≤ (k : Int) := by omega
            have j1 : (k : Int) < (n1 : Int) := by omega
            have hiT : k < T'.length := by rw [← HN1.out]; omega
            have hiQ : k < Q1.length := by rw [HL1.out]; omega
            have ey := List.getElem?_eq_getElem hiT
            have ez := List.getElem?_eq_getElem hiQ
            have hym : T'[k] ∈ T' := List.getElem_mem _
            have hzy := HTS.out k _ _ ez ey
            obtain ⟨ad, rfl, h1, u1⟩ := (HTK.out.next hb).at_ k _ ez
            have z0 := u1.c0
            have z6 := u1.c6
            have z7 := u1.c7
            rw [hzy.1] at z0
            rw [hzy.2.2.2.2.2.1] at z6
            rw [hzy.2.2.2.2.2.2.1] at z7
            have hpid := H3.out.lt.tab.pids _ hym
            have hNR := HF.out _ hym
            have hN60 : N' ≤ 60 := by have := HK2.out.2.1; omega
            obtain ⟨q, hq⟩ : ∃ q : Nat, T'[k].pid = (q : Int) := ⟨T'[k].pid.toNat, by omega⟩
            rw [hq] at z0 hNR hpid
            have r0 := (B3.out.next hb).cell q _ (rb_at (f := f1) (by omega))
            have r1 : (0 : Int) ≤ (q : Int) := by omega
            have r2 : (q : Int) < 61 := by omega
            have r3 : ¬ ((q : Int) < 1) := by omega
            have r4 : ¬ ((q : Int) > 60) := by omega
            clear ey ez hym hzy u1 hpid hq
            generalize T'[k] = y at *
            cases hf : f1 q
            · have hNR2 := hNR (by simpa using hf)
              rw [hf] at r0
              clear hNR hf
              rcases hNR2 with e | ⟨e, e2⟩
              · rw [e] at z6
                clear e
                go_wp2_with fail
                go_roundg g2
                case measure => omega
                case rel => exact ⟨k + 1, by omega, by go_num, by first | exact hb | exact hb.drew⟩
              · rw [e] at z6
                rw [e2] at z7
                clear e e2
                go_wp2_with fail
                go_roundg g2
                case measure => omega
                case rel => exact ⟨k + 1, by omega, by go_num, by first | exact hb | exact hb.drew⟩
            · rw [hf] at r0
              clear hNR hf
              go_wp2_with fail
              go_roundg g2
              case measure => omega
              case rel => exact ⟨k + 1, by omega, by go_num, by first | exact hb | exact hb.drew⟩
end Go.Proofs.Ytjolkcomlindhaa
