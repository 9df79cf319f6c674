/- The law on what was reaped. -/
import Derived.Test.YtjolkcomlindhaaGQ4xR1xR2
import Derived.Test.YtjolkcomlindhaaP7
import Derived.Test.YtjolkcomlindhaaGQ1xH1xQ2
import Derived.Test.YtjolkcomlindhaaR5
namespace Go.Proofs.Ytjolkcomlindhaa
open Go.RowKit Go.Shelf Go.Maps Go.Sort

/-- What a call on both does, whatever the call. -/
def DoesC : Prop := ∀ (w V : World) (p k : Nat) (m : Option Nat) (N : Int) (T : List Pr) (o : Oq), Lt w V p m k N T → OqOk w o → o.len ≤ 300 → k < 900 → N < 200 → T.length < 256 →
    Calls Try.prog 35 #[.pointer (some ⟨p, 0, none⟩), .pointer (some ⟨V.heap.size, 0, none⟩), o.v] (V.alloc (.cells dt0 58)) (DoesR w V p k m N T o)
theorem Dd.len {N N' : Int} {T T' : List Pr} {o : Oq} (h : Dd N T o N' T') : T'.length ≤ T.length + 1 ∧ N' ≤ N + 1 := by
  cases h with
  | same => exact ⟨by omega, by omega⟩
  | new A cap b _ => exact ⟨by simp, by omega⟩
  | rel _ =>
    rcases relT_cases T o.pid with e | ⟨x, _, _, e⟩ <;> rw [e] <;> (try simp only [updP_len]) <;> constructor <;> omega
  | sig _ =>
    rcases sgT_cases T o.pid o.n with e | ⟨x, _, _, _, e⟩ <;> rw [e] <;> (try simp only [updP_len]) <;> constructor <;> omega
  | exi _ =>
    rcases exT_cases T o.pid o.n with e | ⟨x, _, _, e⟩ <;> rw [e] <;> (try simp only [updP_len]) <;> constructor <;> omega
  | rp _ =>
    have := delP_len T o.pid
    rcases rpT_cases T o.pid with e | ⟨x, _, _, e⟩ <;> rw [e] <;> constructor <;> omega
theorem smB_true {os : List Oq} {n : Nat} {m : Int} (h : smB os n m = true) : (∀ o ∈ os, o.len ≤ 300) ∧ (n : Int) ≤ m := by
  unfold smB at h
  simpa using h
theorem rp_cases (T : List Pr) (n : Int) : (rpE T n ≠ 0 ∧ rpT T n = T ∧ rpV T n = tkV 0 0 0 0 0 (.slice none 0 0) 0 0) ∨ ∃ x, lookP T n = some x ∧ x.st = 2 ∧ rpE T n = 0 ∧ rpT T n = delP T n ∧ rpV T n = x.v := by
  unfold rpE rpT rpV
  cases h : lookP T n with
  | none => exact .inl ⟨by simp, rfl, rfl⟩
  | some x =>
    by_cases e : x.st = 2
    · exact .inr ⟨x, rfl, e, by simp only; rw [if_pos e], by simp only; rw [if_pos e], by simp only; rw [if_pos e]⟩
    · exact .inl ⟨by simp only; rw [if_neg e]; decide, by simp only; rw [if_neg e], by simp only; rw [if_neg e]⟩
theorem TbAt.few_cs {w : World} {p k : Nat} {m : Option Nat} {N : Int} {T : List Pr} (h : TbAt w p m k N T) : ∀ x ∈ T, x.cs.length ≤ 1000 := fun x hx => (h.procs x hx).len
set_option maxRecDepth 100000 in
set_option maxHeartbeats 8000000 in
theorem gone_law (KDo : DoesC) (A : Option Addr) (n cap : Nat) (os : List Oq) (pid : Int) (w : World) (h : Sq w A n os) (hp : wf pid) :
    Calls Try.prog 12 #[.slice A n cap, .int .i64 pid] w fun e w' => e = .returned (.bool true) ∧ Below w.heap.size w w' := by
  have KL := Lib.hid plive_any
  have KS := Lib.hid (small_any A n cap os 60 w h)
  have HS := Lib.hid h
  have HP := Lib.hid hp
  clear h hp
  cases hsm : smB os n 60
  · rw [hsm] at KS
    clear hsm
    go_enter Try.func12, Try.ntmps12
    go_wp2_with fail
    refine KS.out.mono ?_
    rintro _ w1 ⟨rfl, rfl⟩
    go_wp2_with fail
    refine (KL.out _).mono ?_
    rintro _ w9 ⟨rfl, hb9⟩
    go_wp2_with fail
    go_ret
    exact ⟨rfl, hb9⟩
  have HQ := Lib.hid (smB_true hsm)
  have hn60 : n ≤ 60 := by have := (smB_true hsm).2; omega
  rw [hsm] at KS
  clear hsm
  go_enter Try.func12, Try.ntmps12
  go_wp2_with fail
  refine KS.out.mono ?_
  rintro _ w1 ⟨rfl, rfl⟩
  go_wp2_with fail
  refine (tnew_any w).mono ?_
  rintro _ w1 ⟨p, rfl, hpl, hTb, hb⟩
  have L0 := Lib.hid (show Lt w w1 p none 0 0 [] from ⟨hTb, hb, hpl, (fun b e => by cases e), (fun x hx => by cases hx)⟩)
  clear hTb hb hpl
  go_wp2_with fail
  go_loopg [6] n (fun g s6 wr => ∃ (i : Nat) (m : Option Nat) (N : Int) (T : List Pr), i + g = n ∧ s6 = .int .i64 i ∧ Hid (Lt w wr p m i N T) ∧ Hid (T.length ≤ i ∧ N ≤ i))
  case atStart => exact ⟨0, none, 0, [], by omega, rfl, L0, Lib.hid ⟨Nat.le_refl _, Int.le_refl _⟩⟩
  case round =>
    clear L0
    obtain ⟨i, m, N, T, hig, rfl, HL, HK⟩ := hrel
    cases gk with
    | succ g =>
      have i0 : (0 : Int) ≤ (i : Int) := by omega
      have i1 : (i : Int) < (n : Int) := by omega
      obtain ⟨ad, o, rfl, hm, hblk, hat⟩ := HS.out.still (i := i) (by omega)
      obtain ⟨⟨c0, c1, c2, c3, c4, c5, c6, c7, c8, c9, c10⟩, _⟩ := hat (wr.alloc (.cells dt0 58)) (bmore HL.out.low (below_alloc wr _))
      have KD := Lib.hid (KDo w wr p i m N T o HL.out (hat w (Below.refl _ _)).2 (HQ.out.1 o hm) (by omega) (by have := HK.out.2; omega) (by have := HK.out.1; omega))
      clear hat hm hblk
      obtain ⟨od, opid, on, op0, oj, oe, os', or, oA, olen, ocap, ozs, ost, oc⟩ := o
      dsimp only [Oq.v] at c0 c1 c2 c3 c4 c5 c6 c7 c8 c9 c10 KD
      go_wp2_with fail
      refine KD.out.mono ?_
      rintro _ w2 ⟨⟨b, rfl⟩, m', N', T', hL, hD, _⟩
      have HK2 := Lib.hid (show T'.length ≤ i + 1 ∧ N' ≤ ((i + 1 : Nat) : Int) from by have := HK.out; have := hD.len; constructor <;> omega)
      have HL2 := Lib.hid hL
      clear KD hL hD c0 c1 c2 c3 c4 c5 c6 c7 c8 c9 c10
      go_wp2_with fail
      go_roundg g
      case measure => omega
      case rel => exact ⟨i + 1, m', N', T', by omega, by go_num, HL2, HK2⟩
    | zero =>
      have hlt : ¬ ((i : Int) < (n : Int)) := by omega
      have hT60 : T.length ≤ 60 := by have := HK.out.1; omega
      go_wp2_with fail
      refine (list_any HL.out.tab (by omega)).mono ?_
      rintro _ w3 ⟨v1, Q1, rfl, ht1, hb⟩
      obtain ⟨A1, k1, rfl⟩ := own_form ht1.row
      have L3 := Lib.hid (HL.out.next hb)
      have HT1 := Lib.hid ht1
      have hl1 := ht1.len
      rw [hl1] at HT1 ⊢
      obtain ⟨n1, hn1⟩ : ∃ n1, n1 = T.length := ⟨_, rfl⟩
      rw [← hn1] at HT1 hT60 hl1 ⊢
      have HN1 := Lib.hid hn1
      have HL1 := Lib.hid hl1
      clear ht1 hb hl1 hn1 HL
      have KR := Lib.hid (reap_any L3.out.tab HP.out)
      have HBR := Lib.hid (hb_rp L3.out.hb pid)
      rcases rp_cases T pid with ⟨r1, r2, r3⟩ | ⟨x, r0, r4, r1, r2, r3⟩
      · rw [r2, r3] at KR
        rw [r2] at HBR
        have t0 : (rpE T pid == 0) = false := by simpa using r1
        have t1 : (rpE T pid != 0) = true := by unfold bne; rw [t0]; rfl
        generalize rpE T pid = er at *
        clear r1 r2 r3
        go_wp2_with fail
        refine KR.out.mono ?_
        rintro _ w4 ⟨rfl, hTb, hTt, _⟩
        have la := below_alloc w4 (.cells (tkC 0 0 0 0 0 (.slice none 0 0) 0 0) 61)
        have L4 := Lib.hid ((L3.out.turn hTb hTt L3.out.hm HBR.out).next la)
        have HT2 := Lib.hid ((Told.tt (v := .slice A1 n1 k1) (by have := HT1.out; exact this) L3.out.tab hTt).next la)
        clear hTb hTt la KR HT1 L3 HBR
        go_wp2_with fail
        refine (list_any L4.out.tab (by rw [← HN1.out]; omega)).mono ?_
        rintro _ w5 ⟨v2, Q2, rfl, ht2, hb⟩
        obtain ⟨A2, k2, rfl⟩ := own_form ht2.row
        have hl2 := ht2.len
        have L5 := Lib.hid (L4.out.next hb)
        have KM := Lib.hid (same_tasks A1 A2 n1 k1 k2 Q1 Q2 w5 (Told.tks (cap := k1) (by have := HT2.out.next hb; rw [← HL1.out] at this; exact this) (L4.out.tab.few_cs)) (ht2.tks L4.out.tab.few_cs) HL1.out (by rw [hl2, ← HN1.out]) (by omega) (fun i x y hx hy => by
          have hi : i < T.length := by rw [← HN1.out, ← HL1.out]; exact (List.getElem?_eq_some_iff.1 hx).1
          have e := List.getElem?_eq_getElem hi
          exact (HT2.out.same i x _ hx e).trans (ht2.same i y _ hy e).symm))
        rw [hl2, ← HN1.out]
        clear ht2 hb hl2 HT2 L4
        go_wp2_with fail
        refine KM.out.mono ?_
        rintro _ w6 ⟨rfl, hb⟩
        replace L5 := Lib.hid (L5.out.next hb)
        clear hb KM
        go_wp2_with fail
        refine (KL.out _).mono ?_
        rintro _ w9 ⟨rfl, hb9⟩
        go_wp2_with fail
        go_ret
        exact ⟨rfl, bmore L5.out.low hb9⟩
      · obtain ⟨hxm, hxp⟩ := lookP_mem r0
        rw [r1, r2, r3] at KR
        rw [r2] at HBR
        have HX := Lib.hid (And.intro r0 (And.intro r4 (And.intro hxm hxp)))
        clear r0 r4 r1 r2 r3 hxm hxp
        go_wp2_with fail
        refine KR.out.mono ?_
        rintro _ w4 ⟨rfl, hTb, hTt, hcs⟩
        have la := below_alloc w4 (.cells (tkC x.pid x.j x.e x.s x.r (.slice x.A x.cs.length x.cap) x.st x.code) 61)
        have L4 := Lib.hid ((L3.out.turn hTb hTt L3.out.hm HBR.out).next la)
        have HT2 := Lib.hid ((Told.tt (v := .slice A1 n1 k1) (by have := HT1.out; exact this) L3.out.tab hTt).next la)
        have kx := Lib.hid (Bk.new w4 61 (tkC x.pid x.j x.e x.s x.r (.slice x.A x.cs.length x.cap) x.st x.code))
        have csx := Lib.hid ((hcs x HX.out.1).next la)
        have HUP := Lib.hid L3.out.tab.up
        have HFW := Lib.hid L3.out.tab.few_cs
        have hlb := la.size
        clear hTb hTt la KR HT1 L3 HBR hcs
        go_wp2_with fail
        refine (list_any L4.out.tab (by have := delP_len T pid; rw [← HN1.out] at this; omega)).mono ?_
        rintro _ w5 ⟨v2, Q2, rfl, ht2, hb⟩
        obtain ⟨A2, k2, rfl⟩ := own_form ht2.row
        have L5 := Lib.hid (L4.out.next hb)
        have hl2 := ht2.len
        have H2 := Lib.hid (And.intro (ht2.tks L4.out.tab.few_cs) ht2.same)
        have H1 := Lib.hid (And.intro (Told.tks (cap := k1) (by have := HT2.out.next hb; rw [← HL1.out] at this; exact this) HFW.out) HT2.out.same)
        have kx5 := Lib.hid (kx.out.next hb)
        have cs5 := Lib.hid (csx.out.next hb)
        have hd1 := delP_len T pid
        rw [hl2]
        rw [← HN1.out] at hd1
        obtain ⟨n2, hn2⟩ : ∃ n2, n2 = (delP T pid).length := ⟨_, rfl⟩
        rw [← hn2] at hd1 hl2 ⊢
        have HN2 := Lib.hid hn2
        have HL2 := Lib.hid hl2
        clear ht2 hb hn2 hl2 HT2 L4 kx csx hlb
        generalize w4.heap.size = bx at *
        go_wp2_with fail
        go_loopg [11, 12] n1 (fun g s11 s12 wr => ∃ i : Nat, i + g = n1 ∧ s12 = .int .i64 i ∧ s11 = .int .i64 (keptN T pid i : Nat) ∧ Below w5.heap.size w5 wr)
        case atStart => exact ⟨0, by omega, rfl, rfl, Below.refl _ _⟩
        case round =>
          obtain ⟨i, hig, rfl, rfl, hb⟩ := hrel
          cases gk with
          | succ g =>
            have i0 : (0 : Int) ≤ (i : Int) := by omega
            have i1 : (i : Int) < (n1 : Int) := by omega
            have hiT : i < T.length := by rw [← HN1.out]; omega
            have hiQ : i < Q1.length := by rw [HL1.out]; omega
            have ey := List.getElem?_eq_getElem hiT
            have ez := List.getElem?_eq_getElem hiQ
            have hym : T[i] ∈ T := List.getElem_mem _
            have hzm : Q1[i] ∈ Q1 := List.getElem_mem _
            have hzy := H1.out.2 i _ _ ez ey
            have t1 := H1.out.1.next hb
            obtain ⟨ad, rfl, h1, u1⟩ := t1.at_ i _ ez
            have hsucc := keptN_succ (n := pid) ey
            have hkle := keptN_le T pid i
            have z0 := u1.c0
            obtain ⟨a0, a1, a2, a3, a4, a5, a6, a7⟩ := u1.in_ (by rw [block_add]; exact h1)
            have hIn := Mo.inNonempty wr.heap.size wr
            by_cases hz : Q1[i].pid = pid
            · have hyx : T[i] = x := by
                have q := lookP_of_mem HUP.out hym
                rw [← hzy.1, hz, HX.out.1] at q
                cases q
                rfl
              rw [hyx] at hzy
              have kb := kx5.out.next hb
              have SM := Lib.hid (fun j : Mo.In wr.heap.size wr => one_same hzy j.val ((t1.cs _ hzm).next j.ok) (((cs5.out.next hb).next j.ok).ints) (t1.few _ hzm))
              have b0 := Mo.In.cell (B := wr.heap.size) (p := ⟨bx, 0, none⟩) kb.lt (kb.cell 0 _ rfl)
              have b1 := Mo.In.cell (B := wr.heap.size) (p := ⟨bx, 1, none⟩) kb.lt (kb.cell 1 _ rfl)
              have b2 := Mo.In.cell (B := wr.heap.size) (p := ⟨bx, 2, none⟩) kb.lt (kb.cell 2 _ rfl)
              have b3 := Mo.In.cell (B := wr.heap.size) (p := ⟨bx, 3, none⟩) kb.lt (kb.cell 3 _ rfl)
              have b4 := Mo.In.cell (B := wr.heap.size) (p := ⟨bx, 4, none⟩) kb.lt (kb.cell 4 _ rfl)
              have b5 := Mo.In.cell (B := wr.heap.size) (p := ⟨bx, 5, none⟩) kb.lt (kb.cell 5 _ rfl)
              have b6 := Mo.In.cell (B := wr.heap.size) (p := ⟨bx, 6, none⟩) kb.lt (kb.cell 6 _ rfl)
              have b7 := Mo.In.cell (B := wr.heap.size) (p := ⟨bx, 7, none⟩) kb.lt (kb.cell 7 _ rfl)
              have HS2 := Lib.hid (show keptN T pid (i + 1) = keptN T pid i from by rw [hsucc, if_pos (by rw [hyx]; exact HX.out.2.2.2)])
              have hzb : (Q1[i].pid == pid) = true := by simpa using hz
              clear hsucc hz hyx hzy kb ey ez hym hzm t1 u1
              generalize Q1[i] = z at *
              go_upto_region 20 with fail
              refine Mo.region_in wr.heap.size (by kernel_rfl) (by kernel_rfl) ?_
              repeat (go_big_quiet_step (first | (go_at_call 38; with_reducible exact Mo.Calls.in_of (Nat.le_refl _) (SM.out _))))
              refine wpQuiet_nil ?_
              intro w6 hb6
              clear a0 a1 a2 a3 a4 a5 a6 a7 b0 b1 b2 b3 b4 b5 b6 b7 z0
              go_wp2_with fail
              go_roundg g
              case measure => omega
              case rel => exact ⟨i + 1, by omega, by go_num, by rw [HS2.out], bmore hb hb6⟩
            · have hyn : T[i].pid ≠ pid := by rw [← hzy.1]; exact hz
              have hk2 := kept_at ey hyn
              have hkl := (List.getElem?_eq_some_iff.1 hk2).1
              rw [← HN2.out] at hkl
              have hkQ : keptN T pid i < Q2.length := by rw [HL2.out]; exact hkl
              have eu := List.getElem?_eq_getElem hkQ
              have hum : Q2[keptN T pid i] ∈ Q2 := List.getElem_mem _
              have hzu := hzy.trans (H2.out.2 _ _ _ eu hk2).symm
              have t2 := H2.out.1.next hb
              obtain ⟨ad2, rfl, h2, u2⟩ := t2.at_ _ _ eu
              have SM := Lib.hid (fun j : Mo.In wr.heap.size wr => one_same hzu j.val ((t1.cs _ hzm).next j.ok) ((t2.cs _ hum).next j.ok) (t1.few _ hzm))
              obtain ⟨b0, b1, b2, b3, b4, b5, b6, b7⟩ := u2.in_ (by rw [block_add]; exact h2)
              have HS2 := Lib.hid (show keptN T pid (i + 1) = keptN T pid i + 1 from by rw [hsucc, if_neg hyn])
              have hzb : (Q1[i].pid == pid) = false := by simpa using hz
              clear hsucc hz hyn hzy ey ez hym hzm t1 u1 eu hum hzu t2 u2 hk2
              generalize Q1[i] = z at *
              generalize Q2[keptN T pid i] = u at *
              clear hkQ
              generalize keptN T pid i = kn at *
              have g1 : decide ((n2 : Int) ≤ (kn : Int)) = false := by simp; omega
              have g2 : decide (n2 ≤ kn) = false := by simp; omega
              have g3 : (0 : Int) ≤ (kn : Int) := by omega
              have g4 : (kn : Int) < (n2 : Int) := by omega
              go_upto_region 22 with fail
              refine Mo.region_in wr.heap.size (by kernel_rfl) (by kernel_rfl) ?_
              repeat (go_big_quiet_step (first | (go_at_call 38; with_reducible exact Mo.Calls.in_of (Nat.le_refl _) (SM.out _))))
              refine wpQuiet_nil ?_
              intro w6 hb6
              clear a0 a1 a2 a3 a4 a5 a6 a7 b0 b1 b2 b3 b4 b5 b6 b7 z0 g1 g2
              go_wp2_with fail
              go_roundg g
              case measure => omega
              case rel => exact ⟨i + 1, by omega, by go_num, by rw [HS2.out]; go_num, bmore hb hb6⟩
          | zero =>
            obtain rfl : i = n1 := by omega
            have hlt2 : ¬ ((i : Int) < (i : Int)) := by omega
            have HKN := Lib.hid (show keptN T pid i = n2 from by rw [keptN_all (by rw [← HN1.out]; exact Nat.le_refl _), ← HN2.out])
            rw [HKN.out]
            have L6 := Lib.hid (L5.out.next hb)
            have k6 := Lib.hid (kx5.out.next hb)
            have hno := lookP_del_eq T pid
            have e1 := Lib.hid (show rpE (delP T pid) pid = 1 ∧ rpT (delP T pid) pid = delP T pid ∧ rpV (delP T pid) pid = tkV 0 0 0 0 0 (.slice none 0 0) 0 0 from by unfold rpE rpT rpV; rw [hno]; exact ⟨rfl, rfl, rfl⟩)
            have e2 := Lib.hid (show relE (delP T pid) pid = 1 ∧ relT (delP T pid) pid = delP T pid from by unfold relE relT; rw [hno]; exact ⟨rfl, rfl⟩)
            have e3 := Lib.hid (show sgE (delP T pid) pid 9 = 1 ∧ sgT (delP T pid) pid 9 = delP T pid from by unfold sgE sgT; rw [hno]; exact ⟨rfl, rfl⟩)
            have e4 := Lib.hid (show sgnd (delP T pid) pid = 0 from by unfold sgnd; rw [hno])
            clear hno hb L5 kx5
            go_wp2_with fail
            refine (reap_any L6.out.tab HP.out).mono ?_
            rintro _ w7 ⟨rfl, hTb, hTt, _⟩
            rw [e1.out.1, e1.out.2.2]
            rw [e1.out.2.1] at hTb
            have la := below_alloc w7 (.cells (tkC 0 0 0 0 0 (.slice none 0 0) 0 0) 61)
            have L7 := Lib.hid ((L6.out.turn hTb hTt L6.out.hm L6.out.hb).next la)
            have k7 := Lib.hid ((k6.out.tt L6.out.tab hTt (by decide) (by decide)).next la)
            clear hTb hTt la L6 k6
            go_wp2_with fail
            refine (release_any L7.out.tab HP.out).mono ?_
            rintro _ w8 ⟨rfl, hTb, hTt⟩
            rw [e2.out.1]
            rw [e2.out.2] at hTb
            have L8 := Lib.hid (L7.out.turn hTb hTt L7.out.hm L7.out.hb)
            have k8 := Lib.hid (k7.out.tt L7.out.tab hTt (by decide) (by decide))
            clear hTb hTt L7 k7
            go_wp2_with fail
            refine (signal_any L8.out.tab 9 HP.out).mono ?_
            rintro _ w9 ⟨rfl, hTb, hTt⟩
            rw [e3.out.1]
            rw [e3.out.2] at hTb
            have L9 := Lib.hid (L8.out.turn hTb hTt L8.out.hm L8.out.hb)
            have k9 := Lib.hid (k8.out.tt L8.out.tab hTt (by decide) (by decide))
            clear hTb hTt L8 k8
            go_wp2_with fail
            refine (signalled_any L9.out.tab HP.out).mono ?_
            rintro _ w9 ⟨rfl, rfl⟩
            rw [e4.out]
            have c6 := k9.out.cell 6 _ rfl
            have t6 : (x.st == 2) = true := by simpa using HX.out.2.1
            go_wp2_with fail
            refine (KL.out _).mono ?_
            rintro _ w10 ⟨rfl, hb10⟩
            go_wp2_with fail
            go_ret
            exact ⟨rfl, bmore L9.out.low hb10⟩
end Go.Proofs.Ytjolkcomlindhaa
/- does: Spawn; does whole. -/
namespace Go.Proofs.Ytjolkcomlindhaa
open Go.RowKit Go.Shelf Go.Maps Go.Sort

section
variable {w V V2 V4 : World} {p k q bx : Nat} {m : Option Nat} {N : Int} {T : List Pr} {dq cb : Array Value} {o : Oq}
theorem OqOk.blk (ho : OqOk w o) (hn : 0 < o.len) {ad : Addr} (e : o.A = some ad) : ad.block < w.heap.size := by
  rcases ho.ints with q | ⟨ad', q, h1, _⟩
  · have := ho.len; rw [q] at this; simp at this; omega
  · rw [e] at q; cases q; exact h1
theorem Lt.far (h : Lt w V2 p m k N T) (hg : V2.grownBy V4 (some q)) (hk : Bk V2 q 58 dq) (hq : w.heap.size ≤ q) : Lt w V4 p m k N T :=
  ⟨h.tab.far hg hk (by decide), h.low.grown hg h.low.size (fun j e => by cases e; exact hq), h.hp, h.hm, h.hb⟩
theorem spawn_l (h : Lt w V2 p m k N T) (kq : Bk V2 q 58 dq) (kb : Bk V2 bx 63 cb) (ho : OqOk w o) (hd : o.d = 0) (hl : o.len ≤ 300) (hk : k < 900) (hN : N < 200) (hT : T.length < 256) :
    Calls Try.prog 37 #[.pointer (some ⟨p, 0, none⟩), tkV o.p0 o.j o.e o.s o.r (.slice o.A o.len o.cap) o.st o.c] V2 fun x V' => (∃ a er : Int, x = .returned (.tuple #[.int .i64 a, .int .i64 er])) ∧ (∃ m' N' T', Lt w V' p m' (k + 1) N' T' ∧ Dd N T o N' T' ∧ Tt V2 V' p m T) ∧ Bk V' q 58 dq ∧ Bk V' bx 63 cb := by
  have hz := ho.ints.next h.low
  by_cases hn : o.len = 0
  · refine (spawn_no h.tab o.p0 o.j o.e o.s o.r o.st o.c (cE o.zs) o.A o.len o.cap (of_says hz ho.len (by omega)) (by omega) (by unfold mayT; rw [hn]; simp)).mono ?_
    rintro x V' ⟨rfl, hb⟩
    exact ⟨⟨_, _, rfl⟩, ⟨m, N, T, (h.next hb).few (by omega), .same, Tt.of_below hb⟩, kq.next hb, kb.next hb⟩
  · refine (spawn_any h.tab (by omega) hN hT o.p0 o.j o.e o.s o.r o.st o.c o.A o.len o.cap o.zs hz ho.len (fun ad e => by have := ho.blk (by omega) e; have := h.hp; omega) (by omega)).mono ?_
    rintro x V' (⟨_, rfl, hb⟩ | ⟨_, A', cap', b', m', rfl, r1, r2, r3, _, r4⟩)
    · exact ⟨⟨_, _, rfl⟩, ⟨m, N, T, (h.next hb).few (by omega), .same, Tt.of_below hb⟩, kq.next hb, kb.next hb⟩
    · refine ⟨⟨_, _, rfl⟩, ⟨m', N + 1, _, h.turn r1 r2 (fun b e => ?_) (fun x hx => ?_), .new A' cap' b' hd, r2⟩, kq.tt h.tab r2 (by decide) (by decide), kb.tt h.tab r2 (by decide) (by decide)⟩
      · rcases r3 with rfl | ⟨_, b2, e2, e3⟩
        · exact h.hm b e
        · rw [e] at e2
          cases e2
          exact Nat.le_trans h.low.size e3
      · rcases List.mem_append.1 hx with q | q
        · exact h.hb x q
        · rw [List.mem_singleton.1 q]
          exact Nat.le_trans h.low.size r4
set_option maxRecDepth 100000 in
set_option maxHeartbeats 4000000 in
theorem does0 (h : Lt w V p m k N T) (o : Oq) (ho : OqOk w o) (hd : o.d = 0) (hl : o.len ≤ 300) (hk : k < 900) (hN : N < 200) (hT : T.length < 256) :
    Calls Try.prog 35 #[.pointer (some ⟨p, 0, none⟩), .pointer (some ⟨V.heap.size, 0, none⟩), o.v] (V.alloc (.cells dt0 58)) (DoesR w V p k m N T o) := by
  have hb0 := fun (hn : 0 < o.len) ad (e : o.A = some ad) => ho.blk hn e
  have hvl := h.low.size
  obtain ⟨od, opid, on, op0, oj, oe, os, or, oA, olen, ocap, ozs, ost, oc⟩ := o
  dsimp only at hd hl hb0
  subst hd
  have low := (below_alloc V (.cells dt0 58)).alloc (by simp) (.cells #[.int .i64 0, .int .i64 opid, .int .i64 on, .int .i64 op0, .int .i64 oj, .int .i64 oe, .int .i64 os, .int .i64 or, .slice oA olen ocap, .int .i64 ost, .int .i64 oc] 63)
  have kq := (Bk.new V 58 dt0).alloc (.cells #[.int .i64 0, .int .i64 opid, .int .i64 on, .int .i64 op0, .int .i64 oj, .int .i64 oe, .int .i64 os, .int .i64 or, .slice oA olen ocap, .int .i64 ost, .int .i64 oc] 63)
  have kb := Bk.new (V.alloc (.cells dt0 58)) 63 #[.int .i64 0, .int .i64 opid, .int .i64 on, .int .i64 op0, .int .i64 oj, .int .i64 oe, .int .i64 os, .int .i64 or, .slice oA olen ocap, .int .i64 ost, .int .i64 oc]
  rw [size_alloc] at kb
  have HL := Lib.hid low
  have HO := Lib.hid ho
  have HB := Lib.hid hb0
  have K1 := Lib.hid (spawn_l (h.next low) kq kb ho rfl hl hk hN hT)
  have c0 := kb.cell 0 _ rfl
  have c3 := kb.cell 3 _ rfl
  have c4 := kb.cell 4 _ rfl
  have c5 := kb.cell 5 _ rfl
  have c6 := kb.cell 6 _ rfl
  have c7 := kb.cell 7 _ rfl
  have c8 := kb.cell 8 _ rfl
  have c9 := kb.cell 9 _ rfl
  have c10 := kb.cell 10 _ rfl
  clear h low kq kb ho hb0
  go_enter Try.func35, Try.ntmps35
  go_wp2_with fail
  refine K1.out.mono ?_
  rintro _ V3 ⟨⟨a, er, rfl⟩, ⟨m', N', T', hL, hD, hT'⟩, hq, hx⟩
  have H3 := Lib.hid (And.intro hL (And.intro hD (And.intro hT' hq)))
  have KR := Lib.hid (rspawn0 (w := V3) (q := V.heap.size) hq op0 oj oe os or ost oc oA olen ocap ozs (HO.out.ints.next hL.low) HO.out.len hl HO.out.room (fun ad e hn => by have := HB.out hn ad e; omega))
  clear hL hD hT' hq K1 c0 c3 c4 c5 c6 c7 c8 c9 c10
  have c3 := hx.cell 3 _ rfl
  have c4 := hx.cell 4 _ rfl
  have c5 := hx.cell 5 _ rfl
  have c6 := hx.cell 6 _ rfl
  have c7 := hx.cell 7 _ rfl
  have c8 := hx.cell 8 _ rfl
  have c9 := hx.cell 9 _ rfl
  have c10 := hx.cell 10 _ rfl
  clear hx
  go_wp2_with fail
  refine KR.out.mono ?_
  rintro _ V4' ⟨⟨a2, er2, rfl⟩, hg⟩
  obtain ⟨hL, hD, hT', hq⟩ := H3.out
  have R := Lib.hid (show Lt w V4' p m' (k + 1) N' T' ∧ Tt V V4' p m T from ⟨hL.far hg hq hvl, tt_far (tt_low HL.out hT') hg (Nat.le_refl _)⟩)
  have HD := Lib.hid hD
  clear hL hD hT' hq hg H3 KR c3 c4 c5 c6 c7 c8 c9 c10
  cases t0 : a == a2
  all_goals
    go_wp2_with fail
    go_ret
    exact ⟨⟨_, rfl⟩, m', N', T', R.out.1, HD.out, R.out.2⟩
theorem does_any (h : Lt w V p m k N T) (o : Oq) (ho : OqOk w o) (hl : o.len ≤ 300) (hk : k < 900) (hN : N < 200) (hT : T.length < 256) :
    Calls Try.prog 35 #[.pointer (some ⟨p, 0, none⟩), .pointer (some ⟨V.heap.size, 0, none⟩), o.v] (V.alloc (.cells dt0 58)) (DoesR w V p k m N T o) := by
  by_cases h0 : o.d = 0
  · exact does0 h o ho h0 hl hk hN hT
  by_cases h1 : o.d = 1
  · exact does1 h o ho h1
  by_cases h2 : o.d = 2
  · exact does2 h o ho h2
  by_cases h3 : o.d = 3
  · exact does3 h o ho h3
  by_cases h4 : o.d = 4
  · exact does4 h o ho h4
  exact does5 h o h0 h1 h2 h3 h4
end
theorem does_all : DoesC := fun _ _ _ _ _ _ _ o h ho hl hk hN hT => does_any h o ho hl hk hN hT
end Go.Proofs.Ytjolkcomlindhaa
/- The document's tables: what a call on one does to both. -/
namespace Go.Proofs.Ytjolkcomlindhaa
open Go.RowKit Go.Shelf Go.Maps Go.Sort

set_option maxRecDepth 100000 in
set_option maxHeartbeats 1000000 in
theorem same_ends (A A' : Option Addr) (ca cb n n' : Nat) (zs zs' : List Int) (w : World) (hA : IntsAt w A zs) (hB : IntsAt w A' zs') (hn : zs.length = n) (hn' : zs'.length = n') (hl : n ≤ 1000) :
    Calls Try.prog 29 #[.slice A n ca, .slice A' n' cb] w fun e w' => (∃ b, e = .returned (.bool b)) ∧ Below w.heap.size w w' := by
  have HN := Lib.hid hn
  have HN' := Lib.hid hn'
  clear hn hn'
  by_cases e : n = n'
  case neg =>
    have t0 : ((n : Int) != (n' : Int)) = true := by
      have q : ¬ ((n : Int) = (n' : Int)) := by omega
      simpa using q
    clear e
    go_enter Try.func29, Try.ntmps29
    go_wp2_with fail
    go_ret
    exact ⟨⟨_, rfl⟩, Below.refl _ _⟩
  case pos =>
  subst e
  go_enter Try.func29, Try.ntmps29
  go_wp2_with fail
  go_loopw [5] (fun i wr => ∃ k : Nat, k ≤ n ∧ i = .int .i64 k ∧ Below w.heap.size w wr)
    (fun i _ => n - (intOf i).toNat)
  case atStart => exact ⟨0, Nat.zero_le _, rfl, Below.refl _ _⟩
  case round =>
    obtain ⟨k, hk, rfl, hb⟩ := hrel
    by_cases hlt : k < n
    · obtain ⟨ad, rfl, h1, h2⟩ := (hA.next hb).at_ (k := k) (by rw [HN.out]; exact hlt)
      obtain ⟨ad', rfl, h3, h4⟩ := (hB.next hb).at_ (k := k) (by rw [HN'.out]; exact hlt)
      generalize zs.getD k 0 = z at *
      generalize zs'.getD k 0 = z' at *
      have i0 : (0 : Int) ≤ (k : Int) := by omega
      have i1 : (k : Int) < (n : Int) := by omega
      cases t1 : (z != z')
      · go_wp2_with fail
        go_quiet (fail)
        go_wp2_with fail
        go_roundw
        case rel => exact ⟨k + 1, by omega, by go_num, below_drewN' hb _⟩
        case measure => simp [intOf]; omega
      · go_wp2_with fail
        go_quiet (fail)
        go_wp2_with fail
        go_ret
        exact ⟨⟨_, rfl⟩, below_drewN' hb _⟩
    · obtain rfl : k = n := by omega
      go_wp2_with fail
      go_ret
      exact ⟨⟨_, rfl⟩, hb⟩
set_option maxRecDepth 100000 in
set_option maxHeartbeats 4000000 in
theorem one_ends (x y : Pr) (w : World) (h : IntsAt w x.A x.cs) (h' : IntsAt w y.A y.cs) (hl : x.cs.length ≤ 1000) :
    Calls Try.prog 38 #[x.v, y.v] w fun e w' => (∃ b, e = .returned (.bool b)) ∧ Below w.heap.size w w' := by
  have low := (below_alloc w (.cells (tkC x.pid x.j x.e x.s x.r (.slice x.A x.cs.length x.cap) x.st x.code) 61)).alloc (by simp) (.cells (tkC y.pid y.j y.e y.s y.r (.slice y.A y.cs.length y.cap) y.st y.code) 61)
  have k0 := (Bk.new w 61 (tkC x.pid x.j x.e x.s x.r (.slice x.A x.cs.length x.cap) x.st x.code)).alloc (.cells (tkC y.pid y.j y.e y.s y.r (.slice y.A y.cs.length y.cap) y.st y.code) 61)
  have k1 := Bk.new (w.alloc (.cells (tkC x.pid x.j x.e x.s x.r (.slice x.A x.cs.length x.cap) x.st x.code) 61)) 61 (tkC y.pid y.j y.e y.s y.r (.slice y.A y.cs.length y.cap) y.st y.code)
  rw [size_alloc] at k1
  have KS := Lib.hid (same_ends x.A y.A x.cap y.cap x.cs.length y.cs.length x.cs y.cs _ (h.next low) (h'.next low) rfl rfl hl)
  obtain ⟨⟨d0, d1, d2, d3, d4, d5, d6, d7⟩, _⟩ := k0.z8
  obtain ⟨⟨e0, e1, e2, e3, e4, e5, e6, e7⟩, _⟩ := k1.z8
  clear h h' k0 k1
  go_enter Try.func38, Try.ntmps38
  cases t0 : (x.pid == y.pid)
  · go_wp2_with fail
    go_ret
    exact ⟨⟨_, rfl⟩, low⟩
  cases t1 : (x.j == y.j)
  · go_wp2_with fail
    go_ret
    exact ⟨⟨_, rfl⟩, low⟩
  cases t2 : (x.e == y.e)
  · go_wp2_with fail
    go_ret
    exact ⟨⟨_, rfl⟩, low⟩
  cases t3 : (x.s == y.s)
  · go_wp2_with fail
    go_ret
    exact ⟨⟨_, rfl⟩, low⟩
  cases t4 : (x.r == y.r)
  · go_wp2_with fail
    go_ret
    exact ⟨⟨_, rfl⟩, low⟩
  cases t5 : (x.st == y.st)
  · go_wp2_with fail
    go_ret
    exact ⟨⟨_, rfl⟩, low⟩
  cases t6 : (x.code == y.code)
  · go_wp2_with fail
    go_ret
    exact ⟨⟨_, rfl⟩, low⟩
  go_wp2_with fail
  refine KS.out.mono ?_
  rintro _ w1 ⟨⟨b, rfl⟩, hb⟩
  go_wp2_with fail
  go_ret
  exact ⟨⟨_, rfl⟩, bmore low hb⟩
/-- Blocks of other types are as they were. -/
def KeepB (V V' : World) : Prop := ∀ (g t : Nat) (cs : Array Value), Bk V g t cs → t ≠ 85 → t ≠ 93 → t ≠ 58 → t ≠ 61 → t ≠ 3 → Bk V' g t cs
theorem KeepB.of_below {V V' : World} (h : Below V.heap.size V V') : KeepB V V' := fun _ _ _ k _ _ _ _ _ => k.next h
theorem KeepB.trans {V V' V'' : World} (h : KeepB V V') (h' : KeepB V' V'') : KeepB V V'' := fun g t cs k a b c d e => h' g t cs (h g t cs k a b c d e) a b c d e
section
variable {w V V' W : World} {p k r : Nat} {m : Option Nat} {N ND : Int} {T Q : List Pr} {S : List Int} {vL vS : Value}
theorem KeepB.of_tt (h : TbAt V p m k N T) (t : Tt V V' p m T) : KeepB V V' := fun _ _ _ q a b _ _ _ => q.tt h t a b
theorem KeepB.of_td (h : RT V r vL vS ND Q S) (t : Td (RX r vL vS) V V') : KeepB V V' := fun _ _ _ q _ _ c d e => t.bk q (h.not q c d (.inl e))
/-- What a call on the document's table does to both. -/
def RfO (w V V' : World) (p : Nat) (m : Option Nat) (k : Nat) (N : Int) (T : List Pr) (r : Nat) (vL vS : Value) (n : Nat) : Prop :=
  ∃ vL' vS' ND' Q' S', Hd w V' p m k N T r vL' vS' ND' Q' S' ∧ Q'.length ≤ n ∧ KeepB V V' ∧ Td (RX r vL vS) V V'
theorem Hd.out (h : Hd w V p m k N T r vL vS ND Q S) (ho : ROut V V' r vL vS Q) : RfO w V V' p m k N T r vL vS (Q.length + 1) := by
  obtain ⟨vL', vS', ND', Q', S', h1, h2, h3, h4⟩ := ho
  exact ⟨vL', vS', ND', Q', S', h.ref h2 h1 h3, h4, KeepB.of_td h.rt h2, h2⟩
theorem upd_A {T : List Pr} {x x' : Pr} (hx : x ∈ T) (hA : x'.A = x.A) : ∀ y ∈ updP T x', ∃ z ∈ T, y.A = z.A := by
  intro y hy
  obtain ⟨z, hz, e⟩ := List.mem_map.1 hy
  by_cases q : z.pid = x'.pid
  · rw [if_pos q] at e
    exact ⟨x, hx, by rw [← e]; exact hA⟩
  · rw [if_neg q] at e
    exact ⟨z, hz, by rw [← e]⟩
theorem A_rel (T : List Pr) (n : Int) : ∀ y ∈ relT T n, ∃ z ∈ T, y.A = z.A := by
  rcases relT_cases T n with e | ⟨x, hx, _, e⟩ <;> rw [e]
  · exact fun y hy => ⟨y, hy, rfl⟩
  · exact upd_A (lookP_mem hx).1 rfl
theorem A_sig (T : List Pr) (n g : Int) : ∀ y ∈ sgT T n g, ∃ z ∈ T, y.A = z.A := by
  rcases sgT_cases T n g with e | ⟨x, hx, _, _, e⟩ <;> rw [e]
  · exact fun y hy => ⟨y, hy, rfl⟩
  · refine upd_A (lookP_mem hx).1 ?_
    unfold sgP
    split <;> rfl
theorem A_exi (T : List Pr) (n c : Int) : ∀ y ∈ exT T n c, ∃ z ∈ T, y.A = z.A := by
  rcases exT_cases T n c with e | ⟨x, hx, _, e⟩ <;> rw [e]
  · exact fun y hy => ⟨y, hy, rfl⟩
  · exact upd_A (lookP_mem hx).1 rfl
theorem A_rp (T : List Pr) (n : Int) : ∀ y ∈ rpT T n, ∃ z ∈ T, y.A = z.A := by
  rcases rpT_cases T n with e | ⟨x, hx, _, e⟩ <;> rw [e]
  · exact fun y hy => ⟨y, hy, rfl⟩
  · exact fun y hy => ⟨y, (List.mem_filter.1 hy).1, rfl⟩
theorem Hd.pt' (h : Hd w V p m k N T r vL vS ND Q S) {T' : List Pr} (hA : ∀ y ∈ T', ∃ z ∈ T, y.A = z.A) : ∀ x ∈ T', ∀ ad, x.A = some ad → vS.ownBlock ≠ some ad.block := fun x hx ad e => by
  obtain ⟨z, hz, e2⟩ := hA x hx
  exact h.pt z hz ad (e2 ▸ e)
theorem hd40 (h : Hd w V p m k N T r vL vS ND Q S) {n : Int} (hn : wf n) (hW : Below V.heap.size V W) :
    Calls Try.prog 40 #[.pointer (some ⟨p, 0, none⟩), .int .i64 n] W fun e V' => (∃ er : Int, e = .returned (.int .i64 er)) ∧ Hd w V' p m k N (relT T n) r vL vS ND Q S ∧ KeepB V V' := by
  have h1 := h.next hW
  refine (release_any h1.lt.tab hn).mono ?_
  rintro e V' ⟨rfl, r1, r2⟩
  exact ⟨⟨_, rfl⟩, h1.prog (h1.lt.turn r1 r2 h1.lt.hm (hb_rel h1.lt.hb n)) r2 (h1.pt' (A_rel T n)), (KeepB.of_below hW).trans (KeepB.of_tt h1.lt.tab r2)⟩
theorem hd41 (h : Hd w V p m k N T r vL vS ND Q S) {n g : Int} (hn : wf n) (hW : Below V.heap.size V W) :
    Calls Try.prog 41 #[.pointer (some ⟨p, 0, none⟩), .int .i64 n, .int .i64 g] W fun e V' => (∃ er : Int, e = .returned (.int .i64 er)) ∧ Hd w V' p m k N (sgT T n g) r vL vS ND Q S ∧ KeepB V V' := by
  have h1 := h.next hW
  refine (signal_any h1.lt.tab g hn).mono ?_
  rintro e V' ⟨rfl, r1, r2⟩
  exact ⟨⟨_, rfl⟩, h1.prog (h1.lt.turn r1 r2 h1.lt.hm (hb_sig h1.lt.hb n g)) r2 (h1.pt' (A_sig T n g)), (KeepB.of_below hW).trans (KeepB.of_tt h1.lt.tab r2)⟩
theorem hd42 (h : Hd w V p m k N T r vL vS ND Q S) {n c : Int} (hn : wf n) (hW : Below V.heap.size V W) :
    Calls Try.prog 42 #[.pointer (some ⟨p, 0, none⟩), .int .i64 n, .int .i64 c] W fun e V' => (∃ er : Int, e = .returned (.int .i64 er)) ∧ Hd w V' p m k N (exT T n c) r vL vS ND Q S ∧ KeepB V V' := by
  have h1 := h.next hW
  refine (exitT_any h1.lt.tab c hn).mono ?_
  rintro e V' ⟨rfl, r1, r2⟩
  exact ⟨⟨_, rfl⟩, h1.prog (h1.lt.turn r1 r2 h1.lt.hm (hb_exi h1.lt.hb n c)) r2 (h1.pt' (A_exi T n c)), (KeepB.of_below hW).trans (KeepB.of_tt h1.lt.tab r2)⟩
/-- What Reap tells, of a task's cores. -/
theorem hd39 (h : Hd w V p m k N T r vL vS ND Q S) {n : Int} (hn : wf n) :
    Calls Try.prog 39 #[.pointer (some ⟨p, 0, none⟩), .int .i64 n] V fun e V' => (∃ (y : Pr) (er : Int), e = .returned (.tuple #[y.v, .int .i64 er]) ∧ Cs V' y.A y.cs ∧ y.cs.length ≤ 1000 ∧ ∀ ad, y.A = some ad → vS.ownBlock ≠ some ad.block) ∧ Hd w V' p m k N (rpT T n) r vL vS ND Q S ∧ KeepB V V' := by
  refine (reap_any h.lt.tab hn).mono ?_
  rintro e V' ⟨rfl, r1, r2, r3⟩
  refine ⟨?_, h.prog (h.lt.turn r1 r2 h.lt.hm (hb_rp h.lt.hb n)) r2 (h.pt' (A_rp T n)), KeepB.of_tt h.lt.tab r2⟩
  rcases rp_cases T n with ⟨_, _, e2⟩ | ⟨x, hx, _, _, _, e2⟩
  · rw [e2]
    exact ⟨⟨0, 0, 0, 0, 0, 0, 0, 0, none, 0, [], 0⟩, _, rfl, ⟨.inl rfl, fun ad e => by cases e⟩, Nat.zero_le _, fun ad e => by cases e⟩
  · rw [e2]
    exact ⟨x, _, rfl, r3 x hx, h.lt.tab.few_cs x (lookP_mem hx).1, h.pt x (lookP_mem hx).1⟩
theorem rf50 (h : Hd w V p m k N T r vL vS ND Q S) (hl : Q.length ≤ 255) (n : Int) : Calls Try.prog 50 #[.pointer (some ⟨r, 0, none⟩), .int .i64 n] V fun e V' => (∃ er : Int, e = .returned (.int .i64 er)) ∧ RfO w V V' p m k N T r vL vS (Q.length + 1) :=
  (rrel_any h.rt (by omega) n).mono fun _ _ ⟨h1, h2⟩ => ⟨h1, h.out h2⟩
theorem rf51 (h : Hd w V p m k N T r vL vS ND Q S) (hl : Q.length ≤ 255) (n g : Int) : Calls Try.prog 51 #[.pointer (some ⟨r, 0, none⟩), .int .i64 n, .int .i64 g] V fun e V' => (∃ er : Int, e = .returned (.int .i64 er)) ∧ RfO w V V' p m k N T r vL vS (Q.length + 1) :=
  (rsig_any h.rt (by omega) n g).mono fun _ _ ⟨h1, h2⟩ => ⟨h1, h.out h2⟩
theorem rf52 (h : Hd w V p m k N T r vL vS ND Q S) (hl : Q.length ≤ 255) (n c : Int) : Calls Try.prog 52 #[.pointer (some ⟨r, 0, none⟩), .int .i64 n, .int .i64 c] V fun e V' => (∃ er : Int, e = .returned (.int .i64 er)) ∧ RfO w V V' p m k N T r vL vS (Q.length + 1) :=
  (rexi_any h.rt (by omega) n c).mono fun _ _ ⟨h1, h2⟩ => ⟨h1, h.out h2⟩
theorem rf53 (h : Hd w V p m k N T r vL vS ND Q S) (hl : Q.length ≤ 255) (n : Int) : Calls Try.prog 53 #[.pointer (some ⟨r, 0, none⟩), .int .i64 n] V fun e V' => RpV V' e ∧ RfO w V V' p m k N T r vL vS (Q.length + 1) :=
  (rreap_any h.rt (by omega) n).mono fun _ _ ⟨h1, h2⟩ => ⟨h1, h.out h2⟩
end
end Go.Proofs.Ytjolkcomlindhaa
