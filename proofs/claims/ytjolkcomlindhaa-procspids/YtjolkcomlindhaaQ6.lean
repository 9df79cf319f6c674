/- The law on signals. -/
import Derived.Test.YtjolkcomlindhaaQ5
import Derived.Deep.DeepCutAuto
namespace Go.Proofs.Ytjolkcomlindhaa
open Go.RowKit Go.Shelf Go.Maps Go.Sort

theorem up_pid {T : List Pr} (hu : T.Pairwise fun a b => a.pid < b.pid) {x y : Pr} (hx : x ∈ T) (hy : y ∈ T) (e : x.pid = y.pid) : Up x y := by
  have h1 := lookP_of_mem hu hx
  have h2 := lookP_of_mem hu hy
  rw [e, h2] at h1
  cases h1
  exact Up.refl _
theorem Dd.up {N N' : Int} {T T' : List Pr} {o : Oq} (h : Dd N T o N' T') (hu : T.Pairwise fun a b => a.pid < b.pid) (hp : ∀ x ∈ T, 1 ≤ x.pid ∧ x.pid ≤ N) : ∀ x ∈ T, ∀ y ∈ T', x.pid = y.pid → Up x y := by
  intro x hx y hy e
  cases h with
  | same => exact up_pid hu hx hy e
  | new A cap b _ =>
    rcases List.mem_append.1 hy with q | q
    · exact up_pid hu hx q e
    · rw [List.mem_singleton.1 q] at e
      have := hp x hx
      have e : x.pid = N + 1 := e
      omega
  | rel _ =>
    rcases relT_cases T o.pid with q | ⟨z, hz, h0, q⟩ <;> rw [q] at hy
    · exact up_pid hu hx hy e
    · refine up_upd hu (x := z) (x' := { z with st := 1 }) (by show lookP T z.pid = _; rw [(lookP_mem hz).2]; exact hz) ⟨fun h => h, fun h e => (by have e' : z.sig = 0 := e; omega), (by show z.st ≤ 1; omega), fun h => (by omega)⟩ hy x hx e
  | sig _ =>
    rcases sgT_cases T o.pid o.n with q | ⟨z, hz, h0, h1, q⟩ <;> rw [q] at hy
    · exact up_pid hu hx hy e
    · refine up_upd hu (x := z) (x' := sgP z o.n) (by show lookP T z.pid = _; rw [(lookP_mem hz).2]; exact hz) ⟨fun h => ?_, fun h => ?_, ?_, fun h => absurd h h1⟩ hy x hx e
      · show (if z.sig = 9 then 9 else o.n) = 9
        rw [if_pos h]
      · show (if z.sig = 9 then 9 else o.n) ≠ 0
        rw [if_neg (by omega)]
        omega
      · show z.st ≤ if o.n = 9 ∧ z.st = 0 then 2 else z.st
        split <;> omega
  | exi _ =>
    rcases exT_cases T o.pid o.n with q | ⟨z, hz, h0, q⟩ <;> rw [q] at hy
    · exact up_pid hu hx hy e
    · refine up_upd hu (x := z) (x' := { z with st := 2, code := o.n }) (by show lookP T z.pid = _; rw [(lookP_mem hz).2]; exact hz) ⟨fun h => h, fun h e => (by have e' : z.sig = 0 := e; omega), (by show z.st ≤ 2; omega), fun h => (by omega)⟩ hy x hx e
  | rp _ =>
    rcases rpT_cases T o.pid with q | ⟨z, _, _, q⟩ <;> rw [q] at hy
    · exact up_pid hu hx hy e
    · exact up_pid hu hx (List.mem_filter.1 hy).1 e
theorem own_tt {V V' : World} {p k B n : Nat} {m : Option Nat} {N : Int} {T : List Pr} {v : Value} {xs : List Value} (h : V.ownsRow B 3 1 v n xs) (ht : TbAt V p m k N T) (t : Tt V V' p m T) : V'.ownsRow B 3 1 v n xs := by
  refine ⟨h.1, ?_⟩
  rcases h.2 with h0 | ⟨g, cap, cur, h1, h2, h3, h4⟩
  · exact .inl h0
  · have hk : Bk V g 3 cur := h3
    exact .inr ⟨g, cap, cur, h1, h2, hk.tt ht t (by decide) (by decide), h4⟩
def sgs (T : List Pr) : List Int := T.map (·.sig)
theorem sgs_snoc {T : List Pr} {k : Nat} {y : Pr} (h : T[k]? = some y) : iv ((sgs T).take (k + 1)) = iv ((sgs T).take k) ++ [.int .i64 y.sig] := by
  have h2 : (sgs T)[k]? = some y.sig := by unfold sgs; rw [List.getElem?_map, h]; rfl
  rw [List.take_add_one, h2]
  simp [iv]
set_option maxRecDepth 100000 in
set_option maxHeartbeats 8000000 in
theorem signals_law (KDo : DoesC) (A : Option Addr) (n cap : Nat) (os : List Oq) (w : World) (h : Sq w A n os) :
    Calls Try.prog 13 #[.slice A n cap] w fun e w' => e = .returned (.bool true) ∧ Below w.heap.size w w' := by
  obtain ⟨i0', hi, hz0, hz1, hz2⟩ := info_parts info3
  have KL := Lib.hid plive_any
  have KS := Lib.hid (small_any A n cap os 60 w h)
  have HS := Lib.hid h
  clear h
  cases hsm : smB os n 60
  · rw [hsm] at KS
    clear hsm
    go_enter Try.func13, Try.ntmps13
    go_wp2_with fail
    refine KS.out.mono ?_
    rintro _ w1 ⟨rfl, rfl⟩
    go_wp2_with fail
    refine (KL.out _).mono ?_
    rintro _ w9 ⟨rfl, hb9⟩
    go_wp2_with fail
    go_ret
    exact ⟨rfl, hb9⟩
  have HQ := Lib.hid (smB_true hsm)
  have hn60 : n ≤ 60 := by have := (smB_true hsm).2; omega
  rw [hsm] at KS
  clear hsm
  go_enter Try.func13, Try.ntmps13
  go_wp2_with fail
  refine KS.out.mono ?_
  rintro _ w1 ⟨rfl, rfl⟩
  go_wp2_with fail
  refine (tnew_any w).mono ?_
  rintro _ w1 ⟨p, rfl, hpl, hTb, hb⟩
  have L0 := Lib.hid (show Lt w w1 p none 0 0 [] from ⟨hTb, hb, hpl, (fun b e => by cases e), (fun x hx => by cases hx)⟩)
  clear hTb hb hpl
  go_wp2_with fail
  go_loopg [4] n (fun g s6 wr => ∃ (i : Nat) (m : Option Nat) (N : Int) (T : List Pr), i + g = n ∧ s6 = .int .i64 i ∧ Hid (Lt w wr p m i N T) ∧ Hid (T.length ≤ i ∧ N ≤ i))
  case atStart => exact ⟨0, none, 0, [], by omega, rfl, L0, Lib.hid ⟨Nat.le_refl _, Int.le_refl _⟩⟩
  case round =>
    clear L0
    obtain ⟨i, m, N, T, hig, rfl, HL, HK⟩ := hrel
    obtain ⟨wo, hwo⟩ : ∃ x, x = wr := ⟨_, rfl⟩
    subst hwo
    cases gk with
    | zero =>
      have hlt : ¬ ((i : Int) < (n : Int)) := by omega
      go_wp2_with fail
      refine (KL.out _).mono ?_
      rintro _ w9 ⟨rfl, hb9⟩
      go_wp2_with fail
      go_ret
      exact ⟨rfl, bmore HL.out.low hb9⟩
    | succ g =>
      have i0 : (0 : Int) ≤ (i : Int) := by omega
      have i1 : (i : Int) < (n : Int) := by omega
      have hT60 : T.length ≤ 60 := by have := HK.out.1; omega
      go_wp2_with fail
      refine (list_any HL.out.tab (by omega)).mono ?_
      rintro _ w3 ⟨v1, Q1, rfl, ht1, hb⟩
      obtain ⟨A1, k1, rfl⟩ := own_form ht1.row
      have L3 := Lib.hid (HL.out.next hb)
      have HT1 := Lib.hid ht1
      have hl1 := ht1.len
      have HTK := Lib.hid (ht1.tks HL.out.tab.few_cs)
      rw [hl1] at HT1 ⊢
      obtain ⟨n1, hn1⟩ : ∃ n1, n1 = T.length := ⟨_, rfl⟩
      rw [← hn1] at HT1 hT60 hl1 ⊢
      have HN1 := Lib.hid hn1
      have HL1 := Lib.hid hl1
      clear ht1 hb hl1 hn1 HL
      go_wp2_with fail
      go_loopg [6, 7] n1 (fun g s6 s7 wx => ∃ k : Nat, k + g = n1 ∧ s7 = .int .i64 k ∧ wx.ownsRow w3.heap.size 3 1 s6 k (iv ((sgs T).take k)) ∧ Below w3.heap.size w3 wx)
      case atStart => exact ⟨0, by omega, rfl, World.ownsRow_nil _ _ _ _, Below.refl _ _⟩
      case round =>
        obtain ⟨k, hkg, rfl, hrow, hb⟩ := hrel
        obtain ⟨A3, k3, rfl⟩ := own_form hrow
        have hsz := hb.size
        cases gk with
        | succ g2 =>
          have j0 : (0 : Int) ≤ (k : Int) := by omega
          have j1 : (k : Int) < (n1 : Int) := by omega
          have hiT : k < T.length := by rw [← HN1.out]; omega
          have hiQ : k < Q1.length := by rw [HL1.out]; omega
          have ey := List.getElem?_eq_getElem hiT
          have ez := List.getElem?_eq_getElem hiQ
          have hym : T[k] ∈ T := List.getElem_mem _
          have hzy := HT1.out.same k _ _ ez ey
          obtain ⟨ad, rfl, h1, u1⟩ := (HTK.out.next hb).at_ k _ ez
          have z0 := u1.c0
          rw [hzy.1] at z0
          have hpid := L3.out.tab.pids _ hym
          have hfew := L3.out.tab.few
          have KG := Lib.hid (signalled_any (L3.out.tab.next hb) (n := T[k].pid) (wf_iff.2 (by omega)))
          have hsg : sgnd T T[k].pid = T[k].sig := by unfold sgnd; rw [lookP_of_mem L3.out.tab.up hym]
          rw [hsg] at KG
          have HSN := Lib.hid (sgs_snoc ey)
          clear ey ez hym hzy u1 hsg hpid hfew
          generalize T[k] = y at *
          go_wp2_with (first
            | (go_at_call 43; (with_reducible refine KG.out.mono ?_); rintro _ wr ⟨rfl, rfl⟩)
            | (at_builtin; refine wpList_append_own _ rfl _ _ 45 rfl w3.heap.size 3 i0' (.int .i64 0) 1 8 Try.underlying45 hi hz0 hz1 hz2 rfl (by decide) _ _ _ rfl (hrow.alloc _) ⟨wr.heap.size, 0, none⟩ 1 1 [.int .i64 y.sig] rfl rfl (cell_one_new _ _ _) (by simp [Value.oneCell']) (by unfold maxLen; omega) (by omega) (by simp; omega) ?_; intro v6 w6 hown6 hgrow6 _; obtain ⟨g6, cap6, rfl⟩ := ownsRow_succ hown6; have hb6 := appended_below hrow (by omega) hgrow6))
          go_roundg g2
          case measure => omega
          case rel => exact ⟨k + 1, by omega, by go_num, by rw [HSN.out]; exact hown6, hb.trans hb6⟩
        | zero =>
          obtain rfl : k = n1 := by omega
          have hlt2 : ¬ ((k : Int) < (k : Int)) := by omega
          have hts : (sgs T).take k = sgs T := List.take_of_length_le (by unfold sgs; rw [List.length_map, ← HN1.out]; exact Nat.le_refl _)
          rw [hts] at hrow
          have HRow := Lib.hid hrow
          have L4 := Lib.hid (L3.out.next hb)
          have HT4 := Lib.hid (Told.next (v := .slice A1 k k1) (by have := HT1.out; exact this) hb)
          obtain ⟨ad, o, rfl, hm, hblk, hat⟩ := HS.out.still (i := i) (by omega)
          obtain ⟨⟨c0, c1, c2, c3, c4, c5, c6, c7, c8, c9, c10⟩, _⟩ := hat (wr.alloc (.cells dt0 58)) (bmore L4.out.low (below_alloc wr _))
          have KD := Lib.hid (KDo w wr p i m N T o L4.out (hat w (Below.refl _ _)).2 (HQ.out.1 o hm) (by omega) (by have := HK.out.2; omega) (by have := HK.out.1; omega))
          clear hat hm hblk hrow hb hts HT1 L3 HTK
          obtain ⟨od, opid, on, op0, oj, oe, os', or, oA, olen, ocap, ozs, ost, oc⟩ := o
          dsimp only [Oq.v] at c0 c1 c2 c3 c4 c5 c6 c7 c8 c9 c10 KD
          go_wp2_with fail
          refine KD.out.mono ?_
          rintro _ w6 ⟨⟨b, rfl⟩, m', N', T', hL, hD, hTt⟩
          have HK2 := Lib.hid (show T'.length ≤ i + 1 ∧ N' ≤ ((i + 1 : Nat) : Int) from by have := HK.out; have := hD.len; constructor <;> omega)
          have HU := Lib.hid (hD.up L4.out.tab.up L4.out.tab.pids)
          have L6 := Lib.hid hL
          have HT6 := Lib.hid (Told.tt (v := .slice A1 k k1) (by have := HT4.out; exact this) L4.out.tab hTt)
          have HR6 := Lib.hid (own_tt HRow.out L4.out.tab hTt)
          have HFW := Lib.hid L4.out.tab.few_cs
          clear KD hL hD hTt c0 c1 c2 c3 c4 c5 c6 c7 c8 c9 c10 HT4 L4 HRow
          go_wp2_with fail
          refine (list_any L6.out.tab (by have := HK2.out.1; omega)).mono ?_
          rintro _ w7 ⟨v2, Q2, rfl, ht2, hb⟩
          obtain ⟨A2, k2, rfl⟩ := own_form ht2.row
          have hl2 := ht2.len
          have L7 := Lib.hid (L6.out.next hb)
          have H2 := Lib.hid (And.intro (ht2.tks L6.out.tab.few_cs) ht2.same)
          have H1 := Lib.hid (And.intro (Told.tks (cap := k1) (by have := HT6.out.next hb; rw [← HL1.out] at this; exact this) HFW.out) HT6.out.same)
          have HI := Lib.hid (show IntsAt w7 A3 (sgs T) from ints_iv (by unfold sgs; rw [List.length_map, ← HN1.out]) (own_next HR6.out hb))
          rw [hl2]
          obtain ⟨n2, hn2⟩ : ∃ n2, n2 = T'.length := ⟨_, rfl⟩
          rw [← hn2] at hl2 ⊢
          have HN2 := Lib.hid hn2
          have HL2 := Lib.hid hl2
          have hn2' : n2 ≤ 61 := by have := HK2.out.1; omega
          clear ht2 hb hn2 hl2 HT6 HR6 L6
          go_wp2_with fail
          go_loopg [9] k (fun g s9 wx => ∃ a : Nat, a + g = k ∧ s9 = .int .i64 a ∧ Below w7.heap.size w7 wx)
          case atStart => exact ⟨0, by omega, rfl, Below.refl _ _⟩
          case round =>
            obtain ⟨a, hag, rfl, hb⟩ := hrel
            obtain ⟨w8, hw8⟩ : ∃ x, x = wr := ⟨_, rfl⟩
            subst hw8
            cases gk with
            | zero =>
              obtain rfl : a = k := by omega
              have hlt3 : ¬ ((a : Int) < (a : Int)) := by omega
              have L8 := Lib.hid (L7.out.next hb)
              go_wp2_with fail
              go_roundg g
              case measure => omega
              case rel => exact ⟨i + 1, m', N', T', by omega, by go_num, L8, HK2⟩
            | succ g3 =>
              have p0 : (0 : Int) ≤ (a : Int) := by omega
              have p1 : (a : Int) < (k : Int) := by omega
              have hiT : a < T.length := by rw [← HN1.out]; omega
              have hiQ : a < Q1.length := by rw [HL1.out]; omega
              have ey := List.getElem?_eq_getElem hiT
              have ez := List.getElem?_eq_getElem hiQ
              have hym : T[a] ∈ T := List.getElem_mem _
              have hzy := H1.out.2 a _ _ ez ey
              have HZ := Lib.hid (fun (W : World) (hW : Below w7.heap.size w7 W) => (H1.out.1.next hW).at_ a _ ez)
              have HSG := Lib.hid (fun (W : World) (hW : Below w7.heap.size w7 W) => (HI.out.next hW).at_ (k := a) (by unfold sgs; rw [List.length_map]; exact hiT))
              have hgd : (sgs T).getD a 0 = T[a].sig := by unfold sgs; simp [List.getD, hiT]
              rw [hgd] at HSG
              have HUY := Lib.hid (fun y' (hy' : y' ∈ T') (e : T[a].pid = y'.pid) => HU.out _ hym y' hy' e)
              have HZY := Lib.hid hzy
              clear ey ez hym hzy hgd
              generalize T[a] = y at *
              generalize Q1[a] = z at *
              go_wp2_with fail
              go_loopg [10] n2 (fun g s10 wx => ∃ c : Nat, c + g = n2 ∧ s10 = .int .i64 c ∧ Below w7.heap.size w7 wx)
              case atStart => exact ⟨0, by omega, rfl, hb⟩
              case round =>
                clear hb
                obtain ⟨c, hcg, rfl, hb⟩ := hrel
                cases gk with
                | zero =>
                  obtain rfl : c = n2 := by omega
                  have hlt4 : ¬ ((c : Int) < (c : Int)) := by omega
                  go_wp2_with fail
                  go_roundg g3
                  case measure => omega
                  case rel => exact ⟨a + 1, by omega, by go_num, hb⟩
                | succ g4 =>
                  have q0 : (0 : Int) ≤ (c : Int) := by omega
                  have q1 : (c : Int) < (n2 : Int) := by omega
                  have hjT : c < T'.length := by rw [← HN2.out]; omega
                  have hjQ : c < Q2.length := by rw [HL2.out]; omega
                  have ev := List.getElem?_eq_getElem hjT
                  have eu := List.getElem?_eq_getElem hjQ
                  have hvm : T'[c] ∈ T' := List.getElem_mem _
                  have huv := H2.out.2 c _ _ eu ev
                  have HUU := Lib.hid (fun (W : World) (hW : Below w7.heap.size w7 W) => (H2.out.1.next hW).at_ c _ eu)
                  obtain ⟨ad, rfl, r1, u1⟩ := HZ.out wr hb
                  obtain ⟨ad2, rfl, r2, u2⟩ := HUU.out wr hb
                  obtain ⟨a0, _⟩ := u1.in_ (by rw [block_add]; exact r1)
                  obtain ⟨b0, _⟩ := u2.in_ (by rw [block_add]; exact r2)
                  have d0 := u2.c0
                  have hIn := Mo.inNonempty wr.heap.size wr
                  have hpid := L7.out.tab.pids _ hvm
                  have hfew := L7.out.tab.few
                  have KG := Lib.hid (fun (W : World) (hW : Below w7.heap.size w7 W) => signalled_any (L7.out.tab.next hW) (n := T'[c].pid) (wf_iff.2 (by omega)))
                  have hsg : sgnd T' T'[c].pid = T'[c].sig := by unfold sgnd; rw [lookP_of_mem L7.out.tab.up hvm]
                  rw [hsg] at KG
                  have HUV := Lib.hid (fun e => HUY.out _ hvm e)
                  have HVU := Lib.hid huv
                  clear ev eu hvm huv u1 u2 hsg hpid hfew
                  generalize T'[c] = y' at *
                  generalize Q2[c] = u at *
                  by_cases he : u.pid = z.pid
                  · have hpe : y.pid = y'.pid := by rw [← HZY.out.1, ← HVU.out.1]; exact he.symm
                    have hup := HUV.out hpe
                    have hst := HVU.out.2.2.2.2.2.1
                    have hcd := HVU.out.2.2.2.2.2.2.1
                    have hst2 := HZY.out.2.2.2.2.2.1
                    have hcd2 := HZY.out.2.2.2.2.2.2.1
                    have hupid := HVU.out.1
                    have he1 : (u.pid == z.pid) = true := by simpa using he
                    have he2 : (u.pid != z.pid) = false := by unfold bne; rw [he1]; rfl
                    have g9 := Lib.hid hup.g9
                    have g15 := Lib.hid hup.g15
                    have gst := hup.st
                    have gov := Lib.hid hup.over
                    rw [← hst, ← hst2] at gst
                    rw [← hst2, ← hcd2, ← hcd] at gov
                    rw [hupid] at d0
                    clear he hpe hup hst hcd hst2 hcd2 hupid
                    have t3 : decide (u.st < z.st) = false := by simp; omega
                    go_upto_region 23 with fail
                    refine Mo.region_in wr.heap.size (by kernel_rfl) (by kernel_rfl) ?_
                    repeat (go_big_quiet_step (fail))
                    refine wpQuiet_nil ?_
                    intro w9 hb9
                    clear a0 b0 d0 r1 r2
                    replace hb := bmore hb hb9
                    clear hb9
                    obtain ⟨ad', e', r1, u1⟩ := HZ.out w9 hb
                    cases e'
                    obtain ⟨ad2', e', r2, u2⟩ := HUU.out w9 hb
                    cases e'
                    have d0 := u2.c0
                    rw [HVU.out.1] at d0
                    clear u1 u2
                    go_upto_region 24 with fail
                    have KG2 := Lib.hid (KG.out w9 hb)
                    go_upto_region 25 with (go_at_call 43; (with_reducible refine KG2.out.mono ?_); rintro _ w9 ⟨rfl, rfl⟩)
                    clear d0 KG2
                    obtain ⟨ad3, rfl, s1, s2⟩ := HSG.out w9 hb
                    obtain ⟨ad', e', r1, u1⟩ := HZ.out w9 hb
                    cases e'
                    obtain ⟨ad2', e', r2, u2⟩ := HUU.out w9 hb
                    cases e'
                    obtain ⟨_, _, _, _, _, _, a6, a7⟩ := u1.in_ (by rw [block_add]; exact r1)
                    obtain ⟨_, _, _, _, _, _, b6, b7⟩ := u2.in_ (by rw [block_add]; exact r2)
                    have s3 := Mo.In.cell (B := w9.heap.size) (p := ad3.add a) (by rw [block_add]; exact s1) s2
                    have hIn := Mo.inNonempty w9.heap.size w9
                    clear u1 u2 s2
                    have HC := Lib.hid (show ((y.sig == 9) = true ∧ (y'.sig == 9) = true ∧ (y'.sig != 9) = false ∧ (y.sig == 15) = false) ∨ ((y.sig == 9) = false ∧ (y.sig == 15) = true ∧ (y'.sig == 0) = false) ∨ ((y.sig == 9) = false ∧ (y.sig == 15) = false) from by
                      by_cases k9 : y.sig = 9
                      · exact .inl ⟨by simpa using k9, by simpa using g9.out k9, by simpa using g9.out k9, by rw [k9]; rfl⟩
                      · by_cases k15 : y.sig = 15
                        · exact .inr (.inl ⟨by simpa using k9, by simpa using k15, by simpa using g15.out k15⟩)
                        · exact .inr (.inr ⟨by simpa using k9, by simpa using k15⟩))
                    go_cut [115] (fun s115 wx => s115 = .bool false ∧ Below w7.heap.size w7 wx)
                    case first =>
                      rcases HC.out with ⟨e1, e2, e3, e4⟩ | ⟨e1, e2, e3⟩ | ⟨e1, e2⟩
                      · refine Mo.region_in w9.heap.size (by kernel_rfl) (by kernel_rfl) ?_
                        repeat (go_big_quiet_step (fail))
                        refine wpQuiet_nil ?_
                        intro wn hbn
                        go_wp2_with fail
                        go_meet
                        exact ⟨rfl, bmore hb hbn⟩
                      · refine Mo.region_in w9.heap.size (by kernel_rfl) (by kernel_rfl) ?_
                        repeat (go_big_quiet_step (fail))
                        refine wpQuiet_nil ?_
                        intro wn hbn
                        go_wp2_with fail
                        go_meet
                        exact ⟨rfl, bmore hb hbn⟩
                      · refine Mo.region_in w9.heap.size (by kernel_rfl) (by kernel_rfl) ?_
                        repeat (go_big_quiet_step (fail))
                        refine wpQuiet_nil ?_
                        intro wn hbn
                        go_wp2_with fail
                        go_meet
                        exact ⟨rfl, bmore hb hbn⟩
                    case rest =>
                      obtain ⟨rfl, hbc⟩ := hcut
                      clear a6 a7 b6 b7 s3 r1 r2 s1 HC hIn t3
                      replace hb := hbc
                      clear hbc
                      obtain ⟨w10, hw10⟩ : ∃ x, x = wc := ⟨_, rfl⟩
                      subst hw10
                      go_upto_region 27 with fail
                      obtain ⟨ad3', e', s1, s2⟩ := HSG.out w10 hb
                      cases e'
                      obtain ⟨ad', e', r1, u1⟩ := HZ.out w10 hb
                      cases e'
                      obtain ⟨ad2', e', r2, u2⟩ := HUU.out w10 hb
                      cases e'
                      obtain ⟨_, _, _, _, _, _, a6, a7⟩ := u1.in_ (by rw [block_add]; exact r1)
                      obtain ⟨_, _, _, _, _, _, b6, b7⟩ := u2.in_ (by rw [block_add]; exact r2)
                      have s3 := Mo.In.cell (B := w10.heap.size) (p := ad3.add a) (by rw [block_add]; exact s1) s2
                      have hIn := Mo.inNonempty w10.heap.size w10
                      clear u1 u2 s2
                      go_cut [142] (fun s142 wx => s142 = .bool false ∧ Below w7.heap.size w7 wx)
                      case first =>
                        cases z2 : (z.st == 2)
                        · rcases u134 with (_ | _) | _ | _ | _ | _ | _ | _ | _ | _ | _ | _ | _ | _ | _ | _
                          all_goals
                            refine Mo.region_in w10.heap.size (by kernel_rfl) (by kernel_rfl) ?_
                            repeat (go_big_quiet_step (fail))
                            refine wpQuiet_nil ?_
                            intro wn hbn
                            go_wp2_with fail
                            go_meet
                            exact ⟨rfl, bmore hb hbn⟩
                        · obtain ⟨v1, v2⟩ := gov.out (by simpa using z2)
                          have f1 : (u.code == z.code) = true := by simpa using v1
                          have f2 : (u.code != z.code) = false := by unfold bne; rw [f1]; rfl
                          have f3 : (y'.sig == y.sig) = true := by simpa using v2
                          have f4 : (y'.sig != y.sig) = false := by unfold bne; rw [f3]; rfl
                          clear v1 v2
                          refine Mo.region_in w10.heap.size (by kernel_rfl) (by kernel_rfl) ?_
                          repeat (go_big_quiet_step (fail))
                          refine wpQuiet_nil ?_
                          intro wn hbn
                          go_wp2_with fail
                          go_meet
                          exact ⟨rfl, bmore hb hbn⟩
                      case rest =>
                        obtain ⟨rfl, hbc⟩ := hcut
                        clear a6 a7 b6 b7 s3 r1 r2 s1 hIn
                        go_wp2_with fail
                        go_roundg g4
                        case measure => omega
                        case rel => exact ⟨c + 1, by omega, by go_num, hbc⟩
                  · have he1 : (u.pid == z.pid) = false := by simpa using he
                    have he2 : (u.pid != z.pid) = true := by unfold bne; rw [he1]; rfl
                    clear he d0
                    go_upto_region 23 with fail
                    refine Mo.region_in wr.heap.size (by kernel_rfl) (by kernel_rfl) ?_
                    repeat (go_big_quiet_step (fail))
                    refine wpQuiet_nil ?_
                    intro w9 hb9
                    clear a0 b0
                    go_wp2_with fail
                    go_roundg g4
                    case measure => omega
                    case rel => exact ⟨c + 1, by omega, by go_num, bmore hb hb9⟩
end Go.Proofs.Ytjolkcomlindhaa
