/- The law on orders of votes. -/
import Derived.Test.YtodgkjmkjahkiaaU4
import Derived.Test.YtodgkjmkjahkiaaU6
import Derived.Deep.RegionHeld3
import Derived.IntWalk
namespace Go.Proofs.Ytodgkjmkjahkiaa
open Go.RowKit Go.Maps

/-- The places that have voted, of the second tally. -/
def Bk2 (back : Bool) (n i j : Nat) : Prop := if back then n ≤ j + i else j < i
theorem Il.take {w : World} {A : Option Addr} {m n : Nat} {zs : List Int} (h : Il w A m zs) (hn : n ≤ m) : Il w A n (zs.take n) :=
  ⟨h.ints.take n, by rw [List.length_take, h.len]; omega, Nat.le_trans hn h.most⟩
set_option maxRecDepth 100000 in
set_option maxHeartbeats 8000000 in
theorem torder_law (A S : Option Addr) (n cap m cc : Nat) (zs cs : List Int) (back : Bool) (w : World) (h : Il w A n zs) (hS : Il w S m cs) (hcc : m ≤ cc) :
    Calls Try.prog 13 #[.slice A n cap, .slice S m cc, .bool back] w fun e w' => e = .returned (.bool true) ∧ Below w.heap.size w w' := by
  have KL := Lib.hid tlive_any
  have hm1 := hS.most
  have hn1 := h.most
  unfold maxLen at hm1 hn1
  have HI := Lib.hid h
  have HS := Lib.hid hS
  clear h hS
  by_cases gn : n > 16
  · have gn' : (n : Int) > 16 := by omega
    go_enter Try.func13, Try.ntmps13
    go_wp2_with (go_at_call 29; (with_reducible refine (KL.out _).mono ?_); rintro _ w9 ⟨rfl, hb9⟩)
    go_ret
    exact ⟨rfl, hb9⟩
  · have gn' : ¬ ((n : Int) > 16) := by omega
    by_cases gm : m < n
    · have gm' : (m : Int) < (n : Int) := by omega
      go_enter Try.func13, Try.ntmps13
      go_wp2_with (go_at_call 29; (with_reducible refine (KL.out _).mono ?_); rintro _ w9 ⟨rfl, hb9⟩)
      go_ret
      exact ⟨rfl, hb9⟩
    · have gm' : ¬ ((m : Int) < (n : Int)) := by omega
      go_enter Try.func13, Try.ntmps13
      go_wp2_with fail
      refine (rnew_any A n cap zs w HI.out).mono ?_
      rintro _ w1 ⟨(⟨hno, rfl⟩ | ⟨hok, q0, va, vb, vc, rfl, _, _⟩), hb1⟩
      · go_wp2_with (go_at_call 29; (with_reducible refine (KL.out _).mono ?_); rintro _ w9 ⟨rfl, hb9⟩)
        go_ret
        exact ⟨rfl, bmore hb1 hb9⟩
      · have HOK := Lib.hid hok
        clear hok
        go_wp2_with fail
        refine (tnew_any A n cap zs w1 (HI.out.next hb1)).mono ?_
        rintro _ w2 ⟨(⟨hno, _⟩ | ⟨_, p, bv, bc, rfl, hT, hp, hv, hc⟩), hb2⟩
        · exact absurd hno (by rw [HOK.out]; simp)
        have hb12 := bmore hb1 hb2
        go_wp2_with fail
        refine (tnew_any A n cap zs w2 (HI.out.next hb12)).mono ?_
        rintro _ w3 ⟨(⟨hno, _⟩ | ⟨_, q, cv, cx, rfl, hU, hq, hv2, hc2⟩), hb3⟩
        · exact absurd hno (by rw [HOK.out]; simp)
        obtain ⟨⟨_, _, _, m1⟩, ⟨_, _, _, m2⟩⟩ := hT.maps
        have l1 := m1.lt
        have l2 := m2.lt
        have hs1 := hb1.size
        have hs12 := hb12.size
        have S0 := Lib.hid (show Two w w3 p bv bc q cv cx 0 ⟨zs, List.replicate n 0, List.replicate n (-1)⟩ ⟨zs, List.replicate n 0, List.replicate n (-1)⟩ from ⟨hT.next hb3, hU, by omega, by omega, by omega, by omega, bmore hb12 hb3, by omega, by omega, by omega, by omega⟩)
        have VT := Lib.hid (Vot.new (P := fun j => j < 0) HOK.out HI.out.len (fun i hi q => absurd q (Nat.not_lt_zero _)))
        have VU := Lib.hid (Vot.new (P := fun j => Bk2 back n 0 j) HOK.out HI.out.len (fun i hi q => by unfold Bk2 at q; cases back <;> simp at q <;> omega))
        clear hT hU hp hv hc hq hv2 hc2 hb1 hb2 hb12 hb3 m1 m2 l1 l2 hs1 hs12
        go_wp2
        go_loopg [10] n (fun g s10 wr => ∃ (i : Nat) (T U : Tv), i + g = n ∧ s10 = .int .i64 i ∧ Two w wr p bv bc q cv cx (2 * i) T U ∧ Hid (Vot zs T (fun j => j < i) ∧ Vot zs U (fun j => Bk2 back n i j) ∧ ∀ j, j < i → 0 ≤ cs.getD j 0 ∧ cs.getD j 0 ≤ 255))
        case atStart => exact ⟨0, _, _, by omega, rfl, S0.out, Lib.hid ⟨VT.out, VU.out, fun j hj => absurd hj (Nat.not_lt_zero _)⟩⟩
        case round =>
          clear S0 VT VU
          obtain ⟨i, T, U, hig, rfl, hS2, HK⟩ := hrel
          have ST := Lib.hid hS2
          clear hS2
          cases gk with
          | zero =>
            obtain rfl : i = n := by omega
            have hlt : ¬ ((i : Int) < (i : Int)) := by omega
            have HE0 := Lib.hid (show Exi zs cs T (fun x => x < 0) ∧ Exi zs cs U (fun x => i ≤ x + 0) from
              ⟨Exi.start HK.out.1 (fun x hx => by have := HI.out.len; omega) (fun x hx => Nat.not_lt_zero x), Exi.start HK.out.2.1 (fun x hx => by have := HI.out.len; unfold Bk2; cases back <;> simp <;> omega) (fun x hx => by have := HI.out.len; omega)⟩)
            have HC := Lib.hid HK.out.2.2
            have hpos := (okN_iff.1 HOK.out).2
            rw [HI.out.len] at hpos
            clear HK
            obtain ⟨wo, hwo⟩ : ∃ x, x = wr := ⟨_, rfl⟩
            subst hwo
            go_wp2
            go_loopg [12] i (fun g2 s12 wz => ∃ (j : Nat) (T1 U1 : Tv), j + g2 = i ∧ s12 = .int .i64 j ∧ Two w wz p bv bc q cv cx (2 * i + 2 * j) T1 U1 ∧ Hid (Exi zs cs T1 (fun x => x < j) ∧ Exi zs cs U1 (fun x => i ≤ x + j)))
            case atStart => exact ⟨0, _, _, by omega, rfl, ST.out, HE0⟩
            case round =>
              clear ST HE0
              obtain ⟨j, T1, U1, hjg, rfl, hS3, HX⟩ := hrel
              have ST1 := Lib.hid hS3
              clear hS3
              cases gk with
              | zero =>
                obtain rfl : j = i := by omega
                have hlt2 : ¬ ((j : Int) < (j : Int)) := by omega
                have hl := HI.out.len
                obtain ⟨et, ct⟩ := HX.out.1.over (fun x hx => by omega) (fun x hx => (HC.out x (by omega)).1) (by rw [HS.out.len]; omega)
                obtain ⟨eu, cu⟩ := HX.out.2.over (fun x hx => by omega) (fun x hx => (HC.out x (by omega)).1) (by rw [HS.out.len]; omega)
                rw [hl] at ct cu
                obtain ⟨ads, rfl, _, _⟩ := HS.out.ints.at_ (k := 0) (by rw [HS.out.len]; omega)
                have hcap : (j : Int) ≤ (cc : Int) := by omega
                have j0 : (0 : Int) ≤ (j : Int) := by omega
                have KT := Lib.hid (show ∀ n : In wr.heap.size wr, Calls Try.prog 33 #[.pointer (some ⟨p, 0, none⟩)] n.val fun e w' => e = .returned (.int .i64 3) ∧ Below n.val.heap.size n.val w' from fun n => by have := state_any (ST1.out.t.next n.ok); rw [et] at this; exact this)
                have KU := Lib.hid (show ∀ n : In wr.heap.size wr, Calls Try.prog 33 #[.pointer (some ⟨q, 0, none⟩)] n.val fun e w' => e = .returned (.int .i64 3) ∧ Below n.val.heap.size n.val w' from fun n => by have := state_any (ST1.out.u.next n.ok); rw [eu] at this; exact this)
                have KC := Lib.hid (show ∀ n : In wr.heap.size wr, Calls Try.prog 35 #[.pointer (some ⟨p, 0, none⟩)] n.val fun e w' => e = .returned (.int .i64 (wrst (cs.take j))) ∧ Below n.val.heap.size n.val w' from fun n => by have := code_any (ST1.out.t.next n.ok); rw [ct] at this; exact this)
                have KD := Lib.hid (show ∀ n : In wr.heap.size wr, Calls Try.prog 35 #[.pointer (some ⟨q, 0, none⟩)] n.val fun e w' => e = .returned (.int .i64 (wrst (cs.take j))) ∧ Below n.val.heap.size n.val w' from fun n => by have := code_any (ST1.out.u.next n.ok); rw [cu] at this; exact this)
                have KW := Lib.hid (show ∀ n : In wr.heap.size wr, Calls Try.prog 39 #[.slice (some ads) j cc] n.val fun e w' => e = .returned (.int .i64 (wrst (cs.take j))) ∧ w' = n.val from fun n => worst_any (some ads) j cc (cs.take j) n.val ((HS.out.take (by omega)).next (bmore ST1.out.low n.ok)))
                generalize wrst (cs.take j) = v at *
                clear et ct eu cu hl HX HC HOK
                have hIn := inNonempty wr.heap.size wr
                go_wp2
                refine region_in wr.heap.size (by kernel_rfl) (by kernel_rfl) ?_
                repeat (go_big_quiet_step (first
                  | (go_at_call 33; with_reducible exact Calls.in_of (Nat.le_refl _) (KT.out _))
                  | (go_at_call 33; with_reducible exact Calls.in_of (Nat.le_refl _) (KU.out _))
                  | (go_at_call 35; with_reducible exact Calls.in_of (Nat.le_refl _) (KC.out _))
                  | (go_at_call 35; with_reducible exact Calls.in_of (Nat.le_refl _) (KD.out _))
                  | (go_at_call 39; with_reducible exact Calls.in_eq (KW.out _))
                  | (go_at_call 29; with_reducible exact Calls.in_of (Nat.le_refl _) (KL.out _))))
                refine wpQuiet_nil ?_
                intro w7 hb7
                clear hIn KT KU KC KD KW
                go_wp2
                go_ret
                exact ⟨rfl, bmore ST1.out.low hb7⟩
              | succ g2 =>
                obtain ⟨jx, hjx⟩ : ∃ jx : Nat, jx + j + 1 = i := ⟨i - 1 - j, by omega⟩
                have j0 : (0 : Int) ≤ (j : Int) := by omega
                have j1 : (j : Int) < (i : Int) := by omega
                have j2 : (j : Int) < (m : Int) := by omega
                have k0 : (0 : Int) ≤ (jx : Int) := by omega
                have k1 : (jx : Int) < (i : Int) := by omega
                have k2 : (jx : Int) < (m : Int) := by omega
                have hsub : (i : Int) - 1 - (j : Int) = (jx : Int) := by omega
                have hw1 : IntKind.i64.wrap ((i : Int) - 1) = (i : Int) - 1 := IntWalk.i64_in _ (by omega)
                have hw2 : IntKind.i64.wrap ((i : Int) - 1 - (j : Int)) = (jx : Int) := (IntWalk.i64_in _ (by omega)).trans hsub
                have hw3 : IntKind.i64.wrap (jx : Int) = (jx : Int) := IntWalk.i64_in _ (by omega)
                have hlz := HI.out.len
                have hls := HS.out.len
                obtain ⟨e1, X1⟩ := HX.out.1.exit (i := j) (by omega) (Nat.lt_irrefl j) (HC.out j (by omega)) (Q := fun x => x < j + 1) (fun x => by omega)
                obtain ⟨e2, X2⟩ := HX.out.2.exit (i := jx) (by omega) (show ¬ (i ≤ jx + j) by omega) (HC.out jx (by omega)) (Q := fun x => i ≤ x + (j + 1)) (fun x => by omega)
                have e0 := HX.out.1.goes (i := j) (by omega) (Nat.lt_irrefl j)
                have HN := Lib.hid (And.intro X1 X2)
                obtain ⟨adz, rfl, _, _⟩ := HI.out.ints.at_ (k := j) (by omega)
                obtain ⟨ads, rfl, _, _⟩ := HS.out.ints.at_ (k := j) (by omega)
                have CZ := Lib.hid (fun V (hb : Below w.heap.size w V) => And.intro (((HI.out.ints.next hb).cellAt' (k := j) (by omega)).1) (((HI.out.ints.next hb).cellAt' (k := jx) (by omega)).1))
                have CS := Lib.hid (fun V (hb : Below w.heap.size w V) => And.intro (((HS.out.ints.next hb).cellAt' (k := j) (by omega)).1) (((HS.out.ints.next hb).cellAt' (k := jx) (by omega)).1))
                have KS := Lib.hid (show ∀ V, Below wr.heap.size wr V → Calls Try.prog 33 #[.pointer (some ⟨p, 0, none⟩)] V fun e w' => e = .returned (.int .i64 1) ∧ Below V.heap.size V w' from fun V hb => by have := state_any (ST1.out.t.next hb); rw [e0] at this; exact this)
                have KP := Lib.hid (fun V (hb : Below wr.heap.size wr V) => (ST1.out.next hb).et (by omega) (zs.getD j 0) (cs.getD j 0))
                rw [e1] at KP
                have KQ := Lib.hid (fun V (h : Two w V p bv bc q cv cx (2 * i + 2 * j + 1) (exitT T1 (zs.getD j 0) (cs.getD j 0)) U1) => h.eu (by omega) (zs.getD jx 0) (cs.getD jx 0))
                rw [e2] at KQ
                clear e0 e1 e2 X1 X2 hlz hls HX
                generalize exitT T1 (zs.getD j 0) (cs.getD j 0) = T2 at *
                generalize exitT U1 (zs.getD jx 0) (cs.getD jx 0) = U2 at *
                generalize zs.getD j 0 = yi at *
                generalize cs.getD j 0 = ci at *
                generalize zs.getD jx 0 = yk at *
                generalize cs.getD jx 0 = ck at *
                go_wp2
                obtain ⟨c0, c1⟩ := CZ.out _ ST1.out.low
                obtain ⟨c2, c3⟩ := CS.out _ ST1.out.low
                have LW := Lib.hid ST1.out.low
                go_region_held3 (fun W => W.cell? (adz.add j) = some (.int .i64 yi) ∧ W.cell? (adz.add jx) = some (.int .i64 yk) ∧ W.cell? (ads.add j) = some (.int .i64 ci) ∧ W.cell? (ads.add jx) = some (.int .i64 ck))
                  (first | exact ⟨c0, c1, c2, c3⟩)
                  (first
                    | (go_at_call 33; (with_reducible refine (KS.out _ (by first | exact (Below.refl _ _).drew | exact Below.refl _ _)).mono ?_); rintro _ w4 ⟨rfl, hb4⟩; (first | replace hb4 := undrew2 hb4 | skip); obtain ⟨d0, d1⟩ := CZ.out w4 (bmore LW.out hb4); obtain ⟨d2, d3⟩ := CS.out w4 (bmore LW.out hb4); replace c0 := d0; replace c1 := d1; replace c2 := d2; replace c3 := d3; clear d0 d1 d2 d3)
                    | (go_at_call 42; (with_reducible refine (KP.out _ hb4).mono ?_); rintro _ w5 ⟨rfl, hS5, _⟩; obtain ⟨d0, d1⟩ := CZ.out w5 hS5.low; obtain ⟨d2, d3⟩ := CS.out w5 hS5.low; replace c0 := d0; replace c1 := d1; replace c2 := d2; replace c3 := d3; clear d0 d1 d2 d3)
                    | (go_at_call 42; (with_reducible refine (KQ.out _ hS5).mono ?_); rintro _ w6 ⟨rfl, hS6, _⟩; obtain ⟨d0, d1⟩ := CZ.out w6 hS6.low; obtain ⟨d2, d3⟩ := CS.out w6 hS6.low; replace c0 := d0; replace c1 := d1; replace c2 := d2; replace c3 := d3; clear d0 d1 d2 d3))
                all_goals
                  clear c0 c1 c2 c3
                  go_wp2
                  go_roundg g2
                  case measure => omega
                  case rel => exact ⟨j + 1, T2, U2, by omega, by go_num, hS6, HN⟩
          | succ g =>
            have i0 : (0 : Int) ≤ (i : Int) := by omega
            have i1 : (i : Int) < (n : Int) := by omega
            have i2 : (i : Int) < (m : Int) := by omega
            obtain ⟨ad, rfl, h1, h2⟩ := (HS.out.ints.next ST.out.low).at_ (k := i) (by rw [HS.out.len]; omega)
            have hx := Lib.hid (show 0 ≤ cs.getD i 0 → cs.getD i 0 ≤ 255 → ∀ j, j < i + 1 → 0 ≤ cs.getD j 0 ∧ cs.getD j 0 ≤ 255 from fun h0 h1 j hj => by
              rcases Nat.lt_or_ge j i with h | h
              · exact HK.out.2.2 j h
              · obtain rfl : j = i := by omega
                exact ⟨h0, h1⟩)
            generalize cs.getD i 0 = z at *
            by_cases z0 : z < 0
            · go_wp2_with (go_at_call 29; (with_reducible refine (KL.out _).mono ?_); rintro _ w9 ⟨rfl, hb9⟩)
              go_ret
              exact ⟨rfl, bmore ST.out.low hb9⟩
            · by_cases z1 : z > 255
              · go_wp2_with (go_at_call 29; (with_reducible refine (KL.out _).mono ?_); rintro _ w9 ⟨rfl, hb9⟩)
                go_ret
                exact ⟨rfl, bmore ST.out.low hb9⟩
              · have hx2 := Lib.hid (hx.out (by omega) (by omega))
                obtain ⟨kx, hkx, hkn, hkb⟩ : ∃ kx : Nat, (kx = if back then n - 1 - i else i) ∧ kx < n ∧ ∀ j, (Bk2 back n (i + 1) j ↔ Bk2 back n i j ∨ j = kx) := by
                  refine ⟨_, rfl, by cases back <;> simp <;> omega, fun j => ?_⟩
                  unfold Bk2
                  cases back <;> simp <;> omega
                have hnk : ¬ Bk2 back n i kx := by
                  rw [hkx]
                  unfold Bk2
                  cases back <;> simp <;> omega
                have hlz := HI.out.len
                obtain ⟨e1, V1⟩ := HK.out.1.vote (i := i) (by omega) (Nat.lt_irrefl i) (Q := fun j => j < i + 1) (fun j => by omega)
                obtain ⟨e2, V2⟩ := HK.out.2.1.vote (i := kx) (by omega) hnk (Q := fun j => Bk2 back n (i + 1) j) hkb
                have HN := Lib.hid (And.intro V1 V2)
                have KV := Lib.hid (ST.out.vt (by omega) (zs.getD i 0) true)
                rw [e1] at KV
                have E2 := Lib.hid e2
                obtain ⟨adN, rfl, _, hzi⟩ := (HI.out.ints.next ST.out.low).at_ (k := i) (by omega)
                have k0 : (0 : Int) ≤ (kx : Int) := by omega
                have k1 : (kx : Int) < (n : Int) := by omega
                have HKX := Lib.hid hkx
                clear e1 e2 V1 V2 hnk hkb hkx hlz hx
                generalize voteT T (zs.getD i 0) true = T' at *
                generalize hU' : voteT U (zs.getD kx 0) true = U' at *
                have HU' := Lib.hid hU'
                clear hU'
                generalize hyi : zs.getD i 0 = yi at *
                clear hyi
                cases back
                · obtain rfl : kx = i := by rw [HKX.out]; rfl
                  go_wp2_with (first
                    | (go_at_call 41; (with_reducible refine KV.out.mono ?_); rintro _ w4 ⟨rfl, hS4, _⟩; have S4 := Lib.hid hS4; have hz4 := ((HI.out.ints.next hS4.low).cellAt' (k := kx) (by rw [HI.out.len]; omega)).1; have KU := Lib.hid (hS4.vu (by omega) (zs.getD kx 0) true); rw [E2.out] at KU; generalize zs.getD kx 0 = zk at *)
                    | (go_at_call 41; (with_reducible refine KU.out.mono ?_); rintro _ w5 ⟨rfl, hS5, _⟩))
                  rw [HU'.out] at hS5
                  go_roundg g
                  case measure => omega
                  case rel => exact ⟨kx + 1, T', U', by omega, by go_num, hS5, Lib.hid ⟨HN.out.1, HN.out.2, hx2.out⟩⟩
                · have hsub : (n : Int) - 1 - (i : Int) = (kx : Int) := by have := HKX.out; simp at this; omega
                  go_wp2_with (first
                    | (go_at_call 41; (with_reducible refine KV.out.mono ?_); rintro _ w4 ⟨rfl, hS4, _⟩; have S4 := Lib.hid hS4; have hz4 := ((HI.out.ints.next hS4.low).cellAt' (k := kx) (by rw [HI.out.len]; omega)).1; have KU := Lib.hid (hS4.vu (by omega) (zs.getD kx 0) true); rw [E2.out] at KU; generalize zs.getD kx 0 = zk at *)
                    | (go_at_call 41; (with_reducible refine KU.out.mono ?_); rintro _ w5 ⟨rfl, hS5, _⟩))
                  rw [HU'.out] at hS5
                  go_roundg g
                  case measure => omega
                  case rel => exact ⟨i + 1, T', U', by omega, by go_num, hS5, Lib.hid ⟨HN.out.1, HN.out.2, hx2.out⟩⟩
end Go.Proofs.Ytodgkjmkjahkiaa
