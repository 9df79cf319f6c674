/- The law on what is taken back. -/
import Derived.Test.YthmlibapjhmdbaaGQ43xQ44
namespace Go.Proofs.Ythmlibapjhmdbaa
open Go.RowKit Go.Shelf Go.Maps Go.Sort

attribute [local go_sem] eq33 eq40

/-- What PoolBack knows behind its script. -/
structure B5 (w V : World) (p b k s q : Nat) (g : Int → Option Sh) (L : List Int) (r nb : Nat) (va vb : Value) (Ow Dn : List Int) (g0 g1 g2 g3 : Nat) (C0 C1 C2 C3 : Array Value) (A : Option Addr) (xs : List Nat) : Prop where
  two : Two w V p b k s q g L r nb va vb Ow Dn
  k0 : Bk V g0 39 C0
  k1 : Bk V g1 40 C1
  k2 : Bk V g2 40 C2
  k3 : Bk V g3 40 C3
  nat : NatsAt V V.heap.size A xs
  nb : ∀ ad, A = some ad → ad.block ≠ b
section
variable {w V V' : World} {p b k k' s q r nb : Nat} {g : Int → Option Sh} {L : List Int} {va vb : Value} {Ow Dn : List Int} {g0 g1 g2 g3 : Nat} {C0 C1 C2 C3 : Array Value} {A : Option Addr} {xs : List Nat}
theorem B5.next (h : B5 w V p b k s q g L r nb va vb Ow Dn g0 g1 g2 g3 C0 C1 C2 C3 A xs) (hb : Below V.heap.size V V') : B5 w V' p b k s q g L r nb va vb Ow Dn g0 g1 g2 g3 C0 C1 C2 C3 A xs :=
  ⟨h.two.next hb, h.k0.next hb, h.k1.next hb, h.k2.next hb, h.k3.next hb, nats_next h.nat hb, h.nb⟩
theorem B5.drew (h : B5 w V p b k s q g L r nb va vb Ow Dn g0 g1 g2 g3 C0 C1 C2 C3 A xs) : B5 w V.drew p b k s q g L r nb va vb Ow Dn g0 g1 g2 g3 C0 C1 C2 C3 A xs := h.next (Below.refl _ _).drew
/-- Released, a reservation is as if it had not been. -/
theorem B5.release {gg : Int → Option Sh} {LL : List Int} {kk : Nat} {n : Int} {c : Sh} (hO : Own gg LL kk) (hg : (gg n).isSome = false) (hn : (Lit.int .i64 n).wf = true) (e0 : g0 ≠ b) (e1 : g1 ≠ b) (e2 : g2 ≠ b) (e3 : g3 ≠ b)
    (h : B5 w V p b k s q (fun m => if m = n then some c else gg m) L r nb va vb Ow Dn g0 g1 g2 g3 C0 C1 C2 C3 A xs) : Calls Try.prog 25 #[.pointer (some ⟨p, 0, none⟩), .int .i64 n] V fun e w' => e = .returned (.int .i64 0) ∧ B5 w w' p b k s q gg LL r nb va vb Ow Dn g0 g1 g2 g3 C0 C1 C2 C3 A xs := by
  refine (release_ok h.two.st.pool hn (by rw [if_pos rfl]; rfl)).mono ?_
  rintro e w' ⟨rfl, ht⟩
  rw [put_del hg] at ht
  obtain ⟨L2, h2⟩ := h.two.st.own.del n
  rw [put_del hg] at h2
  obtain rfl := own_same h2 hO
  obtain ⟨L3, h3⟩ := h.two.prog ht ⟨_, h2⟩
  obtain rfl := own_same h3.st.own hO
  exact ⟨rfl, h3, h.k0.grown ht.grown e0, h.k1.grown ht.grown e1, h.k2.grown ht.grown e2, h.k3.grown ht.grown e3, nats_td h.nat (X := fun i => i = b) (Td.grown ht.grown (fun _ e => (Option.some.inj e).symm)) h.nb, h.nb⟩
end
set_option maxRecDepth 100000 in
set_option maxHeartbeats 16000000 in
theorem back_law (s q : Int) (A : Option Addr) (n cap : Nat) (os : List Oq) (oo : Oq) (hon : (Lit.int .i64 oo.n).wf = true) (ho8 : W8 oo) (w : World) (h : Sq w A n os) :
    Calls Try.prog 5 #[.agg #[.int .i64 s, .int .i64 q], .slice A n cap, .agg #[.int .i64 oo.d, .int .i64 oo.n, .int .u64 oo.f0, .int .u64 oo.f1, .int .u64 oo.f2, .int .u64 oo.f3, .int .i64 oo.r, .int .i64 oo.pe, .int .i64 oo.ds, .int .u64 oo.m0, .int .u64 oo.m1, .int .u64 oo.m2, .int .u64 oo.m3]] w fun e w' => e = .returned (.bool true) ∧ Below w.heap.size w w' := by
  have KL := Lib.hid live_any
  have HS := Lib.hid h
  clear h
  have KDO := Lib.hid (fun (V : World) (p b k s q r nb : Nat) (g : Int → Option Sh) (L : List Int) (va vb : Value) (Ow Dn : List Int) (h : Two w V p b k s q g L r nb va vb Ow Dn) (ha : Agr (s * q) g Ow Dn) (hL : LOk s q) (hk : k ≤ 900) (hd : nb ≤ 900) => does_any h ha hL hk hd oo hon ho8)
  obtain ⟨od, on, f0, f1, f2, f3, or, op, ods, m0, m1, m2, m3⟩ := oo
  dsimp only at KDO hon ⊢
  have HON := Lib.hid hon
  clear hon ho8
  have hb0 := ((Below.refl _ w).alloc (Nat.le_refl _) (.cells #[.int .i64 s, .int .i64 q] 23)).alloc (by simp) (.cells #[.int .i64 od, .int .i64 on, .int .u64 f0, .int .u64 f1, .int .u64 f2, .int .u64 f3, .int .i64 or, .int .i64 op, .int .i64 ods, .int .u64 m0, .int .u64 m1, .int .u64 m2, .int .u64 m3] 39)
  have j0 := (Bk.new w 23 #[.int .i64 s, .int .i64 q]).next ((Below.refl _ _).alloc (Nat.le_refl _) (.cells #[.int .i64 od, .int .i64 on, .int .u64 f0, .int .u64 f1, .int .u64 f2, .int .u64 f3, .int .i64 or, .int .i64 op, .int .i64 ods, .int .u64 m0, .int .u64 m1, .int .u64 m2, .int .u64 m3] 39))
  have o0 := Bk.new (w.alloc (.cells #[.int .i64 s, .int .i64 q] 23)) 39 #[.int .i64 od, .int .i64 on, .int .u64 f0, .int .u64 f1, .int .u64 f2, .int .u64 f3, .int .i64 or, .int .i64 op, .int .i64 ods, .int .u64 m0, .int .u64 m1, .int .u64 m2, .int .u64 m3]
  rw [size_alloc] at o0
  have d0 := o0.cell 0 _ rfl
  by_cases hn : (30 : Int) < (n : Int)
  · go_enter Try.func5, Try.ntmps5
    go_wp2_with fail
    refine (KL.out _).mono ?_
    rintro _ w9 ⟨rfl, hb9⟩
    go_wp2_with fail
    go_ret
    exact ⟨rfl, bmore hb0 hb9⟩
  rcases LOk_or s q with ⟨s', q', rfl, rfl, hL⟩ | hL
  case inr =>
    go_enter Try.func5, Try.ntmps5
    go_wp2_with fail
    refine (rCheck_bad s q _ hL).mono ?_
    rintro _ w8 ⟨rfl, hb8⟩
    replace hb0 := bmore hb0 hb8
    clear hb8
    go_wp2_with fail
    refine (KL.out _).mono ?_
    rintro _ w9 ⟨rfl, hb9⟩
    go_wp2_with fail
    go_ret
    exact ⟨rfl, bmore hb0 hb9⟩
  have HL := Lib.hid hL
  clear hL
  by_cases hd01 : od = 0 ∨ od = 1
  case neg =>
    have t0 : (od == 0) = false := by simpa using fun e => hd01 (.inl e)
    have t1 : (od == 1) = false := by simpa using fun e => hd01 (.inr e)
    have t2 : (od != 0) = true := by simpa using fun e => hd01 (.inl e)
    have t3 : (od != 1) = true := by simpa using fun e => hd01 (.inr e)
    clear hd01
    go_enter Try.func5, Try.ntmps5
    go_wp2_with fail
    refine (rCheck_ok s' q' _ HL.out).mono ?_
    rintro _ w8 ⟨rfl, hb8⟩
    replace hb0 := bmore hb0 hb8
    replace d0 := (o0.next hb8).cell 0 _ rfl
    clear hb8 o0 j0
    go_wp2_with fail
    refine (KL.out _).mono ?_
    rintro _ w9 ⟨rfl, hb9⟩
    go_wp2_with fail
    go_ret
    exact ⟨rfl, bmore hb0 hb9⟩
  case pos =>
  have HD01 := Lib.hid hd01
  rcases hd01 with e01 | e01
  all_goals
    (first
      | (have t0 : (od != 0) = false := by rw [e01]; rfl)
      | (have t0 : (od != 0) = true := by rw [e01]; rfl
         have t2 : (od != 1) = false := by rw [e01]; rfl))
    clear e01
    have c0 := j0.cell 0 _ rfl
    have c1 := j0.cell 1 _ rfl
    go_enter Try.func5, Try.ntmps5
    go_wp2_with fail
    refine (rCheck_ok s' q' _ HL.out).mono ?_
    rintro _ w1 ⟨rfl, hb⟩
    replace hb0 := bmore hb0 hb; replace j0 := j0.next hb; replace o0 := o0.next hb; clear hb c0 c1 d0
    have c0 := j0.cell 0 _ rfl
    have c1 := j0.cell 1 _ rfl
    have d0 := o0.cell 0 _ rfl
    go_wp2_with fail
    refine (own_any s' q' _).mono ?_
    rintro _ w2 ⟨rfl, hb⟩
    replace hb0 := bmore hb0 hb; replace j0 := j0.next hb; replace o0 := o0.next hb; clear hb c0 c1 d0
    go_wp2_with fail
    refine (new_ok s' q' _ HL.out).mono ?_
    rintro _ w3 ⟨p, b, rfl, hp, hbb, hP, hb⟩
    have hjl := o0.lt
    have HWB := Lib.hid (show w.heap.size + 1 < b from by omega)
    have hpl := hP.blk.lt
    have hbl := hP.ltb
    replace j0 := j0.next hb
    replace o0 := o0.next hb
    have S0 := Lib.hid (show St w w3 p b 0 s' q' (fun _ => Option.none) [] from ⟨hP, bmore hb0 hb, by have := hb0.size; omega, Own.none⟩)
    have hs3 := bmore hb0 hb
    clear hb0 hb hp hbb hP
    have c0 := j0.cell 0 _ rfl
    have c1 := j0.cell 1 _ rfl
    go_wp2_with fail
    refine (rnew_ok s' q' _ HL.out).mono ?_
    rintro _ w4 ⟨r, va, rfl, hr, hR, hb⟩
    have HK0 := Lib.hid (o0.next hb)
    have T0 := Lib.hid (show Two w w4 p b 0 s' q' (fun _ => Option.none) [] r 0 va (.slice none 0 0) (List.replicate (s' * q') (-1)) [] from ⟨S0.out.next hb, by omega, by omega, by have := hs3.size; omega, hR⟩)
    have A0 := Lib.hid (Agr.start (s' * q'))
    clear c0 c1 j0 o0 hb hR S0 hs3 hpl hbl hjl hr
    go_wp2_with fail
    go_loopg [9] n (fun c s7 wr => ∃ (i k : Nat) (f : Int → Option Sh) (L : List Int) (nb : Nat) (va vb : Value) (Ow Dn : List Int), i + c = n ∧ s7 = .int .i64 i ∧ k ≤ i ∧ nb ≤ i ∧ Hid (Two w wr p b k s' q' f L r nb va vb Ow Dn) ∧ Hid (Agr (s' * q') f Ow Dn) ∧ Hid (Bk wr (w.heap.size + 1) 39 #[.int .i64 od, .int .i64 on, .int .u64 f0, .int .u64 f1, .int .u64 f2, .int .u64 f3, .int .i64 or, .int .i64 op, .int .i64 ods, .int .u64 m0, .int .u64 m1, .int .u64 m2, .int .u64 m3]))
    case atStart => exact ⟨0, 0, _, _, 0, _, _, _, _, by omega, rfl, Nat.le_refl _, Nat.le_refl _, T0, A0, HK0⟩
    case round =>
      clear T0 A0 HK0
      obtain ⟨i, k, f, L, nb, va, vb, Ow, Dn, hig, rfl, hki, hni, HT, HA, HJ⟩ := hrel
      cases gk with
      | succ gn =>
        have i0 : (0 : Int) ≤ (i : Int) := by omega
        have i1 : (i : Int) < (n : Int) := by omega
        obtain ⟨ad, o, rfl, hwf, hw8, hblk, hat⟩ := HS.out.still8 (i := i) (by omega)
        obtain ⟨c0, c1, c2, c3, c4, c5, c6, c7, c8, c9, c10, c11, c12⟩ := hat wr HT.out.st.low
        have KD := Lib.hid (does_any HT.out HA.out HL.out (by omega) (by omega) o hwf hw8)
        clear hat hblk hwf hw8 HA KDO
        obtain ⟨od_, on_, f0_, f1_, f2_, f3_, or_, op_, ods_, m0_, m1_, m2_, m3_⟩ := o
        dsimp only at c0 c1 c2 c3 c4 c5 c6 c7 c8 c9 c10 c11 c12 KD
        go_wp2_with fail
        refine KD.out.mono ?_
        rintro _ w5 ⟨k', g', L', nb', va', vb', Ow', Dn', rfl, hk', hn', hT, hA, hTd, _⟩
        have hnx : ¬ PX b r va vb (w.heap.size + 1) := by
          have h1 := HWB.out
          have h2 := HT.out.hb
          rintro (e | e)
          · omega
          · have := HT.out.ge _ e; omega
        have HJ5 := Lib.hid (hTd.bk HJ.out hnx)
        have HT5 := Lib.hid hT
        have HA5 := Lib.hid hA
        have hk5 : k' ≤ i + 1 := by omega
        have hn5 : nb' ≤ i + 1 := by omega
        clear c0 c1 c2 c3 c4 c5 c6 c7 c8 c9 c10 c11 c12 KD hnx hTd hT hA HT HJ hk' hn' hki hni
        go_wp2_with fail
        go_roundg gn
        case measure => omega
        case rel => exact ⟨i + 1, k', g', L', nb', va', vb', Ow', Dn', by omega, by go_num, hk5, hn5, HT5, HA5, HJ5⟩
      | zero =>
        have hlt : ¬ ((i : Int) < (n : Int)) := by omega
        have hk30 : k ≤ 30 := by omega
        have hn30 : nb ≤ 30 := by omega
        have HPX := Lib.hid HT.out.lt
        have HOW := Lib.hid HT.out.st.own
        have HFO := Lib.hid HA.out.isO
        have HWR := Lib.hid (show w.heap.size + 1 < wr.heap.size from HJ.out.lt)
        have hF4 := freeM_W4 (Mk.ofL (List.range (s' * q'))) f
        have KF0 := fun (V : World) (k : Nat) (L : List Int) (nb : Nat) (va vb : Value) (Ow Dn : List Int) (hV : Two w V p b k s' q' f L r nb va vb Ow Dn) => hV.free HL.out
        obtain ⟨F, hF⟩ : ∃ F, F = freeM (Mk.ofL (List.range (s' * q'))) f := ⟨_, rfl⟩
        rw [← hF] at KF0 hF4
        obtain ⟨y0, y1, y2, y3, rfl⟩ := w4_ex hF4
        have KF := Lib.hid (show ∀ (V : World) (k : Nat) (L : List Int) (nb : Nat) (va vb : Value) (Ow Dn : List Int), Two w V p b k s' q' f L r nb va vb Ow Dn → Calls Try.prog 13 #[.pointer (some ⟨p, 0, none⟩)] V fun e w' => e = .returned (.agg #[.int .u64 y0, .int .u64 y1, .int .u64 y2, .int .u64 y3]) ∧ Below V.heap.size V w' from KF0)
        have HF := Lib.hid hF
        have HF4 := Lib.hid hF4
        have hz4 := ((f on).getD Sh.none).ok
        have KZ0 := fun (V : World) (k : Nat) (L : List Int) (nb : Nat) (va vb : Value) (Ow Dn : List Int) (hV : Two w V p b k s' q' f L r nb va vb Ow Dn) => hV.ofO HON.out
        obtain ⟨Z, hZ⟩ : ∃ Z, Z = ((f on).getD Sh.none).m := ⟨_, rfl⟩
        rw [← hZ] at KZ0 hz4
        obtain ⟨z0, z1, z2, z3, rfl⟩ := w4_ex hz4
        obtain ⟨tt, htt⟩ : ∃ tt, tt = ((f on).getD Sh.none).t := ⟨_, rfl⟩
        rw [← htt] at KZ0
        have HZ := Lib.hid (And.intro hZ htt)
        have KZ := Lib.hid (show ∀ (V : World) (k : Nat) (L : List Int) (nb : Nat) (va vb : Value) (Ow Dn : List Int), Two w V p b k s' q' f L r nb va vb Ow Dn → Calls Try.prog 18 #[.pointer (some ⟨p, 0, none⟩), .int .i64 on] V fun e w' => e = .returned (.tuple #[.agg #[.int .u64 z0, .int .u64 z1, .int .u64 z2, .int .u64 z3], .bool tt]) ∧ Below V.heap.size V w' from KZ0)
        have KO0 := Lib.hid (fun (V : World) (k : Nat) (nb : Nat) (va vb : Value) (Ow Dn : List Int) (hk : k ≤ 900) (hV : Two w V p b k s' q' f L r nb va vb Ow Dn) => hV.owners (by omega) HA.out.isO)
        obtain ⟨n1, hn1⟩ : ∃ n1, n1 = L.length := ⟨_, rfl⟩
        obtain ⟨xs, hxs⟩ : ∃ xs, xs = L.map Int.toNat := ⟨_, rfl⟩
        have HX := Lib.hid (show xs.length = n1 from by rw [hxs, hn1, List.length_map])
        have hn1s : n1 ≤ 65536 := by have := HT.out.st.own.len; omega
        have KO := Lib.hid (show ∀ (V : World) (k : Nat) (nb : Nat) (va vb : Value) (Ow Dn : List Int), k ≤ 900 → Two w V p b k s' q' f L r nb va vb Ow Dn → Calls Try.prog 16 #[.pointer (some ⟨p, 0, none⟩)] V fun e w' => ∃ A cap, e = .returned (.slice A n1 cap) ∧ NatsAt w' w'.heap.size A xs ∧ (∀ ad, A = some ad → V.heap.size ≤ ad.block) ∧ Below V.heap.size V w' from fun V k nb va vb Ow Dn hk hV => by
          have := KO0.out V k nb va vb Ow Dn hk hV
          unfold OwsA at this
          rw [← hn1, ← hxs] at this
          exact this)
        clear hF KF0 hF4 hZ htt KZ0 hz4 KO0 hn1 hxs hki hni
        go_wp2_with fail
        refine (KF.out _ _ _ _ _ _ _ _ HT.out).mono ?_
        rintro _ w5 ⟨rfl, hb⟩
        have hb1 := (Below.refl _ w5).alloc (Nat.le_refl _) (.cells #[.int .u64 y0, .int .u64 y1, .int .u64 y2, .int .u64 y3] 40)
        have HT1 := Lib.hid ((HT.out.next hb).next hb1)
        have HJ1 := Lib.hid ((HJ.out.next hb).next hb1)
        have K1 := Lib.hid (Bk.new w5 40 #[.int .u64 y0, .int .u64 y1, .int .u64 y2, .int .u64 y3])
        have HG1 := Lib.hid (show wr.heap.size ≤ w5.heap.size from hb.size)
        clear hb hb1 HT HJ
        go_wp2_with fail
        refine (KO.out _ _ _ _ _ _ _ (by omega) HT1.out).mono ?_
        rintro _ w6 ⟨A1, cap1, rfl, hN, hA1, hb⟩
        rw [size_alloc] at hA1
        have HT2 := Lib.hid (HT1.out.next hb)
        have o2 := HJ1.out.next hb
        have K2 := Lib.hid (K1.out.next hb)
        have HN2 := Lib.hid hN
        have HA1 := Lib.hid hA1
        have hb56 := Lib.hid (show w5.heap.size < w6.heap.size from by have := hb.size; rw [size_alloc] at this; omega)
        clear hb HT1 HJ1 K1 hN hA1
        have d1 := o2.cell 1 _ rfl
        go_wp2_with fail
        refine (KZ.out _ _ _ _ _ _ _ _ HT2.out).mono ?_
        rintro _ w7 ⟨rfl, hb⟩
        have hb1 := (Below.refl _ w7).alloc (Nat.le_refl _) (.cells #[.int .u64 z0, .int .u64 z1, .int .u64 z2, .int .u64 z3] 40)
        have HT3 := Lib.hid ((HT2.out.next hb).next hb1)
        have o3 := (o2.next hb).next hb1
        have K3 := Lib.hid ((K2.out.next hb).next hb1)
        have N3 := Lib.hid (nats_next (nats_next HN2.out hb) hb1)
        have J3 := Lib.hid (Bk.new w7 40 #[.int .u64 z0, .int .u64 z1, .int .u64 z2, .int .u64 z3])
        have hb67 := Lib.hid (show w6.heap.size ≤ w7.heap.size from hb.size)
        clear hb hb1 HT2 o2 K2 HN2 d1
        have KD := Lib.hid (KDO.out _ _ _ _ _ _ _ _ _ _ _ _ _ _ HT3.out HA.out HL.out (by omega) (by omega))
        have HO3 := Lib.hid o3
        have d0 := o3.cell 0 _ rfl
        have d1 := o3.cell 1 _ rfl
        have d2 := o3.cell 2 _ rfl
        have d3 := o3.cell 3 _ rfl
        have d4 := o3.cell 4 _ rfl
        have d5 := o3.cell 5 _ rfl
        have d6 := o3.cell 6 _ rfl
        have d7 := o3.cell 7 _ rfl
        have d8 := o3.cell 8 _ rfl
        have d9 := o3.cell 9 _ rfl
        have d10 := o3.cell 10 _ rfl
        have d11 := o3.cell 11 _ rfl
        have d12 := o3.cell 12 _ rfl
        clear o3 KDO
        go_wp2_with fail
        refine KD.out.mono ?_
        rintro _ w8 ⟨k', g', L', nb', va', vb', Ow', Dn', rfl, hk', hn', hT, hA, hTd, hst⟩
        have hnp : ∀ i, wr.heap.size ≤ i → ¬ PX b r va vb i := fun i hi e => by have := HPX.out i e; omega
        have o8 := Lib.hid (hTd.bk HO3.out (by
          have h1 := HWB.out
          have h2 := HT3.out.hb
          rintro (e | e)
          · omega
          · have := HT3.out.ge _ e; omega))
        have K8 := Lib.hid (hTd.bk K3.out (hnp _ HG1.out))
        have J8 := Lib.hid (hTd.bk J3.out (hnp _ (by have := HG1.out; have := hb56.out; have := hb67.out; omega)))
        have N8 := Lib.hid (nats_td N3.out hTd (fun ad e => hnp _ (by have := HG1.out; have := HA1.out ad e; omega)))
        have HBB := Lib.hid (show (w.heap.size + 1 ≠ b ∧ w5.heap.size ≠ b ∧ w7.heap.size ≠ b) ∧ (∀ ad, A1 = some ad → ad.block ≠ b) ∧ b < w8.heap.size from by
          have h1 := HWB.out
          have h2 := HPX.out b (.inl rfl)
          have h3 := HG1.out
          have h4 := hb56.out
          have h5 := hb67.out
          have h6 := hT.st.pool.ltb
          exact ⟨⟨by omega, by omega, by omega⟩, fun ad e => by have := HA1.out ad e; omega, h6⟩)
        have HT8 := Lib.hid hT
        have HA8 := Lib.hid hA
        have HST := Lib.hid (hst HD01.out)
        have hk' := Nat.le_trans hk' (show k + 1 ≤ 900 by omega)
        clear d0 d1 d2 d3 d4 d5 d6 d7 d8 d9 d10 d11 d12 KD hT hA hTd hst hnp HO3 K3 J3 N3 HT3 HPX HA1 HG1 hb56 hb67 HA hn'
        have d1 := o8.out.cell 1 _ rfl
        go_wp2_with fail
        rcases HST.out with e | e
        · subst e
          obtain rfl := own_same HT8.out.st.own HOW.out
          refine (KZ.out _ _ _ _ _ _ _ _ HT8.out).mono ?_
          rintro _ w9 ⟨rfl, hb⟩
          have hb1 := (Below.refl _ w9).alloc (Nat.le_refl _) (.cells #[.int .u64 z0, .int .u64 z1, .int .u64 z2, .int .u64 z3] 40)
          have HT9 := Lib.hid ((HT8.out.next hb).next hb1)
          have o9 := (o8.out.next hb).next hb1
          have J9 := (J8.out.next hb).next hb1
          have K9 := Lib.hid ((K8.out.next hb).next hb1)
          have N9 := Lib.hid (nats_next (nats_next N8.out hb) hb1)
          clear hb hb1 HT8 o8 J8 K8 N8 d1 HST HFO
          have d1 := o9.cell 1 _ rfl
          have a0 := J9.cell 0 _ rfl
          have a1 := J9.cell 1 _ rfl
          have a2 := J9.cell 2 _ rfl
          have a3 := J9.cell 3 _ rfl
          go_wp2_with fail
          refine (KZ.out _ _ _ _ _ _ _ _ HT9.out).mono ?_
          rintro _ w10 ⟨rfl, hb⟩
          have hb1 := (Below.refl _ w10).alloc (Nat.le_refl _) (.cells #[.int .u64 z0, .int .u64 z1, .int .u64 z2, .int .u64 z3] 40)
          have st : B5 w (w10.alloc (.cells #[.int .u64 z0, .int .u64 z1, .int .u64 z2, .int .u64 z3] 40)) p b k' s' q' g' L' r nb' va' vb' Ow' Dn' (w.heap.size + 1) w5.heap.size w7.heap.size w10.heap.size #[.int .i64 od, .int .i64 on, .int .u64 f0, .int .u64 f1, .int .u64 f2, .int .u64 f3, .int .i64 or, .int .i64 op, .int .i64 ods, .int .u64 m0, .int .u64 m1, .int .u64 m2, .int .u64 m3] #[.int .u64 y0, .int .u64 y1, .int .u64 y2, .int .u64 y3] #[.int .u64 z0, .int .u64 z1, .int .u64 z2, .int .u64 z3] #[.int .u64 z0, .int .u64 z1, .int .u64 z2, .int .u64 z3] A1 xs :=
            ⟨(HT9.out.next hb).next hb1, (o9.next hb).next hb1, (K9.out.next hb).next hb1, (J9.next hb).next hb1, Bk.new w10 40 #[.int .u64 z0, .int .u64 z1, .int .u64 z2, .int .u64 z3], nats_next (nats_next N9.out hb) hb1, HBB.out.2.1⟩
          have KS : Hid (∀ W, B5 w W p b k' s' q' g' L' r nb' va' vb' Ow' Dn' (w.heap.size + 1) w5.heap.size w7.heap.size w10.heap.size #[.int .i64 od, .int .i64 on, .int .u64 f0, .int .u64 f1, .int .u64 f2, .int .u64 f3, .int .i64 or, .int .i64 op, .int .i64 ods, .int .u64 m0, .int .u64 m1, .int .u64 m2, .int .u64 m3] #[.int .u64 y0, .int .u64 y1, .int .u64 y2, .int .u64 y3] #[.int .u64 z0, .int .u64 z1, .int .u64 z2, .int .u64 z3] #[.int .u64 z0, .int .u64 z1, .int .u64 z2, .int .u64 z3] A1 xs → W.cell? ⟨w5.heap.size, 0, none⟩ = some (.int .u64 y0) ∧ W.cell? ⟨w5.heap.size, 1, none⟩ = some (.int .u64 y1) ∧ W.cell? ⟨w5.heap.size, 2, none⟩ = some (.int .u64 y2) ∧ W.cell? ⟨w5.heap.size, 3, none⟩ = some (.int .u64 y3) ∧ W.cell? ⟨w7.heap.size, 0, none⟩ = some (.int .u64 z0) ∧ W.cell? ⟨w7.heap.size, 1, none⟩ = some (.int .u64 z1) ∧ W.cell? ⟨w7.heap.size, 2, none⟩ = some (.int .u64 z2) ∧ W.cell? ⟨w7.heap.size, 3, none⟩ = some (.int .u64 z3) ∧ W.cell? ⟨w10.heap.size, 0, none⟩ = some (.int .u64 z0) ∧ W.cell? ⟨w10.heap.size, 1, none⟩ = some (.int .u64 z1) ∧ W.cell? ⟨w10.heap.size, 2, none⟩ = some (.int .u64 z2) ∧ W.cell? ⟨w10.heap.size, 3, none⟩ = some (.int .u64 z3)) := Lib.hid (fun W h => ⟨h.k1.cell 0 _ rfl, h.k1.cell 1 _ rfl, h.k1.cell 2 _ rfl, h.k1.cell 3 _ rfl, h.k2.cell 0 _ rfl, h.k2.cell 1 _ rfl, h.k2.cell 2 _ rfl, h.k2.cell 3 _ rfl, h.k3.cell 0 _ rfl, h.k3.cell 1 _ rfl, h.k3.cell 2 _ rfl, h.k3.cell 3 _ rfl⟩)
          clear hb hb1 HT9 o9 J9 K9 N9 d1 a0 a1 a2 a3
          have KY := Lib.hid st.drew
          go_wp2_with fail
          go_region_held3 (fun W => W.cell? ⟨w5.heap.size, 0, none⟩ = some (.int .u64 y0) ∧ W.cell? ⟨w5.heap.size, 1, none⟩ = some (.int .u64 y1) ∧ W.cell? ⟨w5.heap.size, 2, none⟩ = some (.int .u64 y2) ∧ W.cell? ⟨w5.heap.size, 3, none⟩ = some (.int .u64 y3) ∧ W.cell? ⟨w7.heap.size, 0, none⟩ = some (.int .u64 z0) ∧ W.cell? ⟨w7.heap.size, 1, none⟩ = some (.int .u64 z1) ∧ W.cell? ⟨w7.heap.size, 2, none⟩ = some (.int .u64 z2) ∧ W.cell? ⟨w7.heap.size, 3, none⟩ = some (.int .u64 z3) ∧ W.cell? ⟨w10.heap.size, 0, none⟩ = some (.int .u64 z0) ∧ W.cell? ⟨w10.heap.size, 1, none⟩ = some (.int .u64 z1) ∧ W.cell? ⟨w10.heap.size, 2, none⟩ = some (.int .u64 z2) ∧ W.cell? ⟨w10.heap.size, 3, none⟩ = some (.int .u64 z3))
            (first | exact KS.out _ st | exact KS.out _ KY.out)
            (first
              | (go_at_call 13; (with_reducible refine (KF.out _ _ _ _ _ _ _ _ (by first | exact st.two | exact KY.out.two)).mono ?_); rintro _ wn ⟨rfl, hbn⟩; (first | replace hbn := undrew hbn | skip); replace st := st.next hbn; clear hbn)
              | (go_at_call 16; (with_reducible refine (KO.out _ _ _ _ _ _ _ hk' (by first | exact st.two | exact KY.out.two)).mono ?_); rintro _ wn ⟨A2, cap2, rfl, hN2, _, hbn⟩; (first | replace hbn := undrew hbn | skip); replace st := st.next hbn; clear hbn)
              | (go_at_call 15; (with_reducible refine (same_eq A2 A1 cap2 cap1 n1 xs _ hN2 st.nat HX.out hn1s).mono ?_); rintro _ wn ⟨rfl, hbn⟩; clear hN2; (first | replace hbn := undrew hbn | skip); replace st := st.next hbn; clear hbn)
              | (go_at_call 8; (with_reducible refine (KL.out _).mono ?_); rintro _ wn ⟨rfl, hbn⟩; (first | replace hbn := undrew hbn | skip); replace st := st.next hbn; clear hbn))
          all_goals
            go_wp2_with fail
            go_ret
            exact ⟨rfl, st.two.st.low⟩
        · obtain ⟨c, hg, hc, e⟩ := e
          subst e
          obtain ⟨hz0, rfl⟩ : [z0, z1, z2, z3] = [0, 0, 0, 0] ∧ tt = false := by
            have h1 := HZ.out
            cases hq : f on with
            | none => rw [hq] at h1; exact h1
            | some d => rw [hq] at hg; cases hg
          simp only [List.cons.injEq, and_true] at hz0
          obtain ⟨rfl, rfl, rfl, rfl⟩ := hz0
          obtain ⟨u0, u1, u2, u3, hu⟩ := w4_ex c.ok
          have KZ1 := Lib.hid (show ∀ (V : World) (k : Nat) (L : List Int) (nb : Nat) (va vb : Value) (Ow Dn : List Int), Two w V p b k s' q' (fun m => if m = on then some c else f m) L r nb va vb Ow Dn → Calls Try.prog 18 #[.pointer (some ⟨p, 0, none⟩), .int .i64 on] V fun e w' => e = .returned (.tuple #[.agg #[.int .u64 u0, .int .u64 u1, .int .u64 u2, .int .u64 u3], .bool c.t]) ∧ Below V.heap.size V w' from fun V k L nb va vb Ow Dn hV => by
            have := hV.ofO HON.out
            rw [if_pos rfl, Option.getD_some, hu] at this
            exact this)
          have hu4 : Mk.W4 [u0, u1, u2, u3] := by rw [← hu]; exact c.ok
          obtain ⟨v0, v1, v2, v3, hv⟩ := w4_ex (andN_W4 HF4.out hu4)
          have KF1 := Lib.hid (show ∀ (V : World) (k : Nat) (L : List Int) (nb : Nat) (va vb : Value) (Ow Dn : List Int), Two w V p b k s' q' (fun m => if m = on then some c else f m) L r nb va vb Ow Dn → Calls Try.prog 13 #[.pointer (some ⟨p, 0, none⟩)] V fun e w' => e = .returned (.agg #[.int .u64 v0, .int .u64 v1, .int .u64 v2, .int .u64 v3]) ∧ Below V.heap.size V w' from fun V k L nb va vb Ow Dn hV => by
            have := hV.free HL.out
            rw [freeM_put hg, ← HF.out, hu, hv] at this
            exact this)
          have KM := Lib.hid (show ∀ V : World, Calls Try.prog 24 #[.agg #[.int .u64 y0, .int .u64 y1, .int .u64 y2, .int .u64 y3], .agg #[.int .u64 u0, .int .u64 u1, .int .u64 u2, .int .u64 u3]] V fun e w' => e = .returned (.agg #[.int .u64 v0, .int .u64 v1, .int .u64 v2, .int .u64 v3]) ∧ Below V.heap.size V w' from fun V => by
            have := minus_any [y0, y1, y2, y3] [u0, u1, u2, u3] V HF4.out hu4
            rw [hv] at this
            exact this)
          have t9 := zero_no (hu ▸ hc)
          have HGG := Lib.hid hg
          clear hv hu4 hu hc hg HST
          refine (KZ1.out _ _ _ _ _ _ _ _ HT8.out).mono ?_
          rintro _ w9 ⟨rfl, hb⟩
          have hb1 := (Below.refl _ w9).alloc (Nat.le_refl _) (.cells #[.int .u64 u0, .int .u64 u1, .int .u64 u2, .int .u64 u3] 40)
          have hn9 := Lib.hid (show w9.heap.size ≠ b from by have := hb.size; have := HBB.out.2.2; omega)
          have st : B5 w (w9.alloc (.cells #[.int .u64 u0, .int .u64 u1, .int .u64 u2, .int .u64 u3] 40)) p b k' s' q' (fun m => if m = on then some c else f m) L' r nb' va' vb' Ow' Dn' (w.heap.size + 1) w5.heap.size w7.heap.size w9.heap.size #[.int .i64 od, .int .i64 on, .int .u64 f0, .int .u64 f1, .int .u64 f2, .int .u64 f3, .int .i64 or, .int .i64 op, .int .i64 ods, .int .u64 m0, .int .u64 m1, .int .u64 m2, .int .u64 m3] #[.int .u64 y0, .int .u64 y1, .int .u64 y2, .int .u64 y3] #[.int .u64 0, .int .u64 0, .int .u64 0, .int .u64 0] #[.int .u64 u0, .int .u64 u1, .int .u64 u2, .int .u64 u3] A1 xs :=
            ⟨(HT8.out.next hb).next hb1, (o8.out.next hb).next hb1, (K8.out.next hb).next hb1, (J8.out.next hb).next hb1, Bk.new w9 40 #[.int .u64 u0, .int .u64 u1, .int .u64 u2, .int .u64 u3], nats_next (nats_next N8.out hb) hb1, HBB.out.2.1⟩
          have KS : Hid (∀ W, B5 w W p b k' s' q' (fun m => if m = on then some c else f m) L' r nb' va' vb' Ow' Dn' (w.heap.size + 1) w5.heap.size w7.heap.size w9.heap.size #[.int .i64 od, .int .i64 on, .int .u64 f0, .int .u64 f1, .int .u64 f2, .int .u64 f3, .int .i64 or, .int .i64 op, .int .i64 ods, .int .u64 m0, .int .u64 m1, .int .u64 m2, .int .u64 m3] #[.int .u64 y0, .int .u64 y1, .int .u64 y2, .int .u64 y3] #[.int .u64 0, .int .u64 0, .int .u64 0, .int .u64 0] #[.int .u64 u0, .int .u64 u1, .int .u64 u2, .int .u64 u3] A1 xs → W.cell? ⟨w5.heap.size, 0, none⟩ = some (.int .u64 y0) ∧ W.cell? ⟨w5.heap.size, 1, none⟩ = some (.int .u64 y1) ∧ W.cell? ⟨w5.heap.size, 2, none⟩ = some (.int .u64 y2) ∧ W.cell? ⟨w5.heap.size, 3, none⟩ = some (.int .u64 y3) ∧ W.cell? ⟨w9.heap.size, 0, none⟩ = some (.int .u64 u0) ∧ W.cell? ⟨w9.heap.size, 1, none⟩ = some (.int .u64 u1) ∧ W.cell? ⟨w9.heap.size, 2, none⟩ = some (.int .u64 u2) ∧ W.cell? ⟨w9.heap.size, 3, none⟩ = some (.int .u64 u3) ∧ W.cell? ⟨w.heap.size + 1, 1, none⟩ = some (.int .i64 on)) := Lib.hid (fun W h => ⟨h.k1.cell 0 _ rfl, h.k1.cell 1 _ rfl, h.k1.cell 2 _ rfl, h.k1.cell 3 _ rfl, h.k3.cell 0 _ rfl, h.k3.cell 1 _ rfl, h.k3.cell 2 _ rfl, h.k3.cell 3 _ rfl, h.k0.cell 1 _ rfl⟩)
          have KS2 : Hid (∀ W, B5 w W p b k' s' q' f L r nb' va' vb' Ow' Dn' (w.heap.size + 1) w5.heap.size w7.heap.size w9.heap.size #[.int .i64 od, .int .i64 on, .int .u64 f0, .int .u64 f1, .int .u64 f2, .int .u64 f3, .int .i64 or, .int .i64 op, .int .i64 ods, .int .u64 m0, .int .u64 m1, .int .u64 m2, .int .u64 m3] #[.int .u64 y0, .int .u64 y1, .int .u64 y2, .int .u64 y3] #[.int .u64 0, .int .u64 0, .int .u64 0, .int .u64 0] #[.int .u64 u0, .int .u64 u1, .int .u64 u2, .int .u64 u3] A1 xs → W.cell? ⟨w5.heap.size, 0, none⟩ = some (.int .u64 y0) ∧ W.cell? ⟨w5.heap.size, 1, none⟩ = some (.int .u64 y1) ∧ W.cell? ⟨w5.heap.size, 2, none⟩ = some (.int .u64 y2) ∧ W.cell? ⟨w5.heap.size, 3, none⟩ = some (.int .u64 y3) ∧ W.cell? ⟨w9.heap.size, 0, none⟩ = some (.int .u64 u0) ∧ W.cell? ⟨w9.heap.size, 1, none⟩ = some (.int .u64 u1) ∧ W.cell? ⟨w9.heap.size, 2, none⟩ = some (.int .u64 u2) ∧ W.cell? ⟨w9.heap.size, 3, none⟩ = some (.int .u64 u3) ∧ W.cell? ⟨w.heap.size + 1, 1, none⟩ = some (.int .i64 on)) := Lib.hid (fun W h => ⟨h.k1.cell 0 _ rfl, h.k1.cell 1 _ rfl, h.k1.cell 2 _ rfl, h.k1.cell 3 _ rfl, h.k3.cell 0 _ rfl, h.k3.cell 1 _ rfl, h.k3.cell 2 _ rfl, h.k3.cell 3 _ rfl, h.k0.cell 1 _ rfl⟩)
          have KS3 : Hid (∀ W, B5 w W p b k' s' q' f L r nb' va' vb' Ow' Dn' (w.heap.size + 1) w5.heap.size w7.heap.size w9.heap.size #[.int .i64 od, .int .i64 on, .int .u64 f0, .int .u64 f1, .int .u64 f2, .int .u64 f3, .int .i64 or, .int .i64 op, .int .i64 ods, .int .u64 m0, .int .u64 m1, .int .u64 m2, .int .u64 m3] #[.int .u64 y0, .int .u64 y1, .int .u64 y2, .int .u64 y3] #[.int .u64 0, .int .u64 0, .int .u64 0, .int .u64 0] #[.int .u64 u0, .int .u64 u1, .int .u64 u2, .int .u64 u3] A1 xs → W.cell? ⟨w5.heap.size, 0, none⟩ = some (.int .u64 y0) ∧ W.cell? ⟨w5.heap.size, 1, none⟩ = some (.int .u64 y1) ∧ W.cell? ⟨w5.heap.size, 2, none⟩ = some (.int .u64 y2) ∧ W.cell? ⟨w5.heap.size, 3, none⟩ = some (.int .u64 y3)) := Lib.hid (fun W h => ⟨h.k1.cell 0 _ rfl, h.k1.cell 1 _ rfl, h.k1.cell 2 _ rfl, h.k1.cell 3 _ rfl⟩)
          have KR := Lib.hid (fun (W : World) (h : B5 w W p b k' s' q' (fun m => if m = on then some c else f m) L' r nb' va' vb' Ow' Dn' (w.heap.size + 1) w5.heap.size w7.heap.size w9.heap.size #[.int .i64 od, .int .i64 on, .int .u64 f0, .int .u64 f1, .int .u64 f2, .int .u64 f3, .int .i64 or, .int .i64 op, .int .i64 ods, .int .u64 m0, .int .u64 m1, .int .u64 m2, .int .u64 m3] #[.int .u64 y0, .int .u64 y1, .int .u64 y2, .int .u64 y3] #[.int .u64 0, .int .u64 0, .int .u64 0, .int .u64 0] #[.int .u64 u0, .int .u64 u1, .int .u64 u2, .int .u64 u3] A1 xs) => B5.release HOW.out HGG.out HON.out HBB.out.1.1 HBB.out.1.2.1 HBB.out.1.2.2 hn9.out h)
          have j0 := st.k2.cell 0 _ rfl
          have j1 := st.k2.cell 1 _ rfl
          have j2 := st.k2.cell 2 _ rfl
          have j3 := st.k2.cell 3 _ rfl
          have KY := Lib.hid st.drew
          clear hb hb1 HT8 o8 J8 K8 N8 d1 HFO
          go_wp2_with fail
          clear j0 j1 j2 j3
          go_region_held3 (fun W => W.cell? ⟨w5.heap.size, 0, none⟩ = some (.int .u64 y0) ∧ W.cell? ⟨w5.heap.size, 1, none⟩ = some (.int .u64 y1) ∧ W.cell? ⟨w5.heap.size, 2, none⟩ = some (.int .u64 y2) ∧ W.cell? ⟨w5.heap.size, 3, none⟩ = some (.int .u64 y3) ∧ W.cell? ⟨w9.heap.size, 0, none⟩ = some (.int .u64 u0) ∧ W.cell? ⟨w9.heap.size, 1, none⟩ = some (.int .u64 u1) ∧ W.cell? ⟨w9.heap.size, 2, none⟩ = some (.int .u64 u2) ∧ W.cell? ⟨w9.heap.size, 3, none⟩ = some (.int .u64 u3) ∧ W.cell? ⟨w.heap.size + 1, 1, none⟩ = some (.int .i64 on))
            (first | exact KS.out _ st | exact KS.out _ KY.out | exact KS2.out _ st2)
            (first
              | (go_at_call 13; (with_reducible refine (KF1.out _ _ _ _ _ _ _ _ (by first | exact st.two | exact KY.out.two)).mono ?_); rintro _ wn ⟨rfl, hbn⟩; (first | replace hbn := undrew hbn | skip); replace st := st.next hbn; clear hbn)
              | (go_at_call 24; (with_reducible refine (KM.out _).mono ?_); rintro _ wn ⟨rfl, hbn⟩; (first | replace hbn := undrew hbn | skip); replace st := st.next hbn; clear hbn)
              | (go_at_call 25; (with_reducible refine (KR.out _ st).mono ?_); rintro _ wn ⟨rfl, st2⟩))
          all_goals
            clear KY KS KS2 KR KM KF1 KZ1 st
            have KY := Lib.hid st2.drew
            go_wp2_with fail
            go_region_held3 (fun W => W.cell? ⟨w5.heap.size, 0, none⟩ = some (.int .u64 y0) ∧ W.cell? ⟨w5.heap.size, 1, none⟩ = some (.int .u64 y1) ∧ W.cell? ⟨w5.heap.size, 2, none⟩ = some (.int .u64 y2) ∧ W.cell? ⟨w5.heap.size, 3, none⟩ = some (.int .u64 y3))
              (first | exact KS3.out _ st2 | exact KS3.out _ KY.out)
              (first
                | (go_at_call 13; (with_reducible refine (KF.out _ _ _ _ _ _ _ _ (by first | exact st2.two | exact KY.out.two)).mono ?_); rintro _ wn ⟨rfl, hbn⟩; (first | replace hbn := undrew hbn | skip); replace st2 := st2.next hbn; clear hbn)
                | (go_at_call 16; (with_reducible refine (KO.out _ _ _ _ _ _ _ hk' (by first | exact st2.two | exact KY.out.two)).mono ?_); rintro _ wn ⟨A2, cap2, rfl, hN2, _, hbn⟩; (first | replace hbn := undrew hbn | skip); replace st2 := st2.next hbn; clear hbn)
                | (go_at_call 15; (with_reducible refine (same_eq A2 A1 cap2 cap1 n1 xs _ hN2 st2.nat HX.out hn1s).mono ?_); rintro _ wn ⟨rfl, hbn⟩; clear hN2; (first | replace hbn := undrew hbn | skip); replace st2 := st2.next hbn; clear hbn)
                | (go_at_call 8; (with_reducible refine (KL.out _).mono ?_); rintro _ wn ⟨rfl, hbn⟩; (first | replace hbn := undrew hbn | skip); replace st2 := st2.next hbn; clear hbn))
            all_goals
              go_wp2_with fail
              go_ret
              exact ⟨rfl, st2.two.st.low⟩
end Go.Proofs.Ythmlibapjhmdbaa
