/- The law on a pool's cores: apart, and all there are. -/
import Derived.Test.YthmlibapjhmdbaaGQ40xQ41xQ42
import Derived.Test.YthmlibapjhmdbaaQ18
namespace Go.Proofs.Ythmlibapjhmdbaa
open Go.RowKit Go.Shelf Go.Maps Go.Sort

attribute [local go_sem] eq33 eq40

/-- Words, as a list of four. -/
theorem w4_ex {m : List Nat} (h : Mk.W4 m) : ∃ a b c d, m = [a, b, c, d] := ⟨_, _, _, _, Mk.len4 h.1⟩
theorem Td.to_grown {B : Nat} {w w' : World} (h : Td (fun i => i = B) w w') : w.grownBy w' (some B) := ⟨h.os, h.tape, h.output, h.size, fun k hk hne => h.block k hk (fun e => hne (by rw [e]))⟩
theorem grown_set4 {w V : World} {B : Nat} (h : w.grownBy V (some B)) (a b c d : Value) : w.grownBy ((((V.setCell ⟨B, 0, none⟩ a).setCell ⟨B, 1, none⟩ b).setCell ⟨B, 2, none⟩ c).setCell ⟨B, 3, none⟩ d) (some B) :=
  Td.to_grown (((((Td.grown h (fun _ e => (Option.some.inj e).symm)).trans (Td.set (X := fun i => i = B) ⟨B, 0, none⟩ rfl a)).trans (Td.set (X := fun i => i = B) ⟨B, 1, none⟩ rfl b)).trans (Td.set (X := fun i => i = B) ⟨B, 2, none⟩ rfl c)).trans (Td.set (X := fun i => i = B) ⟨B, 3, none⟩ rfl d))
theorem Two.far {w V V' : World} {p b k s q r nb : Nat} {g : Int → Option Sh} {L : List Int} {va vb : Value} {Ow Dn : List Int} (h : Two w V p b k s q g L r nb va vb Ow Dn) {B : Nat} (hp : p ≠ B) (hx : ¬ PX b r va vb B) (hw : w.heap.size ≤ B) (hg : V.grownBy V' (some B)) : Two w V' p b k s q g L r nb va vb Ow Dn := by
  have e0 : b ≠ B := fun e => hx (.inl e.symm)
  have e1 : r ≠ B := fun e => hx (.inr (.inl e.symm))
  have e2 : va.ownBlock ≠ some B := fun e => hx (.inr (.inr (.inl e)))
  have e3 : vb.ownBlock ≠ some B := fun e => hx (.inr (.inr (.inr e)))
  obtain ⟨D, h1, h2⟩ := h.st.pool.own
  exact ⟨⟨⟨h.st.pool.blk.grown hg hp, D, own_map_at h1 (hg.block b h.st.pool.ltb (fun e => e0 (Option.some.inj e))), h2⟩, h.st.low.grown hg h.st.low.size (fun j ej => by cases ej; exact hw), h.st.nb, h.st.own⟩, h.hp, h.hb, h.hr,
    ⟨h.rp.blk.grown hg e1, own_kept h.rp.ra hg (fun g e e' => e2 (e.trans e'.symm)), own_kept h.rp.rb hg (fun g e e' => e3 (e.trans e'.symm)), h.rp.ab, h.rp.la, h.rp.lb⟩⟩
theorem wf_own {n : Int} (h : isOwn n = true) : (Lit.int .i64 n).wf = true := by
  unfold isOwn at h
  simp at h
  have h3 : IntKind.i64.min = -9223372036854775808 := by decide
  have h4 : IntKind.i64.max = 9223372036854775807 := by decide
  simp [Lit.wf, h3, h4]
  omega
set_option maxRecDepth 100000 in
set_option maxHeartbeats 8000000 in
theorem apart_law (s q : Int) (A : Option Addr) (n cap : Nat) (os : List Oq) (w : World) (h : Sq w A n os) :
    Calls Try.prog 4 #[.agg #[.int .i64 s, .int .i64 q], .slice A n cap] w fun e w' => e = .returned (.bool true) ∧ Below w.heap.size w w' := by
  have KL := Lib.hid live_any
  have HS := Lib.hid h
  clear h
  have hb0 := (Below.refl _ w).alloc (Nat.le_refl _) (.cells #[.int .i64 s, .int .i64 q] 23)
  by_cases hn : (60 : Int) < (n : Int)
  · go_enter Try.func4, Try.ntmps4
    go_wp2_with fail
    refine (KL.out _).mono ?_
    rintro _ w9 ⟨rfl, hb9⟩
    go_wp2_with fail
    go_ret
    exact ⟨rfl, bmore hb0 hb9⟩
  rcases LOk_or s q with ⟨s', q', rfl, rfl, hL⟩ | hL
  case inr =>
    go_enter Try.func4, Try.ntmps4
    go_wp2_with fail
    refine (rCheck_bad s q _ hL).mono ?_
    rintro _ w8 ⟨rfl, hb8⟩
    replace hb0 := bmore hb0 hb8
    clear hb8
    go_wp2_with fail
    refine (KL.out _).mono ?_
    rintro _ w9 ⟨rfl, hb9⟩
    go_wp2_with fail
    go_ret
    exact ⟨rfl, bmore hb0 hb9⟩
  have HL := Lib.hid hL
  obtain ⟨All, hAll⟩ : ∃ All, All = Mk.ofL (List.range (s' * q')) := ⟨_, rfl⟩
  have hA4 : Mk.W4 All := by rw [hAll]; exact range_W4 hL.2.2.2.2
  have HALL := Lib.hid hAll
  have HC0 := Lib.hid (fun V => call_ok s' q' V hL)
  rw [← hAll] at HC0
  clear hL hAll
  obtain ⟨l0, l1, l2, l3, rfl⟩ := w4_ex hA4
  have HC := Lib.hid (show ∀ V : World, Calls Try.prog 23 #[.agg #[.int .i64 s', .int .i64 q']] V fun e w' => e = .returned (.agg #[.int .u64 l0, .int .u64 l1, .int .u64 l2, .int .u64 l3]) ∧ Below V.heap.size V w' from HC0.out)
  have HOwn := Lib.hid (fun V => own_any (s' : Int) (q' : Int) V)
  have HA4 := Lib.hid hA4
  clear HC0 hA4
  have j0 := Bk.new w 23 #[.int .i64 s', .int .i64 q']
  go_enter Try.func4, Try.ntmps4
  go_wp2_with fail
  refine (rCheck_ok s' q' _ HL.out).mono ?_
  rintro _ w1 ⟨rfl, hb⟩
  replace hb0 := bmore hb0 hb; replace j0 := j0.next hb; clear hb
  have c0 := j0.cell 0 _ rfl
  have c1 := j0.cell 1 _ rfl
  go_wp2_with fail
  refine (own_any s' q' _).mono ?_
  rintro _ w2 ⟨rfl, hb⟩
  replace hb0 := bmore hb0 hb; replace j0 := j0.next hb; clear hb c0 c1
  go_wp2_with fail
  refine (new_ok s' q' _ HL.out).mono ?_
  rintro _ w3 ⟨p, b, rfl, hp, hbb, hP, hb⟩
  have hjl := j0.lt
  have HWB := Lib.hid (show w.heap.size < b from by omega)
  have hpl := hP.blk.lt
  have hbl := hP.ltb
  replace j0 := j0.next hb
  have S0 := Lib.hid (show St w w3 p b 0 s' q' (fun _ => Option.none) [] from ⟨hP, bmore hb0 hb, by have := hb0.size; omega, Own.none⟩)
  have hs3 := bmore hb0 hb
  clear hb0 hb hp hbb hP
  have c0 := j0.cell 0 _ rfl
  have c1 := j0.cell 1 _ rfl
  go_wp2_with fail
  refine (rnew_ok s' q' _ HL.out).mono ?_
  rintro _ w4 ⟨r, va, rfl, hr, hR, hb⟩
  have HK0 := Lib.hid (j0.next hb)
  have T0 := Lib.hid (show Two w w4 p b 0 s' q' (fun _ => Option.none) [] r 0 va (.slice none 0 0) (List.replicate (s' * q') (-1)) [] from ⟨S0.out.next hb, by omega, by omega, by have := hs3.size; omega, hR⟩)
  have A0 := Lib.hid (Agr.start (s' * q'))
  clear c0 c1 j0 hb hR S0 hs3 hpl hbl hjl hr
  go_wp2_with fail
  go_loopg [7] n (fun c s7 wr => ∃ (i k : Nat) (f : Int → Option Sh) (L : List Int) (nb : Nat) (va vb : Value) (Ow Dn : List Int), i + c = n ∧ s7 = .int .i64 i ∧ k ≤ i ∧ nb ≤ i ∧ Hid (Two w wr p b k s' q' f L r nb va vb Ow Dn) ∧ Hid (Agr (s' * q') f Ow Dn) ∧ Hid (Bk wr w.heap.size 23 #[.int .i64 s', .int .i64 q']))
  case atStart => exact ⟨0, 0, _, _, 0, _, _, _, _, by omega, rfl, Nat.le_refl _, Nat.le_refl _, T0, A0, HK0⟩
  case round =>
    clear T0 A0 HK0
    obtain ⟨i, k, f, L, nb, va, vb, Ow, Dn, hig, rfl, hki, hni, HT, HA, HJ⟩ := hrel
    cases gk with
    | zero =>
      have hlt : ¬ ((i : Int) < (n : Int)) := by omega
      go_wp2_with fail
      refine (KL.out _).mono ?_
      rintro _ w9 ⟨rfl, hb9⟩
      go_wp2_with fail
      go_ret
      exact ⟨rfl, bmore HT.out.st.low hb9⟩
    | succ gn =>
      have i0 : (0 : Int) ≤ (i : Int) := by omega
      have i1 : (i : Int) < (n : Int) := by omega
      obtain ⟨ad, o, rfl, hwf, hw8, hblk, hat⟩ := HS.out.still8 (i := i) (by omega)
      obtain ⟨c0, c1, c2, c3, c4, c5, c6, c7, c8, c9, c10, c11, c12⟩ := hat wr HT.out.st.low
      have KD := Lib.hid (does_any HT.out HA.out HL.out (by omega) (by omega) o hwf hw8)
      clear hat hblk hwf hw8 HA
      obtain ⟨od, on, f0, f1, f2, f3, or, op, ods, m0, m1, m2, m3⟩ := o
      dsimp only at c0 c1 c2 c3 c4 c5 c6 c7 c8 c9 c10 c11 c12 KD
      go_wp2_with fail
      refine KD.out.mono ?_
      rintro _ w5 ⟨k', g', L', nb', va', vb', Ow', Dn', rfl, hk', hn', hT, hA, hTd, _⟩
      have hnx : ¬ PX b r va vb w.heap.size := by
        have h1 := HWB.out
        have h2 := HT.out.hb
        rintro (e | e)
        · omega
        · have := HT.out.ge _ e; omega
      have HJ5 := Lib.hid (hTd.bk HJ.out hnx)
      have HT5 := Lib.hid hT
      have HA5 := Lib.hid hA
      have hk5 : k' ≤ i + 1 := by omega
      have hn5 : nb' ≤ i + 1 := by omega
      have KF0 := free_fix hT.st.pool HL.out
      have hF4 := freeM_W4 (Mk.ofL (List.range (s' * q'))) g'
      rw [← HALL.out, ← accM_zero hT.st.own] at KF0 hF4
      clear c0 c1 c2 c3 c4 c5 c6 c7 c8 c9 c10 c11 c12 KD hnx hTd hT hA HT HJ hk' hn' hki hni
      obtain ⟨y0, y1, y2, y3, hy⟩ := w4_ex hF4
      rw [hy] at KF0
      have HY := Lib.hid hy
      have KF := Lib.hid (show Calls Try.prog 13 #[.pointer (some ⟨p, 0, none⟩)] w5 fun e w' => e = .returned (.agg #[.int .u64 y0, .int .u64 y1, .int .u64 y2, .int .u64 y3]) ∧ Below w5.heap.size w5 w' from KF0)
      clear KF0 hF4 hy
      go_wp2_with fail
      refine KF.out.mono ?_
      rintro _ w6 ⟨rfl, hb6⟩
      have hba := (Below.refl _ w6).alloc (Nat.le_refl _) (.cells #[.int .u64 y0, .int .u64 y1, .int .u64 y2, .int .u64 y3] 40)
      have HT7 := Lib.hid ((HT5.out.next hb6).next hba)
      have HJ7 := Lib.hid ((HJ5.out.next hb6).next hba)
      have k8 := Bk.new w6 40 #[.int .u64 y0, .int .u64 y1, .int .u64 y2, .int .u64 y3]
      have KO := Lib.hid (owners_at HT7.out.st.pool L' HT7.out.st.own.up HT7.out.st.own.has (by have := HT7.out.st.own.len; omega))
      clear hba
      go_wp2_with fail
      refine KO.out.mono ?_
      rintro _ w8 ⟨v, rfl, hrow, _, hb⟩
      obtain ⟨A1, k1, rfl⟩ := own_form hrow
      obtain ⟨n1, hn1⟩ : ∃ n1, n1 = L'.length := ⟨_, rfl⟩
      rw [← hn1] at hrow ⊢
      have HN1 := Lib.hid hn1
      have HZ := Lib.hid (show n1 = 0 ∨ ∃ g', A1 = some ⟨g', 0, none⟩ ∧ w6.heap.size < g' ∧ g' < w8.heap.size ∧ ∀ j z, j < n1 → L'[j]? = some z → w8.cell? ⟨g', j, none⟩ = some (.int .i64 z) from by
        rcases zs_at hrow with e | ⟨g', rfl, h2, h3⟩
        · exact .inl e
        · have h4 := own_ge hrow
          rw [size_alloc] at h4
          exact .inr ⟨g', rfl, by omega, h2, h3⟩)
      have HT8 := Lib.hid (HT7.out.next hb)
      have HJ8 := Lib.hid (HJ7.out.next hb)
      have K8 := k8.next hb
      have hn61 : n1 ≤ 61 := by have h1 := HT8.out.st.own.len; omega
      have HB8 := Lib.hid (show p ≠ w6.heap.size ∧ ¬ PX b r va' vb' w6.heap.size ∧ w.heap.size < w6.heap.size from by
        have h1 := HT5.out.lt
        have h2 := hb6.size
        have h3 := HT5.out.st.pool.blk.lt
        have h4 := HT5.out.st.pool.ltb
        have h5 := HWB.out
        exact ⟨by omega, fun e => by have := h1 _ e; omega, by omega⟩)
      clear hrow hb hn1 KO HT7 HJ7 k8 hb6 HT5 HJ5 KF
      obtain ⟨W8_, hW8⟩ : ∃ x, x = w8 := ⟨_, rfl⟩
      subst hW8
      go_wp2_with fail
      go_loopg [10] n1 (fun c s10 wx => ∃ (j x0 x1 x2 x3 : Nat), j + c = n1 ∧ s10 = .int .i64 j ∧ Hid (accM [l0, l1, l2, l3] g' L' j = [x0, x1, x2, x3]) ∧ Bk wx w6.heap.size 40 #[.int .u64 x0, .int .u64 x1, .int .u64 x2, .int .u64 x3] ∧ Hid (W8_.grownBy wx (some w6.heap.size)))
      case atStart => exact ⟨0, y0, y1, y2, y3, by omega, rfl, HY, K8, Lib.hid (World.grownBy.refl _ _)⟩
      case round =>
        clear K8 HY
        obtain ⟨j, x0, x1, x2, x3, hjn, rfl, HX, hB, hg⟩ := hrel
        have HT := Lib.hid (HT8.out.far HB8.out.1 HB8.out.2.1 (Nat.le_of_lt HB8.out.2.2) hg.out)
        have HJ := Lib.hid (HJ8.out.grown hg.out (Nat.ne_of_lt HB8.out.2.2))
        have hx4 : Hid (Mk.W4 [x0, x1, x2, x3]) := Lib.hid (by rw [← HX.out]; exact accM_W4 _ _ _ _)
        cases gk with
        | succ g1 =>
          have p0 : (0 : Int) ≤ (j : Int) := by omega
          have p1 : (j : Int) < (n1 : Int) := by omega
          obtain ⟨gz, rfl, hgz, hgz2, hat⟩ : ∃ g', A1 = some ⟨g', 0, none⟩ ∧ w6.heap.size < g' ∧ g' < W8_.heap.size ∧ ∀ j z, j < n1 → L'[j]? = some z → W8_.cell? ⟨g', j, none⟩ = some (.int .i64 z) := by
            rcases HZ.out with e | e
            · omega
            · exact e
          obtain ⟨z, ez⟩ : ∃ z, L'[j]? = some z := ⟨_, List.getElem?_eq_getElem (by have := HN1.out; omega)⟩
          have a0 := (World.cell?_of_block (a := ⟨gz, j, none⟩) (hg.out.block gz hgz2 (fun e => by have e2 : gz = w6.heap.size := Option.some.inj e; omega))).trans (hat j z (by omega) ez)
          have hzs := (HT8.out.st.own.has z).1 (List.mem_of_getElem? ez)
          obtain ⟨sh, hsh⟩ := Option.isSome_iff_exists.1 hzs
          have KO0 := ofOwner_any HT.out.st.pool (wf_own (HA5.out.isO z sh hsh))
          have hm0 := own_has_some HT8.out.st.own ez
          have hand := accM_and (A := [l0, l1, l2, l3]) (g := g') ez
          have hor := accM_or (A := [l0, l1, l2, l3]) HT8.out.st.own (by have := HA5.out.apt; rw [← HALL.out] at this; exact this) ez
          have hok := (((g' z).getD Sh.none)).ok
          generalize ((g' z).getD Sh.none).t = tt at KO0
          generalize ((g' z).getD Sh.none).m = mm at KO0 hm0 hand hor hok
          obtain ⟨z0, z1, z2, z3, rfl⟩ := w4_ex hok
          obtain ⟨n0, n1_, n2, n3, hnx⟩ := w4_ex (accM_W4 [l0, l1, l2, l3] g' L' (j + 1))
          rw [HX.out] at hand hor
          rw [hnx] at hor
          have KOf := Lib.hid (show Calls Try.prog 18 #[.pointer (some ⟨p, 0, none⟩), .int .i64 z] wr fun e w' => e = .returned (.tuple #[.agg #[.int .u64 z0, .int .u64 z1, .int .u64 z2, .int .u64 z3], .bool tt]) ∧ Below wr.heap.size wr w' from KO0)
          have KAn := Lib.hid (show ∀ V, Calls Try.prog 21 #[.agg #[.int .u64 z0, .int .u64 z1, .int .u64 z2, .int .u64 z3], .agg #[.int .u64 x0, .int .u64 x1, .int .u64 x2, .int .u64 x3]] V fun e w' => e = .returned (.agg #[.int .u64 0, .int .u64 0, .int .u64 0, .int .u64 0]) ∧ Below V.heap.size V w' from fun V => by
            have := and_any [z0, z1, z2, z3] [x0, x1, x2, x3] V hok hx4.out
            rw [hand] at this
            exact this)
          have KOr := Lib.hid (show ∀ V, Calls Try.prog 22 #[.agg #[.int .u64 x0, .int .u64 x1, .int .u64 x2, .int .u64 x3], .agg #[.int .u64 z0, .int .u64 z1, .int .u64 z2, .int .u64 z3]] V fun e w' => e = .returned (.agg #[.int .u64 n0, .int .u64 n1_, .int .u64 n2, .int .u64 n3]) ∧ Below V.heap.size V w' from fun V => by
            have := or_any [x0, x1, x2, x3] [z0, z1, z2, z3] V hx4.out hok
            rw [hor] at this
            exact this)
          have t0 := zero_no hm0
          have HNX := Lib.hid hnx
          clear hat ez hgz hgz2 hzs hsh KO0 hm0 hand hor hok hnx HX hx4 HT
          go_wp2_with fail
          refine KOf.out.mono ?_
          rintro _ w9 ⟨rfl, hb9⟩
          have hba := (Below.refl _ w9).alloc (Nat.le_refl _) (.cells #[.int .u64 z0, .int .u64 z1, .int .u64 z2, .int .u64 z3] 40)
          have k11 := Bk.new w9 40 #[.int .u64 z0, .int .u64 z1, .int .u64 z2, .int .u64 z3]
          have hB2 := (hB.next hb9).next hba
          have hg2 := Lib.hid (grown_below (grown_below hg.out hb9) hba)
          clear hb9 hba hB hg KOf
          have b0 := hB2.cell 0 _ rfl
          have b1 := hB2.cell 1 _ rfl
          have b2 := hB2.cell 2 _ rfl
          have b3 := hB2.cell 3 _ rfl
          go_wp2_with fail
          refine (KAn.out _).mono ?_
          rintro _ w10 ⟨rfl, hb10⟩
          have hB3 := hB2.next hb10
          have k12 := k11.next hb10
          have hg3 := Lib.hid (grown_below hg2.out hb10)
          clear b0 b1 b2 b3 hB2 k11 hb10 hg2 KAn
          have b0 := hB3.cell 0 _ rfl
          have b1 := hB3.cell 1 _ rfl
          have b2 := hB3.cell 2 _ rfl
          have b3 := hB3.cell 3 _ rfl
          have d0 := k12.cell 0 _ rfl
          have d1 := k12.cell 1 _ rfl
          have d2 := k12.cell 2 _ rfl
          have d3 := k12.cell 3 _ rfl
          go_wp2_with fail
          refine (KOr.out _).mono ?_
          rintro _ w11 ⟨rfl, hb11⟩
          have hB4 := hB3.next hb11
          have hg4 := grown_below hg3.out hb11
          clear b0 b1 b2 b3 d0 d1 d2 d3 hB3 k12 hb11 hg3 KOr t0
          have b0 := hB4.cell 0 _ rfl
          have b1 := hB4.cell 1 _ rfl
          have b2 := hB4.cell 2 _ rfl
          have b3 := hB4.cell 3 _ rfl
          have v0 := hB4.frozen 0
          have v1 := hB4.frozen 1
          have v2 := hB4.frozen 2
          have v3 := hB4.frozen 3
          have HB5 := Lib.hid (hB4.set4 (.int .u64 n0) (.int .u64 n1_) (.int .u64 n2) (.int .u64 n3))
          have HG5 := Lib.hid (grown_set4 hg4 (.int .u64 n0) (.int .u64 n1_) (.int .u64 n2) (.int .u64 n3))
          clear hB4 hg4
          go_wp2_with fail
          go_roundg g1
          case measure => omega
          case rel => exact ⟨j + 1, n0, n1_, n2, n3, by omega, by go_num, HNX, HB5.out, HG5⟩
        | zero =>
          obtain rfl : j = n1 := by omega
          have hlt : ¬ ((j : Int) < (j : Int)) := by omega
          have hX := HX.out
          rw [HN1.out, accM_end HA4.out] at hX
          simp only [List.cons.injEq, and_true] at hX
          obtain ⟨rfl, rfl, rfl, rfl⟩ := hX
          go_wp2_with fail
          have Q0 := In.cell (B := wr.heap.size) hB.lt (hB.cell 0 _ rfl)
          have Q1 := In.cell (B := wr.heap.size) hB.lt (hB.cell 1 _ rfl)
          have Q2 := In.cell (B := wr.heap.size) hB.lt (hB.cell 2 _ rfl)
          have Q3 := In.cell (B := wr.heap.size) hB.lt (hB.cell 3 _ rfl)
          have Q4 := In.cell (B := wr.heap.size) HJ.out.lt (HJ.out.cell 0 _ rfl)
          have Q5 := In.cell (B := wr.heap.size) HJ.out.lt (HJ.out.cell 1 _ rfl)
          have hIn := inNonempty wr.heap.size wr
          refine region_in wr.heap.size (by kernel_rfl) (by kernel_rfl) ?_
          repeat (go_big_quiet_step (first | (go_at_call 10; with_reducible exact Calls.in_of (Nat.le_refl _) (HOwn.out _)) | (go_at_call 23; with_reducible exact Calls.in_of (Nat.le_refl _) (HC.out _))))
          refine wpQuiet_nil ?_
          intro w12 hb12
          have HT12 := Lib.hid (HT.out.next hb12)
          have HJ12 := Lib.hid (HJ.out.next hb12)
          clear Q0 Q1 Q2 Q3 Q4 Q5 hIn hB HT HJ hg hb12
          go_wp2_with fail
          go_roundg gn
          case measure => omega
          case rel => exact ⟨i + 1, k', g', L', nb', va', vb', Ow', Dn', by omega, by go_num, hk5, hn5, HT12, HA5, HJ12⟩
end Go.Proofs.Ythmlibapjhmdbaa
