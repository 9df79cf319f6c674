/- tally: Vote, Exit, with what is kept of a tally's blocks. -/
import Derived.Test.YtodgkjmkjahkiaaV4
namespace Go.Proofs.Ytodgkjmkjahkiaa
open Go.RowKit Go.Maps

theorem sayI_all2 {w : World} {b k : Nat} {V : List En} (h : MpAt w b k 3 V) (hk : k ≤ 1000) {n : Int} (hw : wf n) (hb : ∀ x ∈ V, ∃ z, x.v = .int .i64 z) (y : Int) (m : Bool) :
    Calls Try.prog 65 #[.map (some b), .int .i64 n, .int .i64 y, .bool m] w fun e w' => ∃ k' V' er, e = .returned (.int .i64 er) ∧ k' ≤ k + 1 ∧ w.grownBy w' (some b) ∧ MpAt w' b k' 3 V' ∧ Sd V n (.int .i64 y) m V' er ∧ ∀ x ∈ V', x ∈ V ∨ w.heap.size ≤ x.b := by
  cases hx : lk V n with
  | some x =>
    obtain ⟨z, hz⟩ := hb x (lk_mem hx).1
    refine (sayI_has h hx hz y m).mono ?_
    rintro e w' ⟨rfl, hb'⟩
    refine ⟨k, V, _, rfl, by omega, grown_low hb', h.next hb', ?_, fun _ h => .inl h⟩
    cases hzy : (z == y)
    · exact .inr (.inl ⟨x, hx, by rw [hz]; intro e; injection e with _ e; rw [e] at hzy; simp at hzy, rfl, rfl⟩)
    · exact .inl ⟨x, hx, by rw [hz, (by simpa using hzy : z = y)], rfl, rfl⟩
  | none =>
    cases m
    · refine (sayI_no h hw hx y).mono ?_
      rintro e w' ⟨rfl, hb'⟩
      exact ⟨k, V, _, rfl, by omega, grown_low hb', h.next hb', .inr (.inr (.inl ⟨hx, rfl, rfl, rfl⟩)), fun _ h => .inl h⟩
    · refine (sayI_put h hk hw hx y).mono ?_
      rintro e w' ⟨rfl, w1, h1, _, h3, h4⟩
      refine ⟨k + 1, _, _, rfl, Nat.le_refl _, grown_comp h1 h3, h4, .inr (.inr (.inr ⟨hx, rfl, rfl, _, rfl⟩)), fun x hx2 => ?_⟩
      rcases List.mem_append.1 hx2 with q | q
      · exact .inl q
      · have q : x = ⟨n, .int .i64 y, w.heap.size⟩ := by simpa using q
        rw [q]
        exact .inr (Nat.le_refl _)
theorem TaIn.few {w : World} {p bv bc k k' m c : Nat} {T : Tv} {A : Option Addr} {V C : List En} (h : TaIn w p bv bc k T A m c V C) (hk : k ≤ k') : TaIn w p bv bc k' T A m c V C :=
  ⟨h.blk, h.ints, h.mv.few hk, h.mc.few hk, h.av, h.ac, h.ok, h.ne⟩
set_option maxRecDepth 100000 in
set_option maxHeartbeats 4000000 in
theorem vote_x {w : World} {p bv bc k m c : Nat} {T : Tv} {A : Option Addr} {V C : List En} (hT : TaIn w p bv bc k T A m c V C) (hk : k ≤ 900) (n : Int) (y : Bool) :
    Calls Try.prog 41 #[.pointer (some ⟨p, 0, none⟩), .int .i64 n, .bool y] w fun e w' => e = .returned (.int .i64 (voteE T n y)) ∧ (∃ V', TaIn w' p bv bc (k + 1) (voteT T n y) A m c V' C) ∧ w.grownBy w' (some bv) := by
  have h : TalAt w p bv bc k T := ⟨A, m, c, V, C, hT⟩
  have K1 := Lib.hid (thas_any h n)
  have HT := Lib.hid h
  cases hn : hasB T.ns n
  · rw [hn] at K1
    have hv := Lib.hid (vote_none (y := y) hn)
    have HX := Lib.hid hT
    clear h hn hT
    go_enter Try.func41, Try.ntmps41
    go_wp2_with (go_at_call 63; (with_reducible refine K1.out.mono ?_); rintro y w ⟨rfl, rfl⟩)
    go_ret
    exact ⟨by rw [hv.out.1]; rfl, ⟨V, by rw [hv.out.2]; exact HX.out.few (by omega)⟩, grown_low (Below.refl _ _)⟩
  · rw [hn] at K1
    obtain ⟨i, hi⟩ := ix_of hn
    clear h
    have HI := Lib.hid hi
    have HW := Lib.hid (wf_node hT.ok hn)
    have H := Lib.hid hT
    have KS := Lib.hid (fun V (hb : Below w.heap.size w V) => state_any (HT.out.next hb))
    have KY := Lib.hid (fun W (hb : Below w.heap.size w W) => sayB_all (hT.mv.next hb) (by omega) HW.out (vals_bool hT.av hT.mv.up) y (T.st == 0))
    have c1 := hT.blk.cell 1 _ rfl
    have C1 := Lib.hid (fun W (hb : Below w.heap.size w W) => (hT.blk.next hb).cell 1 _ rfl)
    clear hn hi hT
    obtain ⟨st, hst⟩ : ∃ st, st = T.st := ⟨_, rfl⟩
    rw [← hst] at KS KY
    have HST := Lib.hid hst
    clear hst
    go_enter Try.func41, Try.ntmps41
    go_wp2_with (go_at_call 63; (with_reducible refine K1.out.mono ?_); rintro y w ⟨rfl, rfl⟩)
    go_region_law (first
      | (go_simp; go_at_call 33; refine (KS.out _ (by first | exact (Below.refl _ _).drew | exact Below.refl _ _)).mono ?_; rintro y w2 ⟨rfl, hb2⟩; replace hb2 := undrew2 hb2; have d1 := C1.out w2 hb2)
      | (go_simp; go_at_call 64; refine (KY.out _ hb2).mono ?_; rintro y w3 ⟨k', V', er, rfl, hk', hg, hm, hs⟩))
    all_goals
      rw [HST.out] at hs
      obtain ⟨r1, r2, r3, r4⟩ := vote_said H.out.av (okN_nodup H.out.ok) HI.out hs
      have R := Lib.hid (show ∃ V', TaIn w3 p bv bc (k + 1) (voteT T n y) A m c V' C from by
        have h2 := H.out.next hb2
        refine ⟨V', h2.blk.grown hg (h2.mv.ne h2.blk), ?_, hm.few hk', ?_, by rw [r3]; exact r2, by rw [r3, r4]; exact h2.ac, by rw [r3]; exact h2.ok, h2.ne⟩
        · rw [r3]; exact h2.ints.kept h2.mv hg
        · exact (h2.mc.other h2.mv h2.ne.symm hg).few (by omega))
      have G := Lib.hid (grown_comp hb2 hg)
      have E := Lib.hid r1
      clear r1 r2 r3 r4 hs hm hg
      go_wp2
      go_ret
      exact ⟨by rw [E.out]; rfl, R.out, G.out⟩
set_option maxRecDepth 100000 in
set_option maxHeartbeats 4000000 in
theorem exit_x {w : World} {p bv bc k m c : Nat} {T : Tv} {A : Option Addr} {V C : List En} (hT : TaIn w p bv bc k T A m c V C) (hk : k ≤ 900) (n y : Int) :
    Calls Try.prog 42 #[.pointer (some ⟨p, 0, none⟩), .int .i64 n, .int .i64 y] w fun e w' => e = .returned (.int .i64 (exitE T n y)) ∧ (∃ C', TaIn w' p bv bc (k + 1) (exitT T n y) A m c V C' ∧ ∀ x ∈ C', x ∈ C ∨ w.heap.size ≤ x.b) ∧ w.grownBy w' (some bc) := by
  have h : TalAt w p bv bc k T := ⟨A, m, c, V, C, hT⟩
  have K1 := Lib.hid (thas_any h n)
  have HX := Lib.hid hT
  have HT := Lib.hid h
  cases hn : hasB T.ns n
  · rw [hn] at K1
    have hv := Lib.hid (exit_none (c := y) hn)
    clear h hn hT
    go_enter Try.func42, Try.ntmps42
    go_wp2_with (go_at_call 63; (with_reducible refine K1.out.mono ?_); rintro _ w ⟨rfl, rfl⟩)
    go_ret
    exact ⟨by rw [hv.out.1]; rfl, ⟨C, by rw [hv.out.2]; exact HX.out.few (by omega), fun _ h => .inl h⟩, grown_low (Below.refl _ _)⟩
  · rw [hn] at K1
    by_cases g1 : y < 0
    · have hv := Lib.hid (exit_out (T := T) (n := n) (c := y) (by omega))
      clear h hn hT
      go_enter Try.func42, Try.ntmps42
      go_wp2_with (go_at_call 63; (with_reducible refine K1.out.mono ?_); rintro _ w ⟨rfl, rfl⟩)
      go_ret
      exact ⟨by rw [hv.out.1]; rfl, ⟨C, by rw [hv.out.2]; exact HX.out.few (by omega), fun _ h => .inl h⟩, grown_low (Below.refl _ _)⟩
    · by_cases g2 : y > 255
      · have hv := Lib.hid (exit_out (T := T) (n := n) (c := y) (by omega))
        clear h hn hT
        go_enter Try.func42, Try.ntmps42
        go_wp2_with (go_at_call 63; (with_reducible refine K1.out.mono ?_); rintro _ w ⟨rfl, rfl⟩)
        go_ret
        exact ⟨by rw [hv.out.1]; rfl, ⟨C, by rw [hv.out.2]; exact HX.out.few (by omega), fun _ h => .inl h⟩, grown_low (Below.refl _ _)⟩
      · obtain ⟨i, hi⟩ := ix_of hn
        clear h HX
        have HI := Lib.hid hi
        have HW := Lib.hid (wf_node hT.ok hn)
        have H := Lib.hid hT
        have KS := Lib.hid (fun V (hb : Below w.heap.size w V) => state_any (HT.out.next hb))
        have KY := Lib.hid (fun W (hb : Below w.heap.size w W) => sayI_all2 (hT.mc.next hb) (by omega) HW.out (vals_int hT.ac hT.mc.up) y (T.st == 1))
        have c1 := hT.blk.cell 2 _ rfl
        have C1 := Lib.hid (fun W (hb : Below w.heap.size w W) => (hT.blk.next hb).cell 2 _ rfl)
        clear hn hi hT
        obtain ⟨st, hst⟩ : ∃ st, st = T.st := ⟨_, rfl⟩
        rw [← hst] at KS KY
        have HST := Lib.hid hst
        clear hst
        go_enter Try.func42, Try.ntmps42
        go_wp2_with (go_at_call 63; (with_reducible refine K1.out.mono ?_); rintro _ w ⟨rfl, rfl⟩)
        go_region_law (first
          | (go_simp; go_at_call 33; refine (KS.out _ (by first | exact (Below.refl _ _).drew | exact Below.refl _ _)).mono ?_; rintro y w2 ⟨rfl, hb2⟩; replace hb2 := undrew2 hb2; have d1 := C1.out w2 hb2)
          | (go_simp; go_at_call 65; refine (KY.out _ hb2).mono ?_; rintro y w3 ⟨k', V', er, rfl, hk', hg, hm, hs, hnew⟩))
        all_goals
          rw [HST.out] at hs
          obtain ⟨r1, r2, r3, r4⟩ := exit_said H.out.ac (okN_nodup H.out.ok) HI.out ⟨by omega, by omega⟩ hs
          have R := Lib.hid (show ∃ C', TaIn w3 p bv bc (k + 1) (exitT T n y) A m c V C' ∧ ∀ x ∈ C', x ∈ C ∨ w.heap.size ≤ x.b from by
            have h2 := H.out.next hb2
            refine ⟨V', ⟨h2.blk.grown hg (h2.mc.ne h2.blk), ?_, ?_, hm.few hk', by rw [r3, r4]; exact h2.av, by rw [r3]; exact r2, by rw [r3]; exact h2.ok, h2.ne⟩, fun x hx => (hnew x hx).imp id (fun q => Nat.le_trans hb2.size q)⟩
            · rw [r3]; exact h2.ints.kept h2.mc hg
            · exact (h2.mv.other h2.mc h2.ne hg).few (by omega))
          have G := Lib.hid (grown_comp hb2 hg)
          have E := Lib.hid r1
          clear r1 r2 r3 r4 hs hm hg hnew
          go_wp2
          go_ret
          exact ⟨by rw [E.out]; rfl, R.out, G.out⟩
end Go.Proofs.Ytodgkjmkjahkiaa
