/- tally: Vote, Exit. -/
import Derived.Test.YtodgkjmkjahkiaaT5
namespace Go.Proofs.Ytodgkjmkjahkiaa
open Go.RowKit Go.Maps

theorem undrew2 {w w2 : World} (h : Below w.drew.heap.size w.drew w2) : Below w.heap.size w w2 := ⟨h.os, h.tape, h.output, h.size, h.block⟩
theorem TalAt.few {w : World} {p bv bc k k' : Nat} {T : Tv} (h : TalAt w p bv bc k T) (hk : k ≤ k') : TalAt w p bv bc k' T := by
  obtain ⟨A, n, c, V, C, h⟩ := h
  exact ⟨A, n, c, V, C, h.blk, h.ints, h.mv.few hk, h.mc.few hk, h.av, h.ac, h.ok, h.ne⟩
theorem wf_node {ns : List Int} (h : okN ns = true) {n : Int} (hn : hasB ns n = true) : wf n := by
  have := (okN_iff.1 h).1.2 n (hasB_iff.1 hn)
  exact wf_iff.2 (by omega)
set_option maxRecDepth 100000 in
set_option maxHeartbeats 4000000 in
theorem vote_any {w : World} {p bv bc k : Nat} {T : Tv} (h : TalAt w p bv bc k T) (hk : k ≤ 900) (n : Int) (y : Bool) :
    Calls Try.prog 41 #[.pointer (some ⟨p, 0, none⟩), .int .i64 n, .bool y] w fun e w' => e = .returned (.int .i64 (voteE T n y)) ∧ TalAt w' p bv bc (k + 1) (voteT T n y) ∧ w.grownBy w' (some bv) := by
  have K1 := Lib.hid (thas_any h n)
  have HT := Lib.hid h
  cases hn : hasB T.ns n
  · rw [hn] at K1
    have hv := Lib.hid (vote_none (y := y) hn)
    clear h hn
    go_enter Try.func41, Try.ntmps41
    go_wp2_with (go_at_call 63; (with_reducible refine K1.out.mono ?_); rintro y w ⟨rfl, rfl⟩)
    go_ret
    exact ⟨by rw [hv.out.1]; rfl, by rw [hv.out.2]; exact HT.out.few (by omega), grown_low (Below.refl _ _)⟩
  · rw [hn] at K1
    obtain ⟨i, hi⟩ := ix_of hn
    obtain ⟨A, m, c, V, C, hT⟩ := h
    have HI := Lib.hid hi
    have HW := Lib.hid (wf_node hT.ok hn)
    have H := Lib.hid hT
    have KS := Lib.hid (fun V (hb : Below w.heap.size w V) => state_any (HT.out.next hb))
    have KY := Lib.hid (fun W (hb : Below w.heap.size w W) => sayB_all (hT.mv.next hb) (by omega) HW.out (vals_bool hT.av hT.mv.up) y (T.st == 0))
    have c1 := hT.blk.cell 1 _ rfl
    have C1 := Lib.hid (fun W (hb : Below w.heap.size w W) => (hT.blk.next hb).cell 1 _ rfl)
    clear hn hi hT
    obtain ⟨st, hst⟩ : ∃ st, st = T.st := ⟨_, rfl⟩
    rw [← hst] at KS KY
    have HST := Lib.hid hst
    clear hst
    go_enter Try.func41, Try.ntmps41
    go_wp2_with (go_at_call 63; (with_reducible refine K1.out.mono ?_); rintro y w ⟨rfl, rfl⟩)
    go_region_law (first
      | (go_simp; go_at_call 33; refine (KS.out _ (by first | exact (Below.refl _ _).drew | exact Below.refl _ _)).mono ?_; rintro y w2 ⟨rfl, hb2⟩; replace hb2 := undrew2 hb2; have d1 := C1.out w2 hb2)
      | (go_simp; go_at_call 64; refine (KY.out _ hb2).mono ?_; rintro y w3 ⟨k', V', er, rfl, hk', hg, hm, hs⟩))
    all_goals
      rw [HST.out] at hs
      obtain ⟨r1, r2, r3, r4⟩ := vote_said H.out.av (okN_nodup H.out.ok) HI.out hs
      have R := Lib.hid (show TalAt w3 p bv bc (k + 1) (voteT T n y) from by
        have h2 := H.out.next hb2
        refine ⟨A, m, c, V', C, h2.blk.grown hg (h2.mv.ne h2.blk), ?_, hm.few hk', ?_, by rw [r3]; exact r2, by rw [r3, r4]; exact h2.ac, by rw [r3]; exact h2.ok, h2.ne⟩
        · rw [r3]; exact h2.ints.kept h2.mv hg
        · exact (h2.mc.other h2.mv h2.ne.symm hg).few (by omega))
      have G := Lib.hid (grown_comp hb2 hg)
      have E := Lib.hid r1
      clear r1 r2 r3 r4 hs hm hg
      go_wp2
      go_ret
      exact ⟨by rw [E.out]; rfl, R.out, G.out⟩
set_option maxRecDepth 100000 in
set_option maxHeartbeats 4000000 in
theorem exit_any {w : World} {p bv bc k : Nat} {T : Tv} (h : TalAt w p bv bc k T) (hk : k ≤ 900) (n y : Int) :
    Calls Try.prog 42 #[.pointer (some ⟨p, 0, none⟩), .int .i64 n, .int .i64 y] w fun e w' => e = .returned (.int .i64 (exitE T n y)) ∧ TalAt w' p bv bc (k + 1) (exitT T n y) ∧ w.grownBy w' (some bc) := by
  have K1 := Lib.hid (thas_any h n)
  have HT := Lib.hid h
  cases hn : hasB T.ns n
  · rw [hn] at K1
    have hv := Lib.hid (exit_none (c := y) hn)
    clear h hn
    go_enter Try.func42, Try.ntmps42
    go_wp2_with (go_at_call 63; (with_reducible refine K1.out.mono ?_); rintro _ w ⟨rfl, rfl⟩)
    go_ret
    exact ⟨by rw [hv.out.1]; rfl, by rw [hv.out.2]; exact HT.out.few (by omega), grown_low (Below.refl _ _)⟩
  · rw [hn] at K1
    by_cases g1 : y < 0
    · have hv := Lib.hid (exit_out (T := T) (n := n) (c := y) (by omega))
      clear h hn
      go_enter Try.func42, Try.ntmps42
      go_wp2_with (go_at_call 63; (with_reducible refine K1.out.mono ?_); rintro _ w ⟨rfl, rfl⟩)
      go_ret
      exact ⟨by rw [hv.out.1]; rfl, by rw [hv.out.2]; exact HT.out.few (by omega), grown_low (Below.refl _ _)⟩
    · by_cases g2 : y > 255
      · have hv := Lib.hid (exit_out (T := T) (n := n) (c := y) (by omega))
        clear h hn
        go_enter Try.func42, Try.ntmps42
        go_wp2_with (go_at_call 63; (with_reducible refine K1.out.mono ?_); rintro _ w ⟨rfl, rfl⟩)
        go_ret
        exact ⟨by rw [hv.out.1]; rfl, by rw [hv.out.2]; exact HT.out.few (by omega), grown_low (Below.refl _ _)⟩
      · obtain ⟨i, hi⟩ := ix_of hn
        obtain ⟨A, m, c, V, C, hT⟩ := h
        have HI := Lib.hid hi
        have HW := Lib.hid (wf_node hT.ok hn)
        have H := Lib.hid hT
        have KS := Lib.hid (fun V (hb : Below w.heap.size w V) => state_any (HT.out.next hb))
        have KY := Lib.hid (fun W (hb : Below w.heap.size w W) => sayI_all (hT.mc.next hb) (by omega) HW.out (vals_int hT.ac hT.mc.up) y (T.st == 1))
        have c1 := hT.blk.cell 2 _ rfl
        have C1 := Lib.hid (fun W (hb : Below w.heap.size w W) => (hT.blk.next hb).cell 2 _ rfl)
        clear hn hi hT
        obtain ⟨st, hst⟩ : ∃ st, st = T.st := ⟨_, rfl⟩
        rw [← hst] at KS KY
        have HST := Lib.hid hst
        clear hst
        go_enter Try.func42, Try.ntmps42
        go_wp2_with (go_at_call 63; (with_reducible refine K1.out.mono ?_); rintro _ w ⟨rfl, rfl⟩)
        go_region_law (first
          | (go_simp; go_at_call 33; refine (KS.out _ (by first | exact (Below.refl _ _).drew | exact Below.refl _ _)).mono ?_; rintro y w2 ⟨rfl, hb2⟩; replace hb2 := undrew2 hb2; have d1 := C1.out w2 hb2)
          | (go_simp; go_at_call 65; refine (KY.out _ hb2).mono ?_; rintro y w3 ⟨k', V', er, rfl, hk', hg, hm, hs⟩))
        all_goals
          rw [HST.out] at hs
          obtain ⟨r1, r2, r3, r4⟩ := exit_said H.out.ac (okN_nodup H.out.ok) HI.out ⟨by omega, by omega⟩ hs
          have R := Lib.hid (show TalAt w3 p bv bc (k + 1) (exitT T n y) from by
            have h2 := H.out.next hb2
            refine ⟨A, m, c, V, V', h2.blk.grown hg (h2.mc.ne h2.blk), ?_, ?_, hm.few hk', by rw [r3, r4]; exact h2.av, by rw [r3]; exact r2, by rw [r3]; exact h2.ok, h2.ne⟩
            · rw [r3]; exact h2.ints.kept h2.mc hg
            · exact (h2.mv.other h2.mc h2.ne hg).few (by omega))
          have G := Lib.hid (grown_comp hb2 hg)
          have E := Lib.hid r1
          clear r1 r2 r3 r4 hs hm hg
          go_wp2
          go_ret
          exact ⟨by rw [E.out]; rfl, R.out, G.out⟩
end Go.Proofs.Ytodgkjmkjahkiaa
