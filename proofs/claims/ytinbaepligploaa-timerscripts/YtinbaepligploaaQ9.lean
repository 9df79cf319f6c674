/- The timer's functions: At, Cancel, Set. -/
import Derived.Test.YtinbaepligploaaQ8
namespace Go.Proofs.Ytinbaepligploaa
open Go.RowKit Go.Shelf

theorem find_key : ∀ {S : List Dl} {d : Dl}, Ids S → d ∈ S → S.find? (fun y => decide (y.1 = d.1)) = some d
  | [], d, _, h => by cases h
  | a :: S, d, hi, hd => by
    rw [List.find?_cons]
    rcases List.mem_cons.1 hd with rfl | hd
    · simp
    · have : ¬a.1 = d.1 := fun e => hi.1 d hd e.symm
      simp only [this, decide_false]
      exact find_key hi.2 hd
theorem at_hit {L : List Dl} {k : Nat} (hk : k < L.length) (hi : Ids L) {id : Int} (e : (nt L k).1 = id) : atE L id = ((nt L k).2, true) := by
  unfold atE
  rw [← e, find_key hi (nt_mem hk)]
theorem at_miss {L : List Dl} {id : Int} (h : hasI id L = false) : atE L id = (0, false) := by
  unfold atE
  rw [List.find?_eq_none.2]
  intro d hd
  have : ¬hasI id L = true := by rw [h]; simp
  rw [has_iff] at this
  simpa using fun e => this ⟨d, hd, e⟩
abbrev atV (S : List Dl) (id : Int) : Value := .tuple #[.int .i64 (atE S id).1, .bool (atE S id).2]
set_option maxRecDepth 100000 in
set_option maxHeartbeats 1000000 in
theorem at_any {V : World} {p : Nat} {S : List Dl} (h : TQ V p S) (ho : Ok S) (id : Int) : Calls Try.prog 16 #[.pointer (some ⟨p, 0, none⟩), .int .i64 id] V fun x V' => x = .returned (atV S id) ∧ Below V.heap.size V V' := by
  obtain ⟨L, ⟨⟨v, hv⟩, hh⟩, hp⟩ := h
  have hl : L.length ≤ 256 := by rw [hp.length_eq]; exact ho.len
  have HI := Lib.hid (ids_perm hp.symm ho.ids)
  have HA := Lib.hid (find_perm hp HI.out id)
  have K := Lib.hid (placeOf_any hv.row id (by omega))
  obtain ⟨A, cap, rfl⟩ := own_form hv.row
  have c0 := hv.blk.cell 0 _ rfl
  go_enter Try.func16, Try.ntmps16
  go_wp2_with fail
  refine K.out.mono ?_
  rintro x w2 ⟨hpl, hb⟩
  have hv2 := hv.next hb
  rcases hpl with ⟨rfl, h1⟩ | ⟨k, h1, h2, rfl⟩
  · have e := Lib.hid (show atE S id = (0, false) from by rw [← HA.out]; exact at_miss h1)
    clear c0
    go_wp2_with fail
    refine bodyPost_ret (v := atV S id) ?_ rfl ⟨rfl, hb⟩
    unfold atV
    rw [e.out]
    simp [results, Try.results16, go_sem]
  · have e := Lib.hid (show atE S id = ((nt L k).2, true) from by rw [← HA.out]; exact at_hit h1 HI.out h2)
    obtain ⟨g, cap', e1, -, d0, d1, -, -, -⟩ := row_at hv2.row h1
    injection e1 with e1 e2 e3
    subst e1 e3
    clear c0 e2
    have c0 := hv2.blk.cell 0 _ rfl
    have i2 : (0 : Int) ≤ (k : Int) := by omega
    have i3 : (k : Int) < (L.length : Int) := by omega
    go_wp2_with fail
    refine bodyPost_ret (v := atV S id) ?_ rfl ⟨rfl, hb⟩
    unfold atV
    rw [e.out]
    simp [results, Try.results16, go_sem]
set_option maxRecDepth 100000 in
set_option maxHeartbeats 1000000 in
theorem cancel_any {V : World} {p : Nat} {S : List Dl} (h : TQ V p S) (ho : Ok S) (id : Int) : Calls Try.prog 23 #[.pointer (some ⟨p, 0, none⟩), .int .i64 id] V fun x V' => x = .returned (.bool (hasI id S)) ∧ TQ V' p (del id S) ∧ Tr p V V' := by
  obtain ⟨L, ⟨⟨v, hv⟩, hh⟩, hp⟩ := h
  have hl : L.length ≤ 256 := by rw [hp.length_eq]; exact ho.len
  have HI := Lib.hid (ids_perm hp.symm ho.ids)
  have HH := Lib.hid (has_perm (id := id) hp)
  have K := Lib.hid (placeOf_any hv.row id (by omega))
  obtain ⟨A, cap, rfl⟩ := own_form hv.row
  have c0 := hv.blk.cell 0 _ rfl
  replace hp := Lib.hid hp
  clear ho
  go_enter Try.func23, Try.ntmps23
  go_wp2_with fail
  refine K.out.mono ?_
  rintro x w2 ⟨hpl, hb⟩
  have hv2 := hv.next hb
  rcases hpl with ⟨rfl, h1⟩ | ⟨k, h1, h2, rfl⟩
  · have e : Hid (hasI id S = false) := Lib.hid (by rw [← HH.out]; exact h1)
    clear c0
    go_wp2_with fail
    go_ret
    exact ⟨by rw [e.out]; rfl, ⟨L, ⟨⟨_, hv2⟩, hh⟩, by rw [del_none e.out]; exact hp.out⟩, Tr.of_below hb⟩
  · have e : Hid (hasI id S = true) := Lib.hid (by rw [← HH.out]; exact has_iff.2 ⟨_, nt_mem h1, h2⟩)
    obtain ⟨m, hm⟩ : ∃ m, L.length = m + 1 := ⟨L.length - 1, by omega⟩
    have K2 := Lib.hid (remove_any (V := w2) (p := p) (L := L) ⟨⟨_, hv2⟩, hh⟩ k m hm (by omega) (by omega))
    clear c0 hm
    have c0 := hv2.blk.cell 0 _ rfl
    go_wp2_with fail
    refine K2.out.mono ?_
    rintro x w3 ⟨⟨u, rfl⟩, L', hq, hpp, ht⟩
    go_wp2_with fail
    go_ret
    refine ⟨by rw [e.out]; rfl, ⟨L', hq, ?_⟩, (Tr.of_below hb).trans ht⟩
    have h3 := out_perm h1 HI.out hpp
    rw [h2] at h3
    exact h3.trans (del_perm hp.out)
set_option maxRecDepth 100000 in
set_option maxHeartbeats 400000 in
theorem isNum_any (n : Int) (w : World) : Calls Try.prog 41 #[.int .i64 n] w fun x w' => x = .returned (.bool (okN n)) ∧ w = w' := by
  by_cases h : 0 ≤ n
  · have e := Lib.hid (show okN n = decide (n ≤ 1099511627776) from by simp [okN, h])
    go_enter Try.func41, Try.ntmps41
    go_wp2_with fail
    go_ret
    exact ⟨by rw [e.out]; rfl, rfl⟩
  · have e := Lib.hid (show okN n = false from by simp [okN, h])
    go_enter Try.func41, Try.ntmps41
    go_wp2_with fail
    go_ret
    exact ⟨by rw [e.out]; rfl, rfl⟩
theorem dRow_set1 {L : List Dl} {k : Nat} (hk : k < L.length) (t : Int) : (dRow L).set (k * 2 + 1) (.int .i64 t) = dRow (L.set k ((nt L k).1, t)) := by
  rw [← dRow_set L k ((nt L k).1, t) hk]
  congr 1
  refine List.ext_getElem? fun i => ?_
  rw [List.getElem?_set]
  split
  · next e =>
    subst e
    rw [(dRow_at hk).1, if_pos (by rw [dRow_len]; omega)]
  · rfl
theorem row_put1 {V : World} {p g cap : Nat} {L : List Dl} (h : Row V p (.slice (some ⟨g, 0, none⟩) L.length cap) L) {k : Nat} (hk : k < L.length) (t : Int) : Row (V.setCell ⟨g, k * 2 + 1, none⟩ (.int .i64 t)) p (.slice (some ⟨g, 0, none⟩) L.length cap) (L.set k ((nt L k).1, t)) := by
  rcases h.2 with ⟨e, _⟩ | ⟨g', cap', cur, e, hb, hg, hc, hm, hs, ht⟩
  · cases e
  · cases e
    have h1 := heap_setCell_same V g (k * 2 + 1) cur 77 (.int .i64 t) hg
    refine ⟨by rw [dRow_len], .inr ⟨g, cap, _, by rw [List.length_set], hb, h1, by rw [List.length_set]; exact hc, hm, by simpa using hs, ?_⟩⟩
    rw [← dRow_set1 hk t, ← ht]
    simp [List.length_set, List.take_set]
theorem setE_bad {S : List Dl} {id t : Int} (h : (okN id && okN t) = false) : setE S id t = 1 := by unfold setE; rw [h]; rfl
theorem setE_has {S : List Dl} {id t : Int} (h : (okN id && okN t) = true) (h2 : hasI id S = true) : setE S id t = 0 := by unfold setE; rw [h, h2]; rfl
theorem setE_full {S : List Dl} {id t : Int} (h : (okN id && okN t) = true) (h2 : hasI id S = false) (h3 : 256 ≤ S.length) : setE S id t = 6 := by unfold setE; rw [h, h2, decide_eq_true h3]; rfl
theorem setE_new {S : List Dl} {id t : Int} (h : (okN id && okN t) = true) (h2 : hasI id S = false) (h3 : ¬256 ≤ S.length) : setE S id t = 0 := by unfold setE; rw [h, h2, decide_eq_false h3]; rfl
theorem setS_ok {S : List Dl} {id t : Int} (h : setE S id t = 0) : setS S id t = ins (id, t) (del id S) := if_pos h
theorem setS_no {S : List Dl} {id t : Int} (h : setE S id t ≠ 0) : setS S id t = S := if_neg h
set_option maxRecDepth 100000 in
set_option maxHeartbeats 4000000 in
theorem set_any {V : World} {p : Nat} {S : List Dl} (h : TQ V p S) (ho : Ok S) (id t : Int) : Calls Try.prog 21 #[.pointer (some ⟨p, 0, none⟩), .int .i64 id, .int .i64 t] V fun x V' => x = .returned (.int .i64 (setE S id t)) ∧ TQ V' p (setS S id t) ∧ Tr p V V' := by
  cases q1 : okN id
  · have e := Lib.hid (setE_bad (S := S) (id := id) (t := t) (by rw [q1]; rfl))
    go_enter Try.func21, Try.ntmps21
    go_wp2_with fail
    refine (isNum_any _ _).mono ?_
    rintro x w2 ⟨rfl, rfl⟩
    go_wp2_with fail
    go_ret
    exact ⟨by rw [e.out]; rfl, by rw [setS_no (by rw [e.out]; decide)]; exact h, Tr.refl _ _⟩
  cases q2 : okN t
  · have e := Lib.hid (setE_bad (S := S) (id := id) (t := t) (by rw [q1, q2]; rfl))
    go_enter Try.func21, Try.ntmps21
    go_wp2_with fail
    refine (isNum_any _ _).mono ?_
    rintro x w2 ⟨rfl, rfl⟩
    go_wp2_with fail
    refine (isNum_any _ _).mono ?_
    rintro x w2 ⟨rfl, rfl⟩
    go_wp2_with fail
    go_ret
    exact ⟨by rw [e.out]; rfl, by rw [setS_no (by rw [e.out]; decide)]; exact h, Tr.refl _ _⟩
  obtain ⟨L, ⟨⟨v, hv⟩, hh⟩, hp⟩ := h
  have hl : L.length ≤ 256 := by rw [hp.length_eq]; exact ho.len
  have HLS := Lib.hid hp.length_eq
  have HI := Lib.hid (ids_perm hp.symm ho.ids)
  have HH := Lib.hid (has_perm (id := id) hp)
  have K := Lib.hid (placeOf_any hv.row id (by omega))
  obtain ⟨A, cap, rfl⟩ := own_form hv.row
  have c0 := hv.blk.cell 0 _ rfl
  have HB : Hid ((okN id && okN t) = true) := Lib.hid (by rw [q1, q2]; rfl)
  replace hp := Lib.hid hp
  clear ho
  go_enter Try.func21, Try.ntmps21
  go_wp2_with fail
  refine (isNum_any _ _).mono ?_
  rintro x w2 ⟨rfl, rfl⟩
  go_wp2_with fail
  refine (isNum_any _ _).mono ?_
  rintro x w2 ⟨rfl, rfl⟩
  go_wp2_with fail
  refine K.out.mono ?_
  rintro x w2 ⟨hpl, hb⟩
  have hv2 := hv.next hb
  clear K c0 q1 q2
  rcases hpl with ⟨rfl, h1⟩ | ⟨k, h1, h2, rfl⟩
  · have hs : Hid (hasI id S = false) := Lib.hid (by rw [← HH.out]; exact h1)
    have c0 := hv2.blk.cell 0 _ rfl
    by_cases h256 : 256 ≤ L.length
    · have e := Lib.hid (setE_full HB.out hs.out (by rw [← HLS.out]; exact h256))
      go_wp2_with fail
      go_ret
      exact ⟨by rw [e.out]; rfl, by rw [setS_no (by rw [e.out]; decide)]; exact ⟨L, ⟨⟨_, hv2⟩, hh⟩, hp.out⟩, Tr.of_below hb⟩
    · have e := Lib.hid (setE_new HB.out hs.out (by rw [← HLS.out]; exact h256))
      have K := Lib.hid (push_any (V := w2) (p := p) (L := L) ⟨⟨_, hv2⟩, hh⟩ (id, t) (by omega))
      go_wp2_with fail
      refine K.out.mono ?_
      rintro x w3 ⟨⟨u, rfl⟩, L', hq, hpp, ht⟩
      go_wp2_with fail
      go_ret
      refine ⟨by rw [e.out]; rfl, ⟨L', hq, ?_⟩, (Tr.of_below hb).trans ht⟩
      rw [setS_ok e.out, del_none hs.out]
      exact hpp.trans ((List.perm_append_singleton _ _).trans ((hp.out.cons _).trans (ins_perm _ _).symm))
  · have hs : Hid (hasI id S = true) := Lib.hid (by rw [← HH.out]; exact has_iff.2 ⟨_, nt_mem h1, h2⟩)
    have e := Lib.hid (setE_has HB.out hs.out)
    obtain ⟨g, cap', e1, hpg, d0, d1, fz, -, -⟩ := row_at hv2.row h1
    injection e1 with e1 e2 e3
    subst e1 e3
    clear e2
    have c0 := hv2.blk.cell 0 _ rfl
    have f1 := fz (k * 2 + 1)
    have i2 : (0 : Int) ≤ (k : Int) := by omega
    have i3 : (k : Int) < (L.length : Int) := by omega
    have hr := row_put1 hv2.row h1 t
    have hg : w2.grownBy (w2.setCell ⟨g, k * 2 + 1, none⟩ (.int .i64 t)) (some g) := grown_set
    have hv3 : QAt (w2.setCell ⟨g, k * 2 + 1, none⟩ (.int .i64 t)) p (.slice (some ⟨g, 0, none⟩) L.length cap) (L.set k ((nt L k).1, t)) := ⟨hv2.blk.grown hg (by omega), hr⟩
    have T3 := Lib.hid ((Tr.of_below (p := p) hb).trans (Tr.of_row (L := L) (v := .slice (some ⟨g, 0, none⟩) L.length cap) hg hv2.row))
    have c3 := hv3.blk.cell 0 _ rfl
    have K := Lib.hid (fix_any (M := L.set k ((nt L k).1, t)) (by rw [List.length_set]; exact hv3) k (by rw [List.length_set]; exact h1) (by rw [List.length_set]; omega) (by rw [List.length_set]; exact hh.hole _))
    have HP := Lib.hid (set_perm h1 HI.out ((nt L k).1, t))
    rw [h2] at HP K
    clear hr hg hv3 hv2 fz d0 hv
    go_wp2_with fail
    refine K.out.mono ?_
    rintro x w3 ⟨⟨u, rfl⟩, L', hq, hpp, ht⟩
    go_wp2_with fail
    go_ret
    refine ⟨by rw [e.out]; rfl, ⟨L', hq, ?_⟩, T3.out.trans ht⟩
    rw [setS_ok e.out]
    exact hpp.trans (HP.out.trans (((del_perm hp.out).cons _).trans (ins_perm _ _).symm))
end Go.Proofs.Ytinbaepligploaa
