/- The document's queue: Set. -/
import Derived.Test.YtinbaepligploaaR2
import Derived.Deep.RegionHeld3
namespace Go.Proofs.Ytinbaepligploaa
open Go.RowKit Go.Shelf

/-- Is any of them behind x? -/
def anyLt (x : Dl) (P : List Dl) : Bool := P.any fun y => decide (lt x y)
/-- What is laid so far. -/
def prt (x : Dl) (P : List Dl) : List Dl := if anyLt x P then ins x P else P
theorem any_snoc (x y : Dl) (P : List Dl) : anyLt x (P ++ [y]) = (anyLt x P || decide (lt x y)) := by simp [anyLt, List.any_append]
theorem ins_more {x y : Dl} : ∀ {P : List Dl}, anyLt x P = true → ins x (P ++ [y]) = ins x P ++ [y]
  | [], h => by simp [anyLt] at h
  | z :: P, h => by
    by_cases hz : lt x z
    · simp [ins, hz]
    · have h2 : anyLt x P = true := by simpa [anyLt, hz] using h
      simp [ins, hz, ins_more h2]
theorem ins_here {x y : Dl} (hy : lt x y) : ∀ {P : List Dl}, anyLt x P = false → ins x (P ++ [y]) = P ++ [x] ++ [y]
  | [], _ => by simp [ins, hy]
  | z :: P, h => by
    have hz : ¬lt x z := by intro hz; simp [anyLt, hz] at h
    have h2 : anyLt x P = false := by simpa [anyLt, hz] using h
    have := ins_here hy h2
    simp [ins, hz, this]
theorem ins_end {x : Dl} : ∀ {P : List Dl}, anyLt x P = false → ins x P = P ++ [x]
  | [], _ => rfl
  | z :: P, h => by
    have hz : ¬lt x z := by intro hz; simp [anyLt, hz] at h
    have h2 : anyLt x P = false := by simpa [anyLt, hz] using h
    simp [ins, hz, ins_end h2]
theorem prt_len (x : Dl) (P : List Dl) : (prt x P).length ≤ P.length + 1 := by
  unfold prt
  split
  · rw [ins_len]; omega
  · omega
theorem at_has (S : List Dl) (id : Int) : (atE S id).2 = hasI id S := by
  unfold atE
  cases e : S.find? (fun d => decide (d.1 = id)) with
  | none =>
    have : hasI id S = false := by
      rw [← Bool.not_eq_true, has_iff]
      rintro ⟨d, hd, h⟩
      have := List.find?_eq_none.1 e d hd
      simp [h] at this
    rw [this]
  | some d =>
    have h1 := List.mem_of_find?_eq_some e
    have h2 := List.find?_some e
    simp at h2
    rw [has_iff.2 ⟨d, h1, h2⟩]
/-- On the way through Set's loop. -/
structure Sl (W wr : World) (q b : Nat) (sl nx : Value) (x : Dl) (T P : List Dl) : Prop where
  rq : RQ wr q sl T
  box : Bk wr b 52 #[.int .i64 x.2, .int .i64 x.1]
  row : wr.ownsRow W.heap.size 52 2 nx P.length (rRow P)
  low : Below W.heap.size W wr
theorem cell_lt {V : World} {a : Addr} {u : Value} (h : V.cell? a = some u) : a.block < V.heap.size := by
  rcases Nat.lt_or_ge a.block V.heap.size with h2 | h2
  · exact h2
  · rw [World.cell?, Array.getElem?_eq_none h2] at h
    cases h
section
variable {W wr wr' : World} {q b : Nat} {sl nx nx' : Value} {x : Dl} {T P P' : List Dl}
theorem Sl.next (h : Sl W wr q b sl nx x T P) (hb : Below wr.heap.size wr wr') : Sl W wr' q b sl nx x T P := ⟨h.rq.next hb, h.box.next hb, own_next h.row hb, h.low.trans (hb.mono h.low.size)⟩
theorem Sl.elem {g i : Nat} {u : Value} (h : Sl W wr q b sl nx x T P) (d0 : W.cell? ⟨g, i, none⟩ = some u) : wr.cell? ⟨g, i, none⟩ = some u := (h.low.cell (p := ⟨g, i, none⟩) (cell_lt d0)).trans d0
theorem Sl.more (h : Sl W wr q b sl nx x T P) (h0 : RQ W q sl T) (hbx : Bk W b 52 #[.int .i64 x.2, .int .i64 x.1]) (hb : Below W.heap.size wr wr') (hr : wr'.ownsRow W.heap.size 52 2 nx' P'.length (rRow P')) : Sl W wr' q b sl nx' x T P' := ⟨h0.next (h.low.trans hb), hbx.next (h.low.trans hb), hr, h.low.trans hb⟩
end
set_option maxRecDepth 100000 in
set_option maxHeartbeats 16000000 in
theorem rset_any {V : World} {q : Nat} {sl : Value} {S : List Dl} (h : RQ V q sl S) (ho : Ok S) (id t : Int) : Calls Try.prog 37 #[.pointer (some ⟨q, 0, none⟩), .int .i64 id, .int .i64 t] V fun x V' => x = .returned (.int .i64 (setE S id t)) ∧ ∃ sl', RQ V' q sl' (setS S id t) ∧ V.grownBy V' (some q) := by
  obtain ⟨i0, hi, hz0, hz1, hz2⟩ := info_parts info52
  have G0 : V.grownBy V (some q) := ⟨rfl, rfl, rfl, Nat.le_refl _, fun _ _ _ => rfl⟩
  cases q1 : okN id
  · have e := Lib.hid (setE_bad (S := S) (id := id) (t := t) (by rw [q1]; rfl))
    go_enter Try.func37, Try.ntmps37
    go_wp2_with fail
    refine (rmayN_any _ _).mono ?_
    rintro x w2 ⟨rfl, rfl⟩
    go_wp2_with fail
    go_ret
    exact ⟨by rw [e.out]; rfl, sl, by rw [setS_no (by rw [e.out]; decide)]; exact h, G0⟩
  cases q2 : okN t
  · have e := Lib.hid (setE_bad (S := S) (id := id) (t := t) (by rw [q1, q2]; rfl))
    go_enter Try.func37, Try.ntmps37
    go_wp2_with fail
    refine (rmayN_any _ _).mono ?_
    rintro x w2 ⟨rfl, rfl⟩
    go_wp2_with fail
    refine (rmayN_any _ _).mono ?_
    rintro x w2 ⟨rfl, rfl⟩
    go_wp2_with fail
    go_ret
    exact ⟨by rw [e.out]; rfl, sl, by rw [setS_no (by rw [e.out]; decide)]; exact h, G0⟩
  have HB : Hid ((okN id && okN t) = true) := Lib.hid (by rw [q1, q2]; rfl)
  obtain ⟨A, cap, rfl⟩ := own_form h.row
  have KA := Lib.hid (rat_any h ho id)
  unfold atV at KA
  rw [at_has] at KA
  generalize (atE S id).1 = za at *
  have h256 := ho.len
  have c0 := h.blk.cell 0 _ rfl
  have KC := Lib.hid (rcancel_any h h256 id)
  obtain ⟨T, hT⟩ : ∃ T, T = del id S := ⟨_, rfl⟩
  rw [← hT] at KC
  have hT256 : T.length ≤ 256 := by rw [hT]; exact Nat.le_trans (List.length_filter_le _ _) h256
  replace hT := Lib.hid hT
  obtain ⟨n, hn⟩ : ∃ n, n = T.length := ⟨_, rfl⟩
  rw [← hn] at hT256
  replace hn := Lib.hid hn
  go_enter Try.func37, Try.ntmps37
  go_wp2_with fail
  refine (rmayN_any _ _).mono ?_
  rintro x w2 ⟨rfl, rfl⟩
  go_wp2_with fail
  refine (rmayN_any _ _).mono ?_
  rintro x w2 ⟨rfl, rfl⟩
  go_wp2_with fail
  refine KA.out.mono ?_
  rintro x w2 ⟨rfl, rfl⟩
  clear q1 q2 KA
  cases hh : hasI id S
  · by_cases hf : S.length = 256
    · have e0 := Lib.hid (setE_full HB.out hh (by omega))
      have tf : ((S.length : Int) == 256) = true := by simp; omega
      clear KC hf
      go_wp2_with fail
      go_ret
      exact ⟨by rw [e0.out]; rfl, _, by rw [setS_no (by rw [e0.out]; decide)]; exact h, G0⟩
    have e0 := Lib.hid (setE_new HB.out hh (by omega))
    have tf : ((S.length : Int) == 256) = false := by simp; omega
    rw [hh] at KC
    clear hf hh h
    generalize S.length = sn at *
    go_wp2_with fail
    refine KC.out.mono ?_
    rintro x w3 ⟨rfl, sl3, rq3, g3⟩
    clear KC
    obtain ⟨A3, cap3, rfl⟩ := own_form rq3.row
    rw [← hn.out] at rq3
    have RQ0 := Lib.hid (rq3.next (below_alloc w3 (.cells #[.int .i64 t, .int .i64 id] 52)))
    have BX0 := Lib.hid (Bk.new w3 52 #[.int .i64 t, .int .i64 id])
    have GW := Lib.hid (grown_trans g3 (World.grownBy_alloc w3 (.cells #[.int .i64 t, .int .i64 id] 52) (some q)))
    have st : Sl (w3.alloc (.cells #[.int .i64 t, .int .i64 id] 52)) (w3.alloc (.cells #[.int .i64 t, .int .i64 id] 52)) q w3.heap.size (.slice A3 n cap3) (.slice none 0 0) (id, t) T [] := ⟨RQ0.out, BX0.out, World.ownsRow_nil _ _ _ _, Below.refl _ _⟩
    clear rq3 g3 c0
    go_wp2_with fail
    generalize w3.alloc (.cells #[.int .i64 t, .int .i64 id] 52) = W at *
    go_loopw [10, 11, 12] (fun nx ld iv wr => ∃ k : Nat, k ≤ n ∧ iv = .int .i64 (k : Int) ∧ ld = .bool (anyLt (id, t) (T.take k)) ∧ Sl W wr q w3.heap.size (.slice A3 n cap3) nx (id, t) T (prt (id, t) (T.take k))) (fun _ _ iv _ => n - (intOf iv).toNat)
    case atStart => exact ⟨0, Nat.zero_le _, rfl, rfl, st⟩
    case round =>
      clear st
      obtain ⟨k, hk, rfl, rfl, st⟩ := hrel
      obtain ⟨A2, cap2, rfl⟩ := own_form st.row
      have hsz := st.low.size
      have hpl : (prt (id, t) (T.take k)).length ≤ 300 := by have := prt_len (id, t) (T.take k); rw [List.length_take] at this; omega
      have c0 := st.rq.blk.cell 0 _ rfl
      by_cases hlt : k < n
      · obtain ⟨g, cap', e, dW0, dW1⟩ := rrow_at RQ0.out.row (k := k) (by rw [← hn.out]; exact hlt)
        injection e with e1 e2 e3
        subst e1 e3
        clear e2
        have HT := Lib.hid (take_snoc (nt_get (L := T) (i := k) (by rw [← hn.out]; exact hlt)))
        have HAS := Lib.hid (any_snoc (id, t) (nt T k) (T.take k))
        generalize nt T k = d at *
        have d0 := st.elem dW0
        have d1 := st.elem dW1
        have b0 := st.box.cell 0 _ rfl
        have b1 := st.box.cell 1 _ rfl
        have i2 : (0 : Int) ≤ (k : Int) := by omega
        have i3 : (k : Int) < (n : Int) := by omega
        cases hl : anyLt (id, t) (T.take k)
        · rw [hl, Bool.false_or] at HAS
          have eP : prt (id, t) (T.take k) = T.take k := by unfold prt; rw [hl]; rfl
          rw [eP] at st hpl ⊢
          have KL := Lib.hid (show ∀ V : World, Calls Try.prog 51 #[.agg #[.int .i64 t, .int .i64 id], .agg #[.int .i64 d.2, .int .i64 d.1]] V fun x w' => x = .returned (.bool (decide (lt (id, t) d))) ∧ Below V.heap.size V w' from rless_any (id, t) d)
          by_cases hxd : lt (id, t) d
          · have eN := Lib.hid (show prt (id, t) (T.take (k + 1)) = T.take k ++ [(id, t)] ++ [d] from by unfold prt; rw [HT.out, HAS.out, decide_eq_true hxd]; exact ins_here hxd hl)
            rw [decide_eq_true hxd] at KL HAS
            clear hxd hl eP
            generalize T.take k = P at *
            go_wp2_with fail
            go_region_held3 (fun W => W.cell? ⟨q, 0, none⟩ = some (.slice (some ⟨g, 0, none⟩) n cap3) ∧ W.cell? ⟨w3.heap.size, 0, none⟩ = some (.int .i64 t) ∧ W.cell? ⟨w3.heap.size, 1, none⟩ = some (.int .i64 id) ∧ W.cell? ⟨g, k * 2, none⟩ = some (.int .i64 d.2) ∧ W.cell? ⟨g, k * 2 + 1, none⟩ = some (.int .i64 d.1))
              (first | exact ⟨c0, b0, b1, d0, d1⟩)
              (first | (go_at_call 51; (with_reducible refine (KL.out _).mono ?_); rintro x wn ⟨rfl, hbn⟩; (first | replace hbn := undrew hbn | skip); replace st := st.next hbn; replace c0 := st.rq.blk.cell 0 _ rfl; replace b0 := st.box.cell 0 _ rfl; replace b1 := st.box.cell 1 _ rfl; replace d0 := st.elem dW0; replace d1 := st.elem dW1; clear hbn))
            all_goals
              have hszn := st.low.size
              go_wp2_with (first | (at_builtin; refine wpList_append_own _ rfl _ _ 27 rfl W.heap.size 52 i0 (.agg #[.int .i64 0, .int .i64 0]) 2 16 Try.underlying27 hi hz0 hz1 hz2 rfl (by decide) _ _ _ rfl (st.row.alloc _) _ 1 1 [.int .i64 (t), .int .i64 (id)] rfl rfl (cells2_new _ _ _ _) (by simp [Value.oneCell']) (by unfold maxLen; omega) (by omega) (by simp; omega) ?_; intro v5 w5 hown5 hgrow5 _; obtain ⟨g5, cap5, rfl⟩ := ownsRow_succ hown5; have st5 := st.more RQ0.out BX0.out (appended_below st.row hszn hgrow5) (P' := P ++ [(id, t)]) (by rw [rRow_snoc, List.length_append]; exact hown5); have hsz5 := st5.low.size; have cc5 := st5.rq.blk.cell 0 _ rfl; have bb5 := st5.box.cell 0 _ rfl; have bc5 := st5.box.cell 1 _ rfl; have dd5 := st5.elem dW0; have de5 := st5.elem dW1; have r5 : w5.ownsRow W.heap.size 52 2 (.slice (some ⟨g5, 0, none⟩) (P.length + 1) cap5) (P.length + 1) (rRow (P ++ [(id, t)])) := (by rw [rRow_snoc]; exact hown5)) | (at_builtin; refine wpList_append_own _ rfl _ _ 27 rfl W.heap.size 52 i0 (.agg #[.int .i64 0, .int .i64 0]) 2 16 Try.underlying27 hi hz0 hz1 hz2 rfl (by decide) _ _ _ rfl (r5.alloc _) _ 1 1 [.int .i64 (d.2), .int .i64 (d.1)] rfl rfl (cells2_new _ _ _ _) (by simp [Value.oneCell']) (by unfold maxLen; omega) (by omega) (by simp; omega) ?_; intro v6 w6 hown6 hgrow6 _; obtain ⟨g6, cap6, rfl⟩ := ownsRow_succ hown6; have st6 := st5.more RQ0.out BX0.out (appended_below r5 hsz5 hgrow6) (P' := P ++ [(id, t)] ++ [d]) (by rw [rRow_snoc, List.length_append, List.length_append]; exact hown6); have hsz6 := st6.low.size))
              go_roundw
              case rel => exact ⟨k + 1, by omega, by go_num, by rw [HT.out, HAS.out], by rw [eN.out]; exact st6⟩
              case measure => simp [intOf]; omega
          · have eN := Lib.hid (show prt (id, t) (T.take (k + 1)) = T.take k ++ [d] from by unfold prt; rw [HT.out, HAS.out, decide_eq_false hxd]; rfl)
            rw [decide_eq_false hxd] at KL HAS
            clear hxd hl eP
            generalize T.take k = P at *
            go_wp2_with fail
            go_region_held3 (fun W => W.cell? ⟨q, 0, none⟩ = some (.slice (some ⟨g, 0, none⟩) n cap3) ∧ W.cell? ⟨w3.heap.size, 0, none⟩ = some (.int .i64 t) ∧ W.cell? ⟨w3.heap.size, 1, none⟩ = some (.int .i64 id) ∧ W.cell? ⟨g, k * 2, none⟩ = some (.int .i64 d.2) ∧ W.cell? ⟨g, k * 2 + 1, none⟩ = some (.int .i64 d.1))
              (first | exact ⟨c0, b0, b1, d0, d1⟩)
              (first | (go_at_call 51; (with_reducible refine (KL.out _).mono ?_); rintro x wn ⟨rfl, hbn⟩; (first | replace hbn := undrew hbn | skip); replace st := st.next hbn; replace c0 := st.rq.blk.cell 0 _ rfl; replace b0 := st.box.cell 0 _ rfl; replace b1 := st.box.cell 1 _ rfl; replace d0 := st.elem dW0; replace d1 := st.elem dW1; clear hbn))
            all_goals
              have hszn := st.low.size
              go_wp2_with (at_builtin; refine wpList_append_own _ rfl _ _ 27 rfl W.heap.size 52 i0 (.agg #[.int .i64 0, .int .i64 0]) 2 16 Try.underlying27 hi hz0 hz1 hz2 rfl (by decide) _ _ _ rfl (st.row.alloc _) _ 1 1 [.int .i64 (d.2), .int .i64 (d.1)] rfl rfl (cells2_new _ _ _ _) (by simp [Value.oneCell']) (by unfold maxLen; omega) (by omega) (by simp; omega) ?_; intro v6 w6 hown6 hgrow6 _; obtain ⟨g6, cap6, rfl⟩ := ownsRow_succ hown6; have st6 := st.more RQ0.out BX0.out (appended_below st.row hszn hgrow6) (P' := P ++ [d]) (by rw [rRow_snoc, List.length_append]; exact hown6); have hsz6 := st6.low.size)
              go_roundw
              case rel => exact ⟨k + 1, by omega, by go_num, by rw [HT.out, HAS.out], by rw [eN.out]; exact st6⟩
              case measure => simp [intOf]; omega
        · rw [hl, Bool.true_or] at HAS
          have eN := Lib.hid (show prt (id, t) (T.take (k + 1)) = prt (id, t) (T.take k) ++ [d] from by unfold prt; rw [HT.out, HAS.out, hl]; exact ins_more hl)
          clear hl
          generalize prt (id, t) (T.take k) = P at *
          go_wp2_with fail
          go_quiet (fail)
          have st0 := st.next (below_drewN' (Below.refl _ _) nq)
          have hsz0 := st0.low.size
          clear st
          go_wp2_with (at_builtin; refine wpList_append_own _ rfl _ _ 27 rfl W.heap.size 52 i0 (.agg #[.int .i64 0, .int .i64 0]) 2 16 Try.underlying27 hi hz0 hz1 hz2 rfl (by decide) _ _ _ rfl (st0.row.alloc _) _ 1 1 [.int .i64 (d.2), .int .i64 (d.1)] rfl rfl (cells2_new _ _ _ _) (by simp [Value.oneCell']) (by unfold maxLen; omega) (by omega) (by simp; omega) ?_; intro v6 w6 hown6 hgrow6 _; obtain ⟨g6, cap6, rfl⟩ := ownsRow_succ hown6; have st6 := st0.more RQ0.out BX0.out (appended_below st0.row hsz0 hgrow6) (P' := P ++ [d]) (by rw [rRow_snoc, List.length_append]; exact hown6); have hsz6 := st6.low.size)
          go_roundw
          case rel => exact ⟨k + 1, by omega, by go_num, by rw [HT.out, HAS.out], by rw [eN.out]; exact st6⟩
          case measure => simp [intOf]; omega
      · obtain rfl : k = n := by omega
        have eT : T.take k = T := by rw [hn.out, List.take_length]
        rw [eT] at st hpl ⊢
        clear eT
        cases hl : anyLt (id, t) T
        · have eP : prt (id, t) T = T := by unfold prt; rw [hl]; rfl
          rw [eP] at st hpl ⊢
          have b0 := st.box.cell 0 _ rfl
          have b1 := st.box.cell 1 _ rfl
          have eI := Lib.hid (ins_end hl)
          clear hl eP
          go_wp2_with (at_builtin; refine wpList_append_own _ rfl _ _ 27 rfl W.heap.size 52 i0 (.agg #[.int .i64 0, .int .i64 0]) 2 16 Try.underlying27 hi hz0 hz1 hz2 rfl (by decide) _ _ _ rfl (st.row.alloc _) _ 1 1 [.int .i64 (t), .int .i64 (id)] rfl rfl (cells2_new _ _ _ _) (by simp [Value.oneCell']) (by unfold maxLen; omega) (by omega) (by simp; omega) ?_; intro v6 w6 hown6 hgrow6 _; obtain ⟨g6, cap6, rfl⟩ := ownsRow_succ hown6; have st6 := st.more RQ0.out BX0.out (appended_below st.row hsz hgrow6) (P' := T ++ [(id, t)]) (by rw [rRow_snoc, List.length_append]; exact hown6); have hsz6 := st6.low.size; have cc6 := st6.rq.blk.cell 0 _ rfl; have ff6 := st6.rq.blk.frozen 0)
          go_ret
          obtain ⟨z1, z2⟩ := RQ0.out.laid st6.low st6.row
          refine ⟨by rw [e0.out]; rfl, ⟨.slice (some ⟨g6, 0, none⟩) (T.length + 1) cap6, ?_⟩, grown_trans GW.out z2⟩
          rw [setS_ok e0.out, ← hT.out, eI.out]
          exact z1
        · have eP : prt (id, t) T = ins (id, t) T := by unfold prt; rw [hl]; rfl
          rw [eP] at st hpl ⊢
          have f0 := st.rq.blk.frozen 0
          clear hl eP
          go_wp2_with fail
          go_ret
          obtain ⟨z1, z2⟩ := RQ0.out.laid st.low st.row
          refine ⟨by rw [e0.out]; rfl, .slice A2 (ins (id, t) T).length cap2, ?_, grown_trans GW.out z2⟩
          rw [setS_ok e0.out, ← hT.out]
          exact z1
  · have e0 := Lib.hid (setE_has HB.out hh)
    rw [hh] at KC
    clear hh h
    generalize S.length = sn at *
    go_wp2_with fail
    refine KC.out.mono ?_
    rintro x w3 ⟨rfl, sl3, rq3, g3⟩
    clear KC
    obtain ⟨A3, cap3, rfl⟩ := own_form rq3.row
    rw [← hn.out] at rq3
    have RQ0 := Lib.hid (rq3.next (below_alloc w3 (.cells #[.int .i64 t, .int .i64 id] 52)))
    have BX0 := Lib.hid (Bk.new w3 52 #[.int .i64 t, .int .i64 id])
    have GW := Lib.hid (grown_trans g3 (World.grownBy_alloc w3 (.cells #[.int .i64 t, .int .i64 id] 52) (some q)))
    have st : Sl (w3.alloc (.cells #[.int .i64 t, .int .i64 id] 52)) (w3.alloc (.cells #[.int .i64 t, .int .i64 id] 52)) q w3.heap.size (.slice A3 n cap3) (.slice none 0 0) (id, t) T [] := ⟨RQ0.out, BX0.out, World.ownsRow_nil _ _ _ _, Below.refl _ _⟩
    clear rq3 g3 c0
    go_wp2_with fail
    generalize w3.alloc (.cells #[.int .i64 t, .int .i64 id] 52) = W at *
    go_loopw [10, 11, 12] (fun nx ld iv wr => ∃ k : Nat, k ≤ n ∧ iv = .int .i64 (k : Int) ∧ ld = .bool (anyLt (id, t) (T.take k)) ∧ Sl W wr q w3.heap.size (.slice A3 n cap3) nx (id, t) T (prt (id, t) (T.take k))) (fun _ _ iv _ => n - (intOf iv).toNat)
    case atStart => exact ⟨0, Nat.zero_le _, rfl, rfl, st⟩
    case round =>
      clear st
      obtain ⟨k, hk, rfl, rfl, st⟩ := hrel
      obtain ⟨A2, cap2, rfl⟩ := own_form st.row
      have hsz := st.low.size
      have hpl : (prt (id, t) (T.take k)).length ≤ 300 := by have := prt_len (id, t) (T.take k); rw [List.length_take] at this; omega
      have c0 := st.rq.blk.cell 0 _ rfl
      by_cases hlt : k < n
      · obtain ⟨g, cap', e, dW0, dW1⟩ := rrow_at RQ0.out.row (k := k) (by rw [← hn.out]; exact hlt)
        injection e with e1 e2 e3
        subst e1 e3
        clear e2
        have HT := Lib.hid (take_snoc (nt_get (L := T) (i := k) (by rw [← hn.out]; exact hlt)))
        have HAS := Lib.hid (any_snoc (id, t) (nt T k) (T.take k))
        generalize nt T k = d at *
        have d0 := st.elem dW0
        have d1 := st.elem dW1
        have b0 := st.box.cell 0 _ rfl
        have b1 := st.box.cell 1 _ rfl
        have i2 : (0 : Int) ≤ (k : Int) := by omega
        have i3 : (k : Int) < (n : Int) := by omega
        cases hl : anyLt (id, t) (T.take k)
        · rw [hl, Bool.false_or] at HAS
          have eP : prt (id, t) (T.take k) = T.take k := by unfold prt; rw [hl]; rfl
          rw [eP] at st hpl ⊢
          have KL := Lib.hid (show ∀ V : World, Calls Try.prog 51 #[.agg #[.int .i64 t, .int .i64 id], .agg #[.int .i64 d.2, .int .i64 d.1]] V fun x w' => x = .returned (.bool (decide (lt (id, t) d))) ∧ Below V.heap.size V w' from rless_any (id, t) d)
          by_cases hxd : lt (id, t) d
          · have eN := Lib.hid (show prt (id, t) (T.take (k + 1)) = T.take k ++ [(id, t)] ++ [d] from by unfold prt; rw [HT.out, HAS.out, decide_eq_true hxd]; exact ins_here hxd hl)
            rw [decide_eq_true hxd] at KL HAS
            clear hxd hl eP
            generalize T.take k = P at *
            go_wp2_with fail
            go_region_held3 (fun W => W.cell? ⟨q, 0, none⟩ = some (.slice (some ⟨g, 0, none⟩) n cap3) ∧ W.cell? ⟨w3.heap.size, 0, none⟩ = some (.int .i64 t) ∧ W.cell? ⟨w3.heap.size, 1, none⟩ = some (.int .i64 id) ∧ W.cell? ⟨g, k * 2, none⟩ = some (.int .i64 d.2) ∧ W.cell? ⟨g, k * 2 + 1, none⟩ = some (.int .i64 d.1))
              (first | exact ⟨c0, b0, b1, d0, d1⟩)
              (first | (go_at_call 51; (with_reducible refine (KL.out _).mono ?_); rintro x wn ⟨rfl, hbn⟩; (first | replace hbn := undrew hbn | skip); replace st := st.next hbn; replace c0 := st.rq.blk.cell 0 _ rfl; replace b0 := st.box.cell 0 _ rfl; replace b1 := st.box.cell 1 _ rfl; replace d0 := st.elem dW0; replace d1 := st.elem dW1; clear hbn))
            all_goals
              have hszn := st.low.size
              go_wp2_with (first | (at_builtin; refine wpList_append_own _ rfl _ _ 27 rfl W.heap.size 52 i0 (.agg #[.int .i64 0, .int .i64 0]) 2 16 Try.underlying27 hi hz0 hz1 hz2 rfl (by decide) _ _ _ rfl (st.row.alloc _) _ 1 1 [.int .i64 (t), .int .i64 (id)] rfl rfl (cells2_new _ _ _ _) (by simp [Value.oneCell']) (by unfold maxLen; omega) (by omega) (by simp; omega) ?_; intro v5 w5 hown5 hgrow5 _; obtain ⟨g5, cap5, rfl⟩ := ownsRow_succ hown5; have st5 := st.more RQ0.out BX0.out (appended_below st.row hszn hgrow5) (P' := P ++ [(id, t)]) (by rw [rRow_snoc, List.length_append]; exact hown5); have hsz5 := st5.low.size; have cc5 := st5.rq.blk.cell 0 _ rfl; have bb5 := st5.box.cell 0 _ rfl; have bc5 := st5.box.cell 1 _ rfl; have dd5 := st5.elem dW0; have de5 := st5.elem dW1; have r5 : w5.ownsRow W.heap.size 52 2 (.slice (some ⟨g5, 0, none⟩) (P.length + 1) cap5) (P.length + 1) (rRow (P ++ [(id, t)])) := (by rw [rRow_snoc]; exact hown5)) | (at_builtin; refine wpList_append_own _ rfl _ _ 27 rfl W.heap.size 52 i0 (.agg #[.int .i64 0, .int .i64 0]) 2 16 Try.underlying27 hi hz0 hz1 hz2 rfl (by decide) _ _ _ rfl (r5.alloc _) _ 1 1 [.int .i64 (d.2), .int .i64 (d.1)] rfl rfl (cells2_new _ _ _ _) (by simp [Value.oneCell']) (by unfold maxLen; omega) (by omega) (by simp; omega) ?_; intro v6 w6 hown6 hgrow6 _; obtain ⟨g6, cap6, rfl⟩ := ownsRow_succ hown6; have st6 := st5.more RQ0.out BX0.out (appended_below r5 hsz5 hgrow6) (P' := P ++ [(id, t)] ++ [d]) (by rw [rRow_snoc, List.length_append, List.length_append]; exact hown6); have hsz6 := st6.low.size))
              go_roundw
              case rel => exact ⟨k + 1, by omega, by go_num, by rw [HT.out, HAS.out], by rw [eN.out]; exact st6⟩
              case measure => simp [intOf]; omega
          · have eN := Lib.hid (show prt (id, t) (T.take (k + 1)) = T.take k ++ [d] from by unfold prt; rw [HT.out, HAS.out, decide_eq_false hxd]; rfl)
            rw [decide_eq_false hxd] at KL HAS
            clear hxd hl eP
            generalize T.take k = P at *
            go_wp2_with fail
            go_region_held3 (fun W => W.cell? ⟨q, 0, none⟩ = some (.slice (some ⟨g, 0, none⟩) n cap3) ∧ W.cell? ⟨w3.heap.size, 0, none⟩ = some (.int .i64 t) ∧ W.cell? ⟨w3.heap.size, 1, none⟩ = some (.int .i64 id) ∧ W.cell? ⟨g, k * 2, none⟩ = some (.int .i64 d.2) ∧ W.cell? ⟨g, k * 2 + 1, none⟩ = some (.int .i64 d.1))
              (first | exact ⟨c0, b0, b1, d0, d1⟩)
              (first | (go_at_call 51; (with_reducible refine (KL.out _).mono ?_); rintro x wn ⟨rfl, hbn⟩; (first | replace hbn := undrew hbn | skip); replace st := st.next hbn; replace c0 := st.rq.blk.cell 0 _ rfl; replace b0 := st.box.cell 0 _ rfl; replace b1 := st.box.cell 1 _ rfl; replace d0 := st.elem dW0; replace d1 := st.elem dW1; clear hbn))
            all_goals
              have hszn := st.low.size
              go_wp2_with (at_builtin; refine wpList_append_own _ rfl _ _ 27 rfl W.heap.size 52 i0 (.agg #[.int .i64 0, .int .i64 0]) 2 16 Try.underlying27 hi hz0 hz1 hz2 rfl (by decide) _ _ _ rfl (st.row.alloc _) _ 1 1 [.int .i64 (d.2), .int .i64 (d.1)] rfl rfl (cells2_new _ _ _ _) (by simp [Value.oneCell']) (by unfold maxLen; omega) (by omega) (by simp; omega) ?_; intro v6 w6 hown6 hgrow6 _; obtain ⟨g6, cap6, rfl⟩ := ownsRow_succ hown6; have st6 := st.more RQ0.out BX0.out (appended_below st.row hszn hgrow6) (P' := P ++ [d]) (by rw [rRow_snoc, List.length_append]; exact hown6); have hsz6 := st6.low.size)
              go_roundw
              case rel => exact ⟨k + 1, by omega, by go_num, by rw [HT.out, HAS.out], by rw [eN.out]; exact st6⟩
              case measure => simp [intOf]; omega
        · rw [hl, Bool.true_or] at HAS
          have eN := Lib.hid (show prt (id, t) (T.take (k + 1)) = prt (id, t) (T.take k) ++ [d] from by unfold prt; rw [HT.out, HAS.out, hl]; exact ins_more hl)
          clear hl
          generalize prt (id, t) (T.take k) = P at *
          go_wp2_with fail
          go_quiet (fail)
          have st0 := st.next (below_drewN' (Below.refl _ _) nq)
          have hsz0 := st0.low.size
          clear st
          go_wp2_with (at_builtin; refine wpList_append_own _ rfl _ _ 27 rfl W.heap.size 52 i0 (.agg #[.int .i64 0, .int .i64 0]) 2 16 Try.underlying27 hi hz0 hz1 hz2 rfl (by decide) _ _ _ rfl (st0.row.alloc _) _ 1 1 [.int .i64 (d.2), .int .i64 (d.1)] rfl rfl (cells2_new _ _ _ _) (by simp [Value.oneCell']) (by unfold maxLen; omega) (by omega) (by simp; omega) ?_; intro v6 w6 hown6 hgrow6 _; obtain ⟨g6, cap6, rfl⟩ := ownsRow_succ hown6; have st6 := st0.more RQ0.out BX0.out (appended_below st0.row hsz0 hgrow6) (P' := P ++ [d]) (by rw [rRow_snoc, List.length_append]; exact hown6); have hsz6 := st6.low.size)
          go_roundw
          case rel => exact ⟨k + 1, by omega, by go_num, by rw [HT.out, HAS.out], by rw [eN.out]; exact st6⟩
          case measure => simp [intOf]; omega
      · obtain rfl : k = n := by omega
        have eT : T.take k = T := by rw [hn.out, List.take_length]
        rw [eT] at st hpl ⊢
        clear eT
        cases hl : anyLt (id, t) T
        · have eP : prt (id, t) T = T := by unfold prt; rw [hl]; rfl
          rw [eP] at st hpl ⊢
          have b0 := st.box.cell 0 _ rfl
          have b1 := st.box.cell 1 _ rfl
          have eI := Lib.hid (ins_end hl)
          clear hl eP
          go_wp2_with (at_builtin; refine wpList_append_own _ rfl _ _ 27 rfl W.heap.size 52 i0 (.agg #[.int .i64 0, .int .i64 0]) 2 16 Try.underlying27 hi hz0 hz1 hz2 rfl (by decide) _ _ _ rfl (st.row.alloc _) _ 1 1 [.int .i64 (t), .int .i64 (id)] rfl rfl (cells2_new _ _ _ _) (by simp [Value.oneCell']) (by unfold maxLen; omega) (by omega) (by simp; omega) ?_; intro v6 w6 hown6 hgrow6 _; obtain ⟨g6, cap6, rfl⟩ := ownsRow_succ hown6; have st6 := st.more RQ0.out BX0.out (appended_below st.row hsz hgrow6) (P' := T ++ [(id, t)]) (by rw [rRow_snoc, List.length_append]; exact hown6); have hsz6 := st6.low.size; have cc6 := st6.rq.blk.cell 0 _ rfl; have ff6 := st6.rq.blk.frozen 0)
          go_ret
          obtain ⟨z1, z2⟩ := RQ0.out.laid st6.low st6.row
          refine ⟨by rw [e0.out]; rfl, ⟨.slice (some ⟨g6, 0, none⟩) (T.length + 1) cap6, ?_⟩, grown_trans GW.out z2⟩
          rw [setS_ok e0.out, ← hT.out, eI.out]
          exact z1
        · have eP : prt (id, t) T = ins (id, t) T := by unfold prt; rw [hl]; rfl
          rw [eP] at st hpl ⊢
          have f0 := st.rq.blk.frozen 0
          clear hl eP
          go_wp2_with fail
          go_ret
          obtain ⟨z1, z2⟩ := RQ0.out.laid st.low st.row
          refine ⟨by rw [e0.out]; rfl, .slice A2 (ins (id, t) T).length cap2, ?_, grown_trans GW.out z2⟩
          rw [setS_ok e0.out, ← hT.out]
          exact z1
end Go.Proofs.Ytinbaepligploaa
