/- The document's tally: Worst, Code, Missing. -/
import Derived.Test.YtodgkjmkjahkiaaV4
namespace Go.Proofs.Ytodgkjmkjahkiaa
open Go.RowKit Go.Maps

theorem wrst_one {l : List Int} (h : 0 < l.length) : wrst (l.take 1) = l.getD 0 0 := by
  cases l with
  | nil => cases h
  | cons x r => rfl
set_option maxRecDepth 100000 in
set_option maxHeartbeats 1000000 in
theorem rworst_any (A : Option Addr) (n cap : Nat) (zs : List Int) (w : World) (h : Il w A n zs) : Calls Try.prog 40 #[.slice A n cap] w fun e w' => e = .returned (.int .i64 (wrst zs)) ∧ w' = w := by
  have hmost := h.most
  unfold maxLen at hmost
  have H := Lib.hid h
  clear h
  go_enter Try.func40, Try.ntmps40
  go_wp2
  go_loopg [3, 4] n (fun g s3 s4 wr => ∃ i : Nat, i + g = n ∧ s4 = .int .i64 i ∧ s3 = .int .i64 (wrst (zs.take i)) ∧ wr = w)
  case atStart => exact ⟨0, by omega, rfl, rfl, rfl⟩
  case round =>
    obtain ⟨i, hig, rfl, rfl, rfl⟩ := hrel
    cases gk with
    | zero =>
      obtain rfl : i = n := by omega
      have hlt : ¬ ((i : Int) < (i : Int)) := by omega
      have hT := Lib.hid (show wrst (zs.take i) = wrst zs from by rw [List.take_of_length_le (l := zs) (i := i) (by have := H.out.len; omega)])
      go_wp2
      go_ret
      exact ⟨by rw [← hT.out]; rfl, rfl⟩
    | succ g =>
      have i0 : (0 : Int) ≤ (i : Int) := by omega
      have i1 : (i : Int) < (n : Int) := by omega
      obtain ⟨ad, rfl, h1, h3⟩ := H.out.ints.at_ (k := i) (by rw [H.out.len]; omega)
      by_cases hi : i = 0
      · subst hi
        have HN := Lib.hid (wrst_one (l := zs) (by rw [H.out.len]; omega))
        have e00 : ad.add 0 = ad := by unfold Addr.add; simp
        rw [e00] at h3
        generalize zs.getD 0 0 = z at *
        go_wp2
        go_roundg g
        case measure => omega
        case rel => exact ⟨1, by omega, by go_num, by rw [HN.out], rfl⟩
      · have HS := Lib.hid (wrst_snoc (l := zs) (i := i) (by rw [H.out.len]; omega) (by omega))
        have hz0 : ((i : Int) == 0) = false := by rw [beq_eq_false_iff_ne]; omega
        generalize wrst (zs.take i) = m at *
        generalize zs.getD i 0 = z at *
        by_cases hz : z > m
        · have HN := Lib.hid (show wrst (zs.take (i + 1)) = z from by rw [HS.out, if_pos hz])
          go_wp2
          go_roundg g
          case measure => omega
          case rel => exact ⟨i + 1, by omega, by go_num, by rw [HN.out], rfl⟩
        · have HN := Lib.hid (show wrst (zs.take (i + 1)) = m from by rw [HS.out, if_neg hz])
          go_wp2
          go_roundg g
          case measure => omega
          case rel => exact ⟨i + 1, by omega, by go_num, by rw [HN.out], rfl⟩
set_option maxRecDepth 100000 in
set_option maxHeartbeats 1000000 in
theorem rcode_any {w : World} {q n : Nat} {va vb vc : Value} {T : Tv} (h : RTal w q va vb vc n T) :
    Calls Try.prog 36 #[.pointer (some ⟨q, 0, none⟩)] w fun e w' => e = .returned (.int .i64 T.code) ∧ w' = w := by
  have hm := h.most
  have KS := Lib.hid (rstate_any h)
  obtain ⟨C, cc, rfl⟩ := own_form h.r.rc
  have KW := Lib.hid (rworst_any C n cc T.cs w ⟨ints_row h.r.rc h.lc, h.lc, by unfold maxLen; omega⟩)
  have c2 := h.r.blk.cell 2 _ rfl
  have hcd := Lib.hid (show T.code = if T.st = 3 then wrst T.cs else 0 from rfl)
  clear h hm
  generalize T.st = st at *
  by_cases g3 : st = 3
  · have E := Lib.hid (show T.code = wrst T.cs from by rw [hcd.out, if_pos g3])
    subst g3
    clear hcd
    go_enter Try.func36, Try.ntmps36
    go_wp2_with (first
      | (go_at_call 34; (with_reducible refine KS.out.mono ?_); rintro _ w ⟨rfl, rfl⟩)
      | (go_at_call 40; (with_reducible refine KW.out.mono ?_); rintro _ w ⟨rfl, rfl⟩))
    go_ret
    exact ⟨by rw [E.out]; rfl, rfl⟩
  · have E := Lib.hid (show T.code = 0 from by rw [hcd.out, if_neg g3])
    have q3 : (st == 3) = false := by simpa using g3
    have q4 : (st != 3) = true := by unfold bne; rw [q3]; rfl
    clear g3 hcd
    go_enter Try.func36, Try.ntmps36
    go_wp2_with (go_at_call 34; (with_reducible refine KS.out.mono ?_); rintro _ w ⟨rfl, rfl⟩)
    go_ret
    exact ⟨by rw [E.out]; rfl, rfl⟩
/-- Who is missing, place by place. -/
def mB (T : Tv) (i : Nat) : Bool := (T.st == 0 && T.vs.getD i 0 == 0) || (T.st == 1 && T.cs.getD i 0 == -1)
theorem miss_eq (T : Tv) : selR (mB T) T.ns T.ns.length = T.miss := by
  unfold Tv.miss
  split
  · rename_i h
    refine selR_cong fun i _ => ?_
    unfold mB; rw [h]; simp
  · rename_i h0
    split
    · rename_i h
      refine selR_cong fun i _ => ?_
      unfold mB; rw [h]; simp
    · rename_i h1
      have : ∀ n, selR (mB T) T.ns n = [] := by
        intro n
        induction n with
        | zero => rfl
        | succ n ih =>
          unfold selR
          rw [show mB T n = false from by unfold mB; rw [beq_eq_false_iff_ne.2 h0, beq_eq_false_iff_ne.2 h1]; rfl, ih]
          rfl
      exact this _
theorem RTal.next {w w' : World} {q n : Nat} {va vb vc : Value} {T : Tv} (h : RTal w q va vb vc n T) (hb : Below w.heap.size w w') : RTal w' q va vb vc n T :=
  ⟨h.r.next hb, h.ln, h.lv, h.lc, h.most, h.pos⟩
set_option maxRecDepth 100000 in
set_option maxHeartbeats 4000000 in
theorem rmissing_any {w : World} {q n : Nat} {va vb vc : Value} {T : Tv} (h : RTal w q va vb vc n T) :
    Calls Try.prog 38 #[.pointer (some ⟨q, 0, none⟩)] w (Gives w T.miss) := by
  obtain ⟨ti, hi, hz0, hz1, hz2⟩ := info_parts info3
  have hm := h.most
  have H := Lib.hid h
  have hE := Lib.hid (show selR (mB T) T.ns n = T.miss from by rw [← miss_eq, h.ln])
  obtain ⟨A, ca, rfl⟩ := own_form h.r.ra
  obtain ⟨B, cb, rfl⟩ := own_form h.r.rb
  obtain ⟨C, cc, rfl⟩ := own_form h.r.rc
  clear h
  go_enter Try.func38, Try.ntmps38
  go_wp2
  go_loopg [3, 4] n (fun g s3 s4 wr => ∃ i : Nat, i + g = n ∧ s4 = .int .i64 i ∧ wr.ownsRow w.heap.size 3 1 s3 (selR (mB T) T.ns i).length (iv (selR (mB T) T.ns i)) ∧ Below w.heap.size w wr)
  case atStart => exact ⟨0, by omega, rfl, World.ownsRow_nil _ _ _ _, Below.refl _ _⟩
  case round =>
    obtain ⟨i, hig, rfl, hrow, hb⟩ := hrel
    obtain ⟨A1, cap1, rfl⟩ := own_form hrow
    have hsz := hb.size
    have H2 := Lib.hid (H.out.next hb)
    have c0 := H2.out.r.blk.cell 0 _ rfl
    have c1 := H2.out.r.blk.cell 1 _ rfl
    have c2 := H2.out.r.blk.cell 2 _ rfl
    cases gk with
    | zero =>
      obtain rfl : i = n := by omega
      have hlt : ¬ ((i : Int) < (i : Int)) := by omega
      go_wp2
      go_ret
      refine ⟨_, rfl, ?_, hb⟩
      rw [← hE.out]
      exact hrow
    | succ g =>
      have i0 : (0 : Int) ≤ (i : Int) := by omega
      have i1 : (i : Int) < (n : Int) := by omega
      obtain ⟨ad, rfl, h1, h2⟩ := (ints_row H2.out.r.ra H2.out.ln).at_ (k := i) (by rw [H2.out.ln]; omega)
      obtain ⟨bd, rfl, h3, h4⟩ := (ints_row H2.out.r.rb H2.out.lv).at_ (k := i) (by rw [H2.out.lv]; omega)
      obtain ⟨cd, rfl, h5, h6⟩ := (ints_row H2.out.r.rc H2.out.lc).at_ (k := i) (by rw [H2.out.lc]; omega)
      have KS := Lib.hid (rstate_any H2.out)
      have HS := Lib.hid (show selR (mB T) T.ns (i + 1) = if mB T i then selR (mB T) T.ns i ++ [T.ns.getD i 0] else selR (mB T) T.ns i from rfl)
      have hle := selR_le (f := mB T) (ns := T.ns) (n := i)
      have hnb := Lib.hid (show mB T i = ((T.st == 0 && T.vs.getD i 0 == 0) || (T.st == 1 && T.cs.getD i 0 == -1)) from rfl)
      generalize T.ns.getD i 0 = z at *
      generalize T.vs.getD i 0 = v at *
      generalize T.cs.getD i 0 = c at *
      generalize T.st = st at *
      cases a0 : (st == 0) <;> cases a1 : (v == 0) <;> cases a2 : (st == 1) <;> cases a3 : (c == -1) <;> rw [a0, a1, a2, a3] at hnb
      all_goals
        first
        | have HN := Lib.hid (show selR (mB T) T.ns (i + 1) = selR (mB T) T.ns i ++ [z] from by rw [HS.out, hnb.out]; rfl)
          clear hnb HS
          go_wp2_with (first
            | (go_at_call 34; (with_reducible refine KS.out.mono ?_); rintro _ wr ⟨rfl, rfl⟩)
            | (at_builtin; refine wpList_append_own _ rfl _ _ 28 rfl w.heap.size 3 ti (.int .i64 0) 1 8 Try.underlying28 hi hz0 hz1 hz2 rfl (by decide) _ _ _ rfl (hrow.alloc _) ⟨wr.heap.size, 0, none⟩ 1 1 [.int .i64 z] rfl rfl (cell_one_new _ _ _) (by simp [Value.oneCell']) (by unfold maxLen; omega) (by omega) (by simp; omega) ?_; intro v6 w6 hown6 hgrow6 _; obtain ⟨g6, cap6, rfl⟩ := ownsRow_succ hown6; have hb6 := appended_below hrow (by omega) hgrow6))
          go_roundg g
          case measure => omega
          case rel => exact ⟨i + 1, by omega, by go_num, by rw [HN.out, iv_snoc, List.length_append]; exact hown6, hb.trans hb6⟩
        | have HN := Lib.hid (show selR (mB T) T.ns (i + 1) = selR (mB T) T.ns i from by rw [HS.out, hnb.out]; rfl)
          clear hnb HS
          go_wp2_with (go_at_call 34; (with_reducible refine KS.out.mono ?_); rintro _ wr ⟨rfl, rfl⟩)
          go_roundg g
          case measure => omega
          case rel => exact ⟨i + 1, by omega, by go_num, by rw [HN.out]; exact hrow, hb⟩
end Go.Proofs.Ytodgkjmkjahkiaa
