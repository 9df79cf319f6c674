/- tally: Missing, Worst, Code; none. -/
import Derived.Test.YtodgkjmkjahkiaaT6
namespace Go.Proofs.Ytodgkjmkjahkiaa
open Go.RowKit Go.Maps

theorem IntsAt.cellAt' {w : World} {ad : Addr} {zs : List Int} (h : IntsAt w (some ad) zs) {k : Nat} (hk : k < zs.length) : w.cell? (ad.add k) = some (.int .i64 (zs.getD k 0)) ∧ ad.block < w.heap.size := by
  rcases h with rfl | ⟨ad2, e, h1, h2⟩
  · cases hk
  · cases e; exact ⟨h2 k hk, h1⟩
/-- The nodes whose places hold. -/
def selR (f : Nat → Bool) (ns : List Int) : Nat → List Int
  | 0 => []
  | n + 1 => if f n then selR f ns n ++ [ns.getD n 0] else selR f ns n
theorem selR_le {f : Nat → Bool} {ns : List Int} : ∀ {n : Nat}, (selR f ns n).length ≤ n
  | 0 => Nat.le_refl _
  | n + 1 => by
    have ih := selR_le (f := f) (ns := ns) (n := n)
    unfold selR
    cases f n <;> simp <;> omega
theorem selR_cong {f g : Nat → Bool} {ns : List Int} : ∀ {n : Nat}, (∀ i, i < n → f i = g i) → selR f ns n = selR g ns n
  | 0, _ => rfl
  | n + 1, h => by
    unfold selR
    rw [h n (by omega), selR_cong fun i hi => h i (by omega)]
def Tv.miss (T : Tv) : List Int := if T.st = 0 then selR (fun i => T.vs.getD i 0 == 0) T.ns T.ns.length else if T.st = 1 then selR (fun i => T.cs.getD i 0 == -1) T.ns T.ns.length else []
/-- Who has said nothing. -/
def nonB (V : List En) (ns : List Int) (i : Nat) : Bool := (lk V (ns.getD i 0)).isNone
theorem AgV.none_ {V : List En} {ns vs : List Int} (h : AgV V ns vs) {i : Nat} (hi : i < ns.length) : (vs.getD i 0 == 0) = nonB V ns i := by
  unfold nonB
  rcases h.at_ i hi with ⟨h1, h2⟩ | ⟨x, h1, ⟨_, h2⟩ | ⟨_, h2⟩⟩
  · rw [h1, h2]; rfl
  · rw [h1, h2]; rfl
  · rw [h1, h2]; rfl
theorem AgC.none_ {V : List En} {ns cs : List Int} (h : AgC V ns cs) {i : Nat} (hi : i < ns.length) : (cs.getD i 0 == -1) = nonB V ns i := by
  unfold nonB
  rcases h.at_ i hi with ⟨h1, h2⟩ | ⟨x, h1, _, h2, _⟩
  · rw [h1, h2]; rfl
  · rw [h1]
    show _ = false
    rw [beq_eq_false_iff_ne]
    omega
set_option maxRecDepth 100000 in
set_option maxHeartbeats 2000000 in
theorem silentB_any {w : World} {b k : Nat} {V : List En} {ns : List Int} (A : Option Addr) (n c : Nat) (h : MpAt w b k 4 V) (hI : Il w A n ns) (hl : n ≤ 16) (hw : ∀ x ∈ ns, wf x) : Calls Try.prog 60 #[.slice A n c, .map (some b)] w (Gives w (selR (nonB V ns) ns n)) := by
  obtain ⟨ti, hi, hz0, hz1, hz2⟩ := info_parts info3
  have H := Lib.hid h
  have HI := Lib.hid hI
  have HW := Lib.hid hw
  clear h hI hw
  go_enter Try.func60, Try.ntmps60
  go_wp2
  go_loopg [5, 10] n (fun g s5 s10 wr => ∃ i : Nat, i + g = n ∧ s10 = .int .i64 i ∧ wr.ownsRow w.heap.size 3 1 s5 (selR (nonB V ns) ns i).length (iv (selR (nonB V ns) ns i)) ∧ Below w.heap.size w wr)
  case atStart => exact ⟨0, by omega, rfl, World.ownsRow_nil _ _ _ _, Below.refl _ _⟩
  case round =>
    obtain ⟨i, hig, rfl, hrow, hb⟩ := hrel
    obtain ⟨A1, cap1, rfl⟩ := own_form hrow
    have hsz := hb.size
    cases gk with
    | zero =>
      obtain rfl : i = n := by omega
      have hlt : ¬ ((i : Int) < (i : Int)) := by omega
      go_wp2
      go_ret
      exact ⟨_, rfl, hrow, hb⟩
    | succ g =>
      have i0 : (0 : Int) ≤ (i : Int) := by omega
      have i1 : (i : Int) < (n : Int) := by omega
      obtain ⟨ad, rfl, h1, h2⟩ := (HI.out.ints.next hb).at_ (k := i) (by rw [HI.out.len]; omega)
      have hlk := (H.out.next hb).look Try.underlying67 zero85 (n := ns.getD i 0) (HW.out _ (mem_getD (by rw [HI.out.len]; omega)))
      have HS := Lib.hid (show selR (nonB V ns) ns (i + 1) = if nonB V ns i then selR (nonB V ns) ns i ++ [ns.getD i 0] else selR (nonB V ns) ns i from rfl)
      have hle := selR_le (f := nonB V ns) (ns := ns) (n := i)
      have hnb := Lib.hid (show nonB V ns i = (lk V (ns.getD i 0)).isNone from rfl)
      generalize ns.getD i 0 = z at *
      cases hx : lk V z with
      | none =>
        rw [hx] at hlk hnb
        simp only [Option.map_none, ptV] at hlk
        have HN := Lib.hid (show selR (nonB V ns) ns (i + 1) = selR (nonB V ns) ns i ++ [z] from by rw [HS.out, hnb.out]; rfl)
        clear hx
        go_wp2_with (at_builtin; refine wpList_append_own _ rfl _ _ 28 rfl w.heap.size 3 ti (.int .i64 0) 1 8 Try.underlying28 hi hz0 hz1 hz2 rfl (by decide) _ _ _ rfl (hrow.alloc _) ⟨wr.heap.size, 0, none⟩ 1 1 [.int .i64 z] rfl rfl (cell_one_new _ _ _) (by simp [Value.oneCell']) (by unfold maxLen; omega) (by omega) (by simp; omega) ?_; intro v6 w6 hown6 hgrow6 _; obtain ⟨g6, cap6, rfl⟩ := ownsRow_succ hown6; have hb6 := appended_below hrow (by omega) hgrow6)
        go_roundg g
        case measure => omega
        case rel => exact ⟨i + 1, by omega, by go_num, by rw [HN.out, iv_snoc, List.length_append]; exact hown6, hb.trans hb6⟩
      | some x =>
        rw [hx] at hlk hnb
        simp only [Option.map_some, ptV] at hlk
        have HN := Lib.hid (show selR (nonB V ns) ns (i + 1) = selR (nonB V ns) ns i from by rw [HS.out, hnb.out]; rfl)
        clear hx
        go_wp2
        go_roundg g
        case measure => omega
        case rel => exact ⟨i + 1, by omega, by go_num, by rw [HN.out]; exact hrow, hb⟩
set_option maxRecDepth 100000 in
set_option maxHeartbeats 2000000 in
theorem silentI_any {w : World} {b k : Nat} {V : List En} {ns : List Int} (A : Option Addr) (n c : Nat) (h : MpAt w b k 3 V) (hI : Il w A n ns) (hl : n ≤ 16) (hw : ∀ x ∈ ns, wf x) : Calls Try.prog 61 #[.slice A n c, .map (some b)] w (Gives w (selR (nonB V ns) ns n)) := by
  obtain ⟨ti, hi, hz0, hz1, hz2⟩ := info_parts info3
  have H := Lib.hid h
  have HI := Lib.hid hI
  have HW := Lib.hid hw
  clear h hI hw
  go_enter Try.func61, Try.ntmps61
  go_wp2
  go_loopg [5, 10] n (fun g s5 s10 wr => ∃ i : Nat, i + g = n ∧ s10 = .int .i64 i ∧ wr.ownsRow w.heap.size 3 1 s5 (selR (nonB V ns) ns i).length (iv (selR (nonB V ns) ns i)) ∧ Below w.heap.size w wr)
  case atStart => exact ⟨0, by omega, rfl, World.ownsRow_nil _ _ _ _, Below.refl _ _⟩
  case round =>
    obtain ⟨i, hig, rfl, hrow, hb⟩ := hrel
    obtain ⟨A1, cap1, rfl⟩ := own_form hrow
    have hsz := hb.size
    cases gk with
    | zero =>
      obtain rfl : i = n := by omega
      have hlt : ¬ ((i : Int) < (i : Int)) := by omega
      go_wp2
      go_ret
      exact ⟨_, rfl, hrow, hb⟩
    | succ g =>
      have i0 : (0 : Int) ≤ (i : Int) := by omega
      have i1 : (i : Int) < (n : Int) := by omega
      obtain ⟨ad, rfl, h1, h2⟩ := (HI.out.ints.next hb).at_ (k := i) (by rw [HI.out.len]; omega)
      have hlk := (H.out.next hb).look Try.underlying68 zero74 (n := ns.getD i 0) (HW.out _ (mem_getD (by rw [HI.out.len]; omega)))
      have HS := Lib.hid (show selR (nonB V ns) ns (i + 1) = if nonB V ns i then selR (nonB V ns) ns i ++ [ns.getD i 0] else selR (nonB V ns) ns i from rfl)
      have hle := selR_le (f := nonB V ns) (ns := ns) (n := i)
      have hnb := Lib.hid (show nonB V ns i = (lk V (ns.getD i 0)).isNone from rfl)
      generalize ns.getD i 0 = z at *
      cases hx : lk V z with
      | none =>
        rw [hx] at hlk hnb
        simp only [Option.map_none, ptV] at hlk
        have HN := Lib.hid (show selR (nonB V ns) ns (i + 1) = selR (nonB V ns) ns i ++ [z] from by rw [HS.out, hnb.out]; rfl)
        clear hx
        go_wp2_with (at_builtin; refine wpList_append_own _ rfl _ _ 28 rfl w.heap.size 3 ti (.int .i64 0) 1 8 Try.underlying28 hi hz0 hz1 hz2 rfl (by decide) _ _ _ rfl (hrow.alloc _) ⟨wr.heap.size, 0, none⟩ 1 1 [.int .i64 z] rfl rfl (cell_one_new _ _ _) (by simp [Value.oneCell']) (by unfold maxLen; omega) (by omega) (by simp; omega) ?_; intro v6 w6 hown6 hgrow6 _; obtain ⟨g6, cap6, rfl⟩ := ownsRow_succ hown6; have hb6 := appended_below hrow (by omega) hgrow6)
        go_roundg g
        case measure => omega
        case rel => exact ⟨i + 1, by omega, by go_num, by rw [HN.out, iv_snoc, List.length_append]; exact hown6, hb.trans hb6⟩
      | some x =>
        rw [hx] at hlk hnb
        simp only [Option.map_some, ptV] at hlk
        have HN := Lib.hid (show selR (nonB V ns) ns (i + 1) = selR (nonB V ns) ns i from by rw [HS.out, hnb.out]; rfl)
        clear hx
        go_wp2
        go_roundg g
        case measure => omega
        case rel => exact ⟨i + 1, by omega, by go_num, by rw [HN.out]; exact hrow, hb⟩
theorem wf_nodes {ns : List Int} (h : okN ns = true) : ∀ x ∈ ns, wf x := fun x hx => wf_iff.2 (by have := (okN_iff.1 h).1.2 x hx; omega)
set_option maxRecDepth 100000 in
set_option maxHeartbeats 4000000 in
theorem missing_any {w : World} {p bv bc k : Nat} {T : Tv} (h : TalAt w p bv bc k T) : Calls Try.prog 37 #[.pointer (some ⟨p, 0, none⟩)] w (Gives w T.miss) := by
  have KS := Lib.hid (fun V (hb : Below w.heap.size w V) => state_any (h.next hb))
  obtain ⟨A, n, c, V, C, hT⟩ := h
  have hl := okN_len hT.ok
  rw [hT.ints.len] at hl
  have KB := Lib.hid (fun W (hb : Below w.heap.size w W) => silentB_any A n c (hT.mv.next hb) (hT.ints.next hb) hl (wf_nodes hT.ok))
  have KI := Lib.hid (fun W (hb : Below w.heap.size w W) => silentI_any A n c (hT.mc.next hb) (hT.ints.next hb) hl (wf_nodes hT.ok))
  have e0 := Lib.hid (show T.st = 0 → T.miss = selR (nonB V T.ns) T.ns n from fun e => by
    unfold Tv.miss
    rw [if_pos e, hT.ints.len]
    exact selR_cong fun i hi => hT.av.none_ (by rw [hT.ints.len]; exact hi))
  have e1 := Lib.hid (show T.st = 1 → T.miss = selR (nonB C T.ns) T.ns n from fun e => by
    unfold Tv.miss
    rw [if_neg (by omega), if_pos e, hT.ints.len]
    exact selR_cong fun i hi => hT.ac.none_ (by rw [hT.ints.len]; exact hi))
  have e2 := Lib.hid (show T.st ≠ 0 → T.st ≠ 1 → T.miss = [] from fun h0 h1 => by unfold Tv.miss; rw [if_neg h0, if_neg h1])
  have H := Lib.hid hT
  clear hT
  generalize T.st = st at *
  by_cases g0 : st = 0
  · have E := Lib.hid (e0.out g0)
    subst g0
    rw [E.out]
    clear e0 e1 e2
    generalize selR (nonB V T.ns) T.ns n = R at *
    go_enter Try.func37, Try.ntmps37
    go_wp2_with (go_at_call 33; (with_reducible refine (KS.out _ (Below.refl _ _)).mono ?_); rintro _ w1 ⟨rfl, hb1⟩)
    have c0 := (H.out.blk.next hb1).cell 0 _ rfl
    have c1 := (H.out.blk.next hb1).cell 1 _ rfl
    have hB1 := Lib.hid hb1
    have hs1 := hb1.size
    clear hb1
    go_wp2
    go_region_law (first
      | (go_simp; go_at_call 60; refine (KB.out _ (by first | exact hB1.out.drew | exact hB1.out)).mono ?_; rintro _ w3 ⟨v, rfl, hrow, hb3⟩; replace hb3 := undrew2 hb3))
    all_goals
      have R := Lib.hid (Joins.ownsRow_le hrow (by simpa using hs1))
      have B := Lib.hid (bmore hB1.out hb3)
      clear hrow hb3
      go_wp2
      go_ret
      exact ⟨v, rfl, R.out, B.out⟩
  · by_cases g1 : st = 1
    · have E := Lib.hid (e1.out g1)
      subst g1
      rw [E.out]
      clear e0 e1 e2 g0
      generalize selR (nonB C T.ns) T.ns n = R at *
      go_enter Try.func37, Try.ntmps37
      go_wp2_with (first
        | (go_at_call 33; (with_reducible refine (KS.out _ (Below.refl _ _)).mono ?_); rintro _ w1 ⟨rfl, hb1⟩)
        | (go_at_call 33; (with_reducible refine (KS.out _ hb1).mono ?_); rintro _ w2 ⟨rfl, hb2⟩))
      have hB1 := Lib.hid (bmore hb1 hb2)
      have c0 := (H.out.blk.next hB1.out).cell 0 _ rfl
      have c2 := (H.out.blk.next hB1.out).cell 2 _ rfl
      have hs1 := hB1.out.size
      clear hb1 hb2
      go_wp2
      go_region_law (first
        | (go_simp; go_at_call 61; refine (KI.out _ (by first | exact hB1.out.drew | exact hB1.out)).mono ?_; rintro _ w3 ⟨v, rfl, hrow, hb3⟩; replace hb3 := undrew2 hb3))
      all_goals
        have R := Lib.hid (Joins.ownsRow_le hrow (by simpa using hs1))
        have B := Lib.hid (bmore hB1.out hb3)
        clear hrow hb3
        go_wp2
        go_ret
        exact ⟨v, rfl, R.out, B.out⟩
    · have E := Lib.hid (e2.out g0 g1)
      have q0 : (st == 0) = false := by simpa using g0
      have q1 : (st == 1) = false := by simpa using g1
      rw [E.out]
      clear e0 e1 e2 g0 g1
      go_enter Try.func37, Try.ntmps37
      go_wp2_with (first
        | (go_at_call 33; (with_reducible refine (KS.out _ (Below.refl _ _)).mono ?_); rintro _ w1 ⟨rfl, hb1⟩)
        | (go_at_call 33; (with_reducible refine (KS.out _ hb1).mono ?_); rintro _ w2 ⟨rfl, hb2⟩))
      go_ret
      exact ⟨_, rfl, World.ownsRow_nil _ _ _ _, bmore hb1 hb2⟩
set_option maxRecDepth 100000 in
theorem missing_nil (w : World) : Calls Try.prog 37 #[.pointer none] w fun e w' => e = .returned (.slice none 0 0) ∧ w' = w := by
  go_enter Try.func37, Try.ntmps37
  go_wp2
  go_ret
  exact ⟨rfl, rfl⟩
set_option maxRecDepth 100000 in
theorem code_nil (w : World) : Calls Try.prog 35 #[.pointer none] w fun e w' => e = .returned (.int .i64 0) ∧ w' = w := by
  have K := Lib.hid (state_nil w)
  go_enter Try.func35, Try.ntmps35
  go_wp2_with (go_at_call 33; (with_reducible refine K.out.mono ?_); rintro _ w ⟨rfl, rfl⟩)
  go_ret
  exact ⟨rfl, rfl⟩
set_option maxRecDepth 100000 in
theorem vote_nil (n : Int) (y : Bool) (w : World) : Calls Try.prog 41 #[.pointer none, .int .i64 n, .bool y] w fun e w' => e = .returned (.int .i64 1) ∧ w' = w := by
  have K := Lib.hid (thas_nil n w)
  go_enter Try.func41, Try.ntmps41
  go_wp2_with (go_at_call 63; (with_reducible refine K.out.mono ?_); rintro _ w ⟨rfl, rfl⟩)
  go_ret
  exact ⟨rfl, rfl⟩
set_option maxRecDepth 100000 in
theorem exit_nil (n y : Int) (w : World) : Calls Try.prog 42 #[.pointer none, .int .i64 n, .int .i64 y] w fun e w' => e = .returned (.int .i64 1) ∧ w' = w := by
  have K := Lib.hid (thas_nil n w)
  go_enter Try.func42, Try.ntmps42
  go_wp2_with (go_at_call 63; (with_reducible refine K.out.mono ?_); rintro _ w ⟨rfl, rfl⟩)
  go_ret
  exact ⟨rfl, rfl⟩
/-- The greatest. -/
def wrst : List Int → Int
  | [] => 0
  | x :: r => r.foldl (fun m c => if c > m then c else m) x
theorem wrst_snoc {l : List Int} {i : Nat} (h : i < l.length) (h1 : 1 ≤ i) : wrst (l.take (i + 1)) = if l.getD i 0 > wrst (l.take i) then l.getD i 0 else wrst (l.take i) := by
  rw [List.take_add_one, List.getElem?_eq_getElem h, Option.toList_some]
  have hg : l.getD i 0 = l[i] := by rw [List.getD_eq_getElem?_getD, List.getElem?_eq_getElem h]; rfl
  rw [hg]
  cases l with
  | nil => cases h
  | cons x r =>
    obtain ⟨j, rfl⟩ : ∃ j, i = j + 1 := ⟨i - 1, by omega⟩
    show (r.take j ++ [_]).foldl _ x = _
    rw [List.foldl_append]
    rfl
set_option maxRecDepth 100000 in
set_option maxHeartbeats 1000000 in
theorem max_any (A : Option Addr) (n cap : Nat) (zs : List Int) (w : World) (h : Il w A n zs) (hn : 1 ≤ n) : Calls Try.prog 62 #[.slice A n cap] w fun e w' => e = .returned (.int .i64 (wrst zs)) ∧ w' = w := by
  have hmost := h.most
  unfold maxLen at hmost
  obtain ⟨ad, rfl, h1, h2⟩ := h.ints.at_ (k := 0) (by rw [h.len]; omega)
  have H := Lib.hid h
  have e00 : ad.add 0 = ad := by unfold Addr.add; simp
  rw [e00] at h2
  have hlt : ¬ ((n : Int) < 1) := by omega
  have hp0 : (0 : Int) < (n : Int) := by omega
  have HW := Lib.hid (show zs.getD 0 0 = wrst (zs.take 1) from by
    cases zs with
    | nil => rw [← H.out.len] at hn; cases hn
    | cons x r => rfl)
  clear h
  rw [HW.out] at h2
  go_enter Try.func62, Try.ntmps62
  go_wp2
  go_loopg [3, 4] (n - 1) (fun g s3 s4 wr => ∃ i : Nat, i + g = n ∧ 1 ≤ i ∧ s4 = .int .i64 i ∧ s3 = .int .i64 (wrst (zs.take i)) ∧ wr = w)
  case atStart => exact ⟨1, by omega, by omega, rfl, rfl, rfl⟩
  case round =>
    obtain ⟨i, hig, hi1, rfl, rfl, rfl⟩ := hrel
    cases gk with
    | zero =>
      have hlt : ¬ ((i : Int) < (n : Int)) := by omega
      have hT := Lib.hid (show wrst (zs.take i) = wrst zs from by rw [List.take_of_length_le (l := zs) (i := i) (by have := H.out.len; omega)])
      go_wp2
      go_ret
      exact ⟨by rw [← hT.out]; rfl, rfl⟩
    | succ g =>
      have i0 : (0 : Int) ≤ (i : Int) := by omega
      have i1 : (i : Int) < (n : Int) := by omega
      obtain ⟨h3, _⟩ := H.out.ints.cellAt' (k := i) (by rw [H.out.len]; omega)
      have HS := Lib.hid (wrst_snoc (l := zs) (i := i) (by rw [H.out.len]; omega) hi1)
      generalize wrst (zs.take i) = m at *
      generalize zs.getD i 0 = z at *
      by_cases hz : z > m
      · have HN := Lib.hid (show wrst (zs.take (i + 1)) = z from by rw [HS.out, if_pos hz])
        go_wp2
        go_roundg g
        case measure => omega
        case rel => exact ⟨i + 1, by omega, by omega, by go_num, by rw [HN.out], rfl⟩
      · have HN := Lib.hid (show wrst (zs.take (i + 1)) = m from by rw [HS.out, if_neg hz])
        go_wp2
        go_roundg g
        case measure => omega
        case rel => exact ⟨i + 1, by omega, by omega, by go_num, by rw [HN.out], rfl⟩
set_option maxRecDepth 100000 in
set_option maxHeartbeats 1000000 in
theorem worst_any (A : Option Addr) (n cap : Nat) (zs : List Int) (w : World) (h : Il w A n zs) : Calls Try.prog 39 #[.slice A n cap] w fun e w' => e = .returned (.int .i64 (wrst zs)) ∧ w' = w := by
  by_cases hn : n = 0
  · subst hn
    have hz : zs = [] := List.length_eq_zero_iff.1 h.len
    subst hz
    clear h
    go_enter Try.func39, Try.ntmps39
    go_wp2
    go_ret
    exact ⟨rfl, rfl⟩
  · have K := Lib.hid (max_any A n cap zs w h (by omega))
    have hz : ((n : Int) == 0) = false := by rw [beq_eq_false_iff_ne]; omega
    clear h
    go_enter Try.func39, Try.ntmps39
    go_wp2_with (go_at_call 62; (with_reducible refine K.out.mono ?_); rintro _ w ⟨rfl, rfl⟩)
    go_ret
    exact ⟨rfl, rfl⟩
def Tv.code (T : Tv) : Int := if T.st = 3 then wrst T.cs else 0
set_option maxRecDepth 100000 in
set_option maxHeartbeats 4000000 in
theorem code_any {w : World} {p bv bc k : Nat} {T : Tv} (h : TalAt w p bv bc k T) : Calls Try.prog 35 #[.pointer (some ⟨p, 0, none⟩)] w fun e w' => e = .returned (.int .i64 T.code) ∧ Below w.heap.size w w' := by
  obtain ⟨ti, hi, hz0, hz1, hz2⟩ := info_parts info3
  have KS := Lib.hid (state_any h)
  obtain ⟨A, n, c, V, C, hT⟩ := h
  have hl := okN_len hT.ok
  rw [hT.ints.len] at hl
  have hcd := Lib.hid (show T.code = if T.st = 3 then wrst T.cs else 0 from rfl)
  have hno := Lib.hid (show T.st = 3 → ∀ i, i < n → ∃ x, lk C (T.ns.getD i 0) = some x ∧ x.v = .int .i64 (T.cs.getD i 0) from fun e i hi => by
    rcases hT.ac.at_ i (by rw [hT.ints.len]; exact hi) with ⟨_, h2⟩ | ⟨x, h1, h2, _⟩
    · exfalso
      have hh : hasB T.cs (-1) = true := hasB_at.2 ⟨i, by rw [hT.ac.len, hT.ints.len]; exact hi, h2⟩
      unfold Tv.st at e
      rw [hh] at e
      split at e
      · cases e
      · split at e
        · cases e
        · simp at e
    · exact ⟨x, h1, h2⟩)
  have hcl := Lib.hid (show T.cs.length = n from hT.ac.len.trans hT.ints.len)
  have H := Lib.hid hT
  clear hT
  generalize T.st = st at *
  by_cases g3 : st = 3
  · have HN := Lib.hid (hno.out g3)
    have E := Lib.hid (show T.code = wrst T.cs from by rw [hcd.out, if_pos g3])
    subst g3
    clear hno hcd
    go_enter Try.func35, Try.ntmps35
    go_wp2_with fail
    refine KS.out.mono ?_
    rintro _ w1 ⟨rfl, hb1⟩
    have H1 := Lib.hid (H.out.next hb1)
    have c0 := H1.out.blk.cell 0 _ rfl
    have hB1 := Lib.hid hb1
    clear hb1
    go_wp2
    clear c0
    go_loopg [3, 14] n (fun g s3 s14 wr => ∃ i : Nat, i + g = n ∧ s14 = .int .i64 i ∧ wr.ownsRow w1.heap.size 3 1 s3 i (iv (T.cs.take i)) ∧ Below w1.heap.size w1 wr)
    case atStart => exact ⟨0, by omega, rfl, World.ownsRow_nil _ _ _ _, Below.refl _ _⟩
    case round =>
      obtain ⟨i, hig, rfl, hrow, hb⟩ := hrel
      obtain ⟨A1, cap1, rfl⟩ := own_form hrow
      have hsz := hb.size
      cases gk with
      | zero =>
        obtain rfl : i = n := by omega
        have hlt : ¬ ((i : Int) < (i : Int)) := by omega
        have et := Lib.hid (show T.cs.take i = T.cs from List.take_of_length_le (by rw [hcl.out]; exact Nat.le_refl _))
        rw [et.out] at hrow
        have K := Lib.hid (worst_any A1 i cap1 T.cs wr ⟨ints_iv hcl.out hrow, hcl.out, by unfold maxLen; omega⟩)
        go_wp2_with (go_at_call 39; (with_reducible refine K.out.mono ?_); rintro _ wr ⟨rfl, rfl⟩)
        go_ret
        exact ⟨by rw [E.out]; rfl, bmore hB1.out hb⟩
      | succ g =>
        have i0 : (0 : Int) ≤ (i : Int) := by omega
        have i1 : (i : Int) < (n : Int) := by omega
        have H2 := Lib.hid (H1.out.next hb)
        obtain ⟨ad, rfl, h1, h2⟩ := H2.out.ints.ints.at_ (k := i) (by rw [H2.out.ints.len]; omega)
        have hlk := H2.out.mc.look Try.underlying68 zero74 (n := T.ns.getD i 0) (wf_nodes H2.out.ok _ (mem_getD (by rw [H2.out.ints.len]; omega)))
        obtain ⟨x, hx, hv⟩ := HN.out i (by omega)
        rw [hx] at hlk
        simp only [Option.map_some, ptV] at hlk
        have kc := (H2.out.mc.cells x (lk_mem hx).1).cell 0 _ rfl
        rw [hv] at kc
        have k2 := H2.out.blk.cell 2 _ rfl
        have HT := Lib.hid (show iv (T.cs.take (i + 1)) = iv (T.cs.take i) ++ [Value.int .i64 (T.cs.getD i 0)] from by
          rw [List.take_add_one, List.getElem?_eq_getElem (by rw [hcl.out]; omega), Option.toList_some, iv_snoc, List.getD_eq_getElem?_getD, List.getElem?_eq_getElem (by rw [hcl.out]; omega)]
          rfl)
        clear hx hv
        generalize T.ns.getD i 0 = z at *
        generalize T.cs.getD i 0 = y at *
        go_wp2_with (at_builtin; refine wpList_append_own _ rfl _ _ 28 rfl w1.heap.size 3 ti (.int .i64 0) 1 8 Try.underlying28 hi hz0 hz1 hz2 rfl (by decide) _ _ _ rfl (hrow.alloc _) ⟨wr.heap.size, 0, none⟩ 1 1 [.int .i64 y] rfl rfl (cell_one_new _ _ _) (by simp [Value.oneCell']) (by unfold maxLen; omega) (by omega) (by simp; omega) ?_; intro v6 w6 hown6 hgrow6 _; obtain ⟨g6, cap6, rfl⟩ := ownsRow_succ hown6; have hb6 := appended_below hrow (by omega) hgrow6)
        go_roundg g
        case measure => omega
        case rel => exact ⟨i + 1, by omega, by go_num, by rw [HT.out]; exact hown6, hb.trans hb6⟩
  · have E := Lib.hid (show T.code = 0 from by rw [hcd.out, if_neg g3])
    have q3 : (st == 3) = false := by simpa using g3
    have q4 : (st != 3) = true := by unfold bne; rw [q3]; rfl
    clear g3 hno hcd
    go_enter Try.func35, Try.ntmps35
    go_wp2_with (go_at_call 33; (with_reducible refine KS.out.mono ?_); rintro _ w1 ⟨rfl, hb1⟩)
    go_ret
    exact ⟨by rw [E.out]; rfl, hb1⟩
end Go.Proofs.Ytodgkjmkjahkiaa
