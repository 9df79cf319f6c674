/- AcctBooks: the walk. -/
import Derived.Test.YtahbdhhofppdaaaE2
import Derived.Test.YtahbdhhofppdaaaD1
namespace Go.Proofs.Ytahbdhhofppdaaa
open Go.RowKit Go.Shelf Go.Maps Go.Sort

/-- A book, and the document's. -/
structure Bo (w V : World) (p : Nat) (m : Option Nat) (k : Nat) (L : List (Int × Int)) (q : Nat) (sl : Value) (L' : List (Int × Int)) : Prop where
  a : Lv w V p m k L
  r : RB V q sl L'
  hq : w.heap.size ≤ q
  ne : p ≠ q
section
variable {w V V' : World} {p q k : Nat} {m m1 : Option Nat} {L L' L1 : List (Int × Int)} {sl sl1 : Value}
theorem Bo.next (h : Bo w V p m k L q sl L') (hb : Below V.heap.size V V') : Bo w V' p m k L q sl L' := ⟨h.a.next hb, h.r.next hb, h.hq, h.ne⟩
theorem RB.tn (h : RB V q sl L') (hk : BookAt V p m k L) (ht : Tn V V' p m) (hne : p ≠ q) : RB V' q sl L' := by
  refine ⟨h.blk.tn hk ht hne.symm, h.row.1, ?_⟩
  rcases h.row.2 with h0 | ⟨g, cap, cur, h1, h2, h3, h4⟩
  · exact .inl h0
  · have hg : Bk V g 79 cur := h3
    refine .inr ⟨g, cap, cur, h1, h2, hg.tn hk ht ?_, h4⟩
    rintro rfl
    have e := hk.blk
    unfold Bk at e
    rw [h3] at e
    injection e with e
    injection e with _ e
    cases e
theorem Bo.turn (h : Bo w V p m k L q sl L') (hB : BookAt V' p m1 (k + 1) L1) (ht : Tn V V' p m) (hf : Fresh V m m1) : Bo w V' p m1 (k + 1) L1 q sl L' :=
  ⟨h.a.turn hB ht hf, h.r.tn h.a.book ht h.ne, h.hq, h.ne⟩
theorem Bo.laid (h : Bo w V p m k L q sl L') (hr : RB V' q sl1 L1) (hg : V.grownBy V' (some q)) : Bo w V' p m k L q sl1 L1 := by
  refine ⟨⟨⟨h.a.book.blk.grown hg h.ne, h.a.book.none_, fun b e => ?_, h.a.book.ok⟩, ?_, h.a.hp, h.a.hm⟩, hr, h.hq, h.ne⟩
  · obtain ⟨D, h1, hs⟩ := h.a.book.own b e
    have n1 := not_map h.r.blk h1
    exact ⟨D, h1.kept hg (by simpa using n1.symm), hs⟩
  · have := h.a.low.size
    exact h.a.low.trans ⟨hg.os, hg.tape, hg.output, hg.size, fun i hi => hg.block i (by omega) (fun e => by cases e; have := h.hq; omega)⟩
theorem noteBo (h : Bo w V p m k L q sl L') (hk : k < 1000) (u : Us) : Calls Try.prog 23 #[.pointer (some ⟨p, 0, none⟩), u.v] V fun x V' => ∃ m1, x = .returned (.int .i64 u.e) ∧ Bo w V' p m1 (k + 1) (noted L u) q sl L' := by
  refine (note_any h.a.book u hk).mono ?_
  rintro x V' ⟨m1, rfl, h1, h2, h3⟩
  exact ⟨m1, rfl, h.turn h1 h2 h3⟩
theorem rnoteBo (h : Bo w V p m k L q sl L') (ho : OkL L') (hl : L'.length ≤ 1000) (u : Us) : Calls Try.prog 24 #[.pointer (some ⟨q, 0, none⟩), u.v] V fun x V' => ∃ sl1, x = .returned (.int .i64 u.e) ∧ Bo w V' p m k L q sl1 (noted L' u) := by
  have K := rof_any u.j u.c u.f u.t u.wc u.wr u.wt
  cases e : u.may
  · have e0 : ofE u.j u.c u.f u.t = 1 := by simp [ofE, e]
    rw [e0] at K
    refine (rnote_no q u.j u.c u.f u.t _ V K).mono ?_
    rintro x V' ⟨rfl, hb⟩
    refine ⟨sl, by rw [show u.e = 1 from e0], ?_⟩
    rw [show noted L' u = L' from by simp [noted, e]]
    exact h.next hb
  · have e0 : ofE u.j u.c u.f u.t = 0 := by simp [ofE, e]
    rw [e0] at K
    refine (rnote_ok h.r ho hl u.j u.c u.f u.t _ (ofN_wf _ _ _ _) K).mono ?_
    rintro x V' ⟨sl1, rfl, h1, h2⟩
    refine ⟨sl1, by rw [show u.e = 0 from e0], ?_⟩
    rw [show noted L' u = insB L' u.j u.n from by simp [noted, e]]
    exact h.laid h1 h2
end
theorem undrew {B : Nat} {a w : World} (h : Below B a.drew w) : Below B a w := ⟨h.os, h.tape, h.output, h.size, h.block⟩
/-- What a slice of a job's numbers tells, in short. -/
def KeysN (w : World) (n : Nat) (L : List Int) (e : Ending) (w' : World) : Prop := ∃ A cap, e = .returned (.slice A n cap) ∧ IntsAt w' A L ∧ Below w.heap.size w w'
theorem keysN {w : World} {fn : Nat} {args : Array Value} {L : List (Int × Int)} (h : Calls Try.prog fn args w (Keys w (L.map (·.1)))) : Calls Try.prog fn args w (KeysN w L.length (L.map (·.1))) := by
  refine h.mono ?_
  rintro e w' ⟨v, rfl, hrow, hb⟩
  obtain ⟨A, cap, rfl⟩ := own_form hrow
  exact ⟨A, cap, by rw [List.length_map], ints_iv rfl hrow, hb⟩
set_option maxRecDepth 100000 in
set_option maxHeartbeats 4000000 in
theorem acctBooks_any (A : Option Addr) (n cap : Nat) (os : List Us) (w : World) (hs : Scr w A os) (hn : os.length = n) (hm : n ≤ maxLen) :
    Calls Try.prog 4 #[.slice A n cap] w fun x w' => x = .returned (.bool true) ∧ Below w.heap.size w w' := by
  unfold maxLen at hm
  have HN := Lib.hid hn
  have HS := Lib.hid hs
  clear hn hs
  go_enter Try.func4, Try.ntmps4
  go_wp2_with fail
  refine (new_any _).mono ?_
  rintro x w1 ⟨p, rfl, hp, hB, hb⟩
  have la : Lv w w1 p none 0 [] := ⟨hB, hb, hp, fun b e => by cases e⟩
  clear hB hb hp
  by_cases h60 : 60 < n
  · go_wp2_with fail
    refine (live_any _).mono ?_
    rintro x w3 ⟨rfl, hb⟩
    go_wp2_with fail
    go_ret
    exact ⟨rfl, bmore la.low hb⟩
  have st : Bo w (w1.alloc (.cells #[.slice none 0 0] 39)) p none 0 [] w1.heap.size (.slice none 0 0) [] :=
    ⟨la.next (below_alloc _ _), ⟨Bk.new _ _ _, World.ownsRow_nil _ _ _ _⟩, la.low.size, by have := la.book.blk.lt; omega⟩
  clear la
  go_wp2_with fail
  generalize w1.alloc (.cells #[.slice none 0 0] 39) = W at *
  generalize w1.heap.size = q at *
  go_loopw [5] (fun iv wr => ∃ (i : Nat) (m : Option Nat) (sl : Value), i ≤ n ∧ iv = .int .i64 (i : Int) ∧ Bo w wr p m i (upTo os i) q sl (upTo os i)) (fun iv _ => n - (intOf iv).toNat)
  case atStart => exact ⟨0, none, _, Nat.zero_le _, rfl, st⟩
  case round =>
    clear st
    obtain ⟨i, m, sl, hi, rfl, st⟩ := hrel
    by_cases hlt : i < n
    · obtain ⟨ad, o, rfl, ho, hu⟩ := HS.out.still (i := i) (by rw [HN.out]; exact hlt)
      have HL := Lib.hid (upTo_succ ho)
      have HU := Lib.hid hu
      clear hu ho
      have hok := Lib.hid (upTo_ok os i)
      have hl1 := upTo_len os i
      have hl3 := noted_len (upTo os i) o
      generalize upTo os i = La at *
      have hok1 := Lib.hid (hok.out.noted o)
      rw [← HL.out] at hl3 hok1
      have KO := Lib.hid (own_any o.j o.c o.f o.t)
      have KN := Lib.hid (fun V (h : Bo w V p m i La q sl La) => noteBo h (by omega) o)
      have KR := Lib.hid (fun V m1 (h : Bo w V p m1 (i + 1) (noted La o) q sl La) => rnoteBo h hok.out (by omega) o)
      rw [← HL.out] at KN KR
      generalize eL : upTo os (i + 1) = L1 at *
      have HE := Lib.hid eL
      clear eL HL
      have K25 := Lib.hid (fun V m1 sl1 (h : Bo w V p m1 (i + 1) L1 q sl1 L1) => job_any h.a.book o.wj)
      have K26 := Lib.hid (fun V m1 sl1 (h : Bo w V p m1 (i + 1) L1 q sl1 L1) => rjob_any h.r (by omega) o.j)
      have K27 := Lib.hid (fun V m1 sl1 (h : Bo w V p m1 (i + 1) L1 q sl1 L1) => all_any h.a.book (by omega))
      have K28 := Lib.hid (fun V m1 sl1 (h : Bo w V p m1 (i + 1) L1 q sl1 L1) => rall_any h.r hok1.out (by omega))
      have K30 := Lib.hid (fun V m1 sl1 (h : Bo w V p m1 (i + 1) L1 q sl1 L1) => keysN (jobs_any h.a.book (by omega)))
      have K31 := Lib.hid (fun V m1 sl1 (h : Bo w V p m1 (i + 1) L1 q sl1 L1) => keysN (rjobs_any h.r (by omega)))
      have K29 := Lib.hid (fun A1 A2 c1 c2 V (z1 : IntsAt V A1 (L1.map (·.1))) (z2 : IntsAt V A2 (L1.map (·.1))) => same_eq A1 A2 c1 c2 L1.length _ V z1 z2 (List.length_map _) (by unfold maxLen; omega))
      generalize jobS L1 o.j = xj at *
      generalize allS L1 = xa at *
      generalize L1.length = ln at *
      have i0 : (0 : Int) ≤ (i : Int) := by omega
      have i1 : (i : Int) < (n : Int) := by omega
      obtain ⟨c0, c1, c2, c3⟩ := HU.out _ st.a.low
      go_wp2_with fail
      go_region_held3 (fun W => W.cell? (ad.add (i * 4)) = some (.int .i64 o.j) ∧ W.cell? ⟨(ad.add (i * 4)).block, (ad.add (i * 4)).off + 1, none⟩ = some (.int .i64 o.c) ∧ W.cell? ⟨(ad.add (i * 4)).block, (ad.add (i * 4)).off + 2, none⟩ = some (.int .i64 o.f) ∧ W.cell? ⟨(ad.add (i * 4)).block, (ad.add (i * 4)).off + 3, none⟩ = some (.int .i64 o.t))
        (first | exact ⟨c0, c1, c2, c3⟩)
        (first
          | (go_at_call 15; (with_reducible refine (KO.out _).mono ?_); rintro x wn ⟨rfl, hbn⟩; (first | replace hbn := undrew hbn | skip); replace st := st.next hbn; clear hbn; obtain ⟨d0, d1, d2, d3⟩ := HU.out _ st.a.low; replace c0 := d0; replace c1 := d1; replace c2 := d2; replace c3 := d3; clear d0 d1 d2 d3)
          | (go_at_call 23; (with_reducible refine (KN.out _ st).mono ?_); rintro x wn ⟨m1, rfl, st1⟩; clear st; obtain ⟨d0, d1, d2, d3⟩ := HU.out _ st1.a.low; replace c0 := d0; replace c1 := d1; replace c2 := d2; replace c3 := d3; clear d0 d1 d2 d3)
          | (go_at_call 24; (with_reducible refine (KR.out _ m1 st1).mono ?_); rintro x wn ⟨sl1, rfl, st2⟩; clear st1; obtain ⟨d0, d1, d2, d3⟩ := HU.out _ st2.a.low; replace c0 := d0; replace c1 := d1; replace c2 := d2; replace c3 := d3; clear d0 d1 d2 d3)
          | (go_at_call 25; (with_reducible refine (K25.out _ m1 sl1 st2).mono ?_); rintro x wn ⟨rfl, rfl⟩)
          | (go_at_call 26; (with_reducible refine (K26.out _ m1 sl1 st2).mono ?_); rintro x wn ⟨rfl, rfl⟩)
          | (go_at_call 27; (with_reducible refine (K27.out _ m1 sl1 st2).mono ?_); rintro x wn ⟨rfl, hbn⟩; replace st2 := st2.next hbn; clear hbn; obtain ⟨d0, d1, d2, d3⟩ := HU.out _ st2.a.low; replace c0 := d0; replace c1 := d1; replace c2 := d2; replace c3 := d3; clear d0 d1 d2 d3)
          | (go_at_call 28; (with_reducible refine (K28.out _ m1 sl1 st2).mono ?_); rintro x wn ⟨rfl, rfl⟩)
          | (go_at_call 30; (with_reducible refine (K30.out _ m1 sl1 st2).mono ?_); rintro x wn ⟨A1, ca1, rfl, z1, hbn⟩; replace st2 := st2.next hbn; clear hbn; obtain ⟨d0, d1, d2, d3⟩ := HU.out _ st2.a.low; replace c0 := d0; replace c1 := d1; replace c2 := d2; replace c3 := d3; clear d0 d1 d2 d3)
          | (go_at_call 31; (with_reducible refine (K31.out _ m1 sl1 st2).mono ?_); rintro x wn ⟨A2, ca2, rfl, z2, hbn⟩; replace st2 := st2.next hbn; replace z1 := z1.next hbn; clear hbn; obtain ⟨d0, d1, d2, d3⟩ := HU.out _ st2.a.low; replace c0 := d0; replace c1 := d1; replace c2 := d2; replace c3 := d3; clear d0 d1 d2 d3)
          | (go_at_call 29; (with_reducible refine (K29.out A1 A2 ca1 ca2 _ z1 z2).mono ?_); rintro x wn ⟨rfl, hbn⟩; replace st2 := st2.next hbn; clear hbn z1 z2; obtain ⟨d0, d1, d2, d3⟩ := HU.out _ st2.a.low; replace c0 := d0; replace c1 := d1; replace c2 := d2; replace c3 := d3; clear d0 d1 d2 d3))
      all_goals
        clear c0 c1 c2 c3
        go_wp2_with fail
        go_roundw
        case rel => exact ⟨i + 1, m1, sl1, by omega, by go_num, by rw [HE.out]; exact st2⟩
        case measure => simp [intOf]; omega
    · obtain rfl : i = n := by omega
      go_wp2_with fail
      refine (live_any _).mono ?_
      rintro x w3 ⟨rfl, hb⟩
      go_wp2_with fail
      go_ret
      exact ⟨rfl, bmore st.a.low hb⟩
end Go.Proofs.Ytahbdhhofppdaaa
