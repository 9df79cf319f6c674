/- AcctRises: the walk. -/
import Derived.Test.YtahbdhhofppdaaaB6
import Derived.Test.YtahbdhhofppdaaaP0
namespace Go.Proofs.Ytahbdhhofppdaaa
open Go.RowKit Go.Shelf Go.Maps Go.Sort

/-- Two books, of one's own each. -/
structure Two (w V : World) (p : Nat) (m : Option Nat) (k : Nat) (L : List (Int × Int)) (p' : Nat) (m' : Option Nat) (k' : Nat) (L' : List (Int × Int)) : Prop where
  a : Lv w V p m k L
  b : Lv w V p' m' k' L'
  ne : p ≠ p'
  far : ∀ x, m = some x → m' ≠ some x
section
variable {w V V' : World} {p p' k k' : Nat} {m m' m1 : Option Nat} {L L' L1 : List (Int × Int)}
theorem Two.next (h : Two w V p m k L p' m' k' L') (hb : Below V.heap.size V V') : Two w V' p m k L p' m' k' L' := ⟨h.a.next hb, h.b.next hb, h.ne, h.far⟩
theorem Two.swap (h : Two w V p m k L p' m' k' L') : Two w V p' m' k' L' p m k L := ⟨h.b, h.a, h.ne.symm, fun x e e' => h.far x e' e⟩
theorem BookAt.tn (h : BookAt V p' m' k' L') (hk : BookAt V p m k L) (ht : Tn V V' p m) (hne : p ≠ p') (far : ∀ x, m = some x → m' ≠ some x) : BookAt V' p' m' k' L' :=
  ⟨h.blk.tn hk ht hne.symm, h.none_, fun b e => by
    obtain ⟨D, h1, hs⟩ := h.own b e
    have n1 := not_map hk.blk h1
    obtain ⟨es, cl, q1, q2⟩ := h1
    exact ⟨D, ⟨es, cl, (ht.block b (h.lt e) n1.symm (fun e' => far b e' e)).trans q1, q2⟩, hs⟩, h.ok⟩
theorem Two.turn (h : Two w V p m k L p' m' k' L') (hB : BookAt V' p m1 (k + 1) L1) (ht : Tn V V' p m) (hf : Fresh V m m1) : Two w V' p m1 (k + 1) L1 p' m' k' L' := by
  have a1 := h.a.turn hB ht hf
  refine ⟨a1, ⟨h.b.book.tn h.a.book ht h.ne h.far, a1.low, h.b.hp, h.b.hm⟩, h.ne, fun x e e' => ?_⟩
  rcases hf with rfl | ⟨_, b, rfl, hb⟩
  · exact h.far x e e'
  · cases e
    have := h.b.book.lt e'
    omega
theorem noteA (h : Two w V p m k L p' m' k' L') (hk : k < 1000) (u : Us) : Calls Try.prog 23 #[.pointer (some ⟨p, 0, none⟩), u.v] V fun x V' => ∃ m1, x = .returned (.int .i64 u.e) ∧ Two w V' p m1 (k + 1) (noted L u) p' m' k' L' := by
  refine (note_any h.a.book u hk).mono ?_
  rintro x V' ⟨m1, rfl, h1, h2, h3⟩
  exact ⟨m1, rfl, h.turn h1 h2 h3⟩
theorem noteB (h : Two w V p m k L p' m' k' L') (hk : k' < 1000) (u : Us) : Calls Try.prog 23 #[.pointer (some ⟨p', 0, none⟩), u.v] V fun x V' => ∃ m1, x = .returned (.int .i64 u.e) ∧ Two w V' p m k L p' m1 (k' + 1) (noted L' u) := by
  refine (noteA h.swap hk u).mono ?_
  rintro x V' ⟨m1, rfl, h1⟩
  exact ⟨m1, rfl, h1.swap⟩
end
theorem fold_len (l : List Us) (L : List (Int × Int)) : (l.foldl noted L).length ≤ L.length + l.length := by
  induction l generalizing L with
  | nil => simp
  | cons u r ih =>
    have h1 := ih (noted L u)
    have h2 := noted_len L u
    simp only [List.foldl_cons, List.length_cons]
    omega
/-- What is noted of the first i. -/
def upTo (os : List Us) (i : Nat) : List (Int × Int) := (os.take i).foldl noted []
theorem upTo_succ {os : List Us} {i : Nat} {o : Us} (h : os[i]? = some o) : upTo os (i + 1) = noted (upTo os i) o := by
  unfold upTo
  rw [List.take_add_one, h, Option.toList_some, List.foldl_append]; rfl
theorem upTo_len (os : List Us) (i : Nat) : (upTo os i).length ≤ i := by
  have := fold_len (os.take i) []
  unfold upTo
  rw [List.length_take] at this
  simp at this
  omega
theorem upTo_ok (os : List Us) (i : Nat) : OkL (upTo os i) := fold_ok _ OkL.nil
theorem rev_at {os : List Us} {n i : Nat} {o : Us} (hn : os.length = n) (hi : i < n) (h : os[n - 1 - i]? = some o) : os.reverse[i]? = some o := by
  rw [List.getElem?_reverse (by omega), hn]
  exact h
theorem upTo_all {os : List Us} {n : Nat} (hn : os.length = n) : upTo os.reverse n = upTo os n := by
  unfold upTo
  rw [List.take_of_length_le (by simp; omega), List.take_of_length_le (by omega), fold_rev]
theorem job_q {w : World} {p k : Nat} {m : Option Nat} {L : List (Int × Int)} (h : BookAt w p m k L) {n : Int} (hn : wf n) : Calls Try.prog 25 #[.pointer (some ⟨p, 0, none⟩), .int .i64 n] w fun e w' => e = .returned (.int .i64 (jobS L n)) ∧ w' = w := (job_any h hn).mono fun _ _ h => ⟨h.1, h.2.symm⟩
abbrev Cl (V : World) (fn : Nat) (args : Array Value) (v : Int) : Prop := Calls Try.prog fn args V fun x w' => x = .returned (.int .i64 v) ∧ Below V.heap.size V w'
set_option maxRecDepth 100000 in
set_option maxHeartbeats 4000000 in
theorem acctRises_any (A : Option Addr) (n cap : Nat) (os : List Us) (w : World) (hs : Scr w A os) (hn : os.length = n) (hm : n ≤ maxLen) :
    Calls Try.prog 5 #[.slice A n cap] w fun x w' => x = .returned (.bool true) ∧ Below w.heap.size w w' := by
  unfold maxLen at hm
  have HN := Lib.hid hn
  have HS := Lib.hid hs
  clear hn hs
  go_enter Try.func5, Try.ntmps5
  go_wp2_with fail
  refine (new_any _).mono ?_
  rintro x w1 ⟨p, rfl, hp, hB, hb⟩
  have la : Lv w w1 p none 0 [] := ⟨hB, hb, hp, fun b e => by cases e⟩
  clear hB hb hp
  go_wp2_with fail
  refine (new_any _).mono ?_
  rintro x w2 ⟨p', rfl, hp, hB, hb⟩
  have hpl := la.book.blk.lt
  have hsz := la.low.size
  have st : Two w w2 p none 0 [] p' none 0 [] := ⟨la.next hb, ⟨hB, bmore la.low hb, by omega, fun b e => by cases e⟩, by omega, fun x e => by cases e⟩
  clear hB hb hp la hpl hsz
  by_cases h60 : 60 < n
  · go_wp2_with fail
    refine (live_any _).mono ?_
    rintro x w3 ⟨rfl, hb⟩
    go_wp2_with fail
    go_ret
    exact ⟨rfl, bmore st.a.low hb⟩
  go_wp2_with fail
  go_loopw [5] (fun iv wr => ∃ (i : Nat) (m m' : Option Nat), i ≤ n ∧ iv = .int .i64 (i : Int) ∧ Two w wr p m i (upTo os i) p' m' i (upTo os.reverse i)) (fun iv _ => n - (intOf iv).toNat)
  case atStart => exact ⟨0, none, none, Nat.zero_le _, rfl, st⟩
  case round =>
    clear st
    obtain ⟨i, m, m', hi, rfl, st⟩ := hrel
    by_cases hlt : i < n
    · obtain ⟨ad, o, rfl, ho, hu⟩ := HS.out.still (i := i) (by rw [HN.out]; exact hlt)
      obtain ⟨ad', o', e1, ho', hu'⟩ := HS.out.still (i := n - 1 - i) (by rw [HN.out]; omega)
      cases e1
      have HL := Lib.hid (upTo_succ ho)
      have HL' := Lib.hid (upTo_succ (rev_at HN.out hlt ho'))
      have HU := Lib.hid hu
      have HU' := Lib.hid hu'
      clear hu hu' ho ho'
      have hok := Lib.hid (upTo_ok os i)
      have hl1 := upTo_len os i
      have hl2 := upTo_len os.reverse i
      have G1 := Lib.hid (noted_all hok.out o)
      have G2 := Lib.hid (noted_job hok.out o)
      have G3 := Lib.hid (allS_wf (hok.out.noted o)).1
      have hl3 := noted_len (upTo os i) o
      generalize upTo os i = La at *
      generalize upTo os.reverse i = Lb at *
      have i0 : (0 : Int) ≤ (i : Int) := by omega
      have i1 : (i : Int) < (n : Int) := by omega
      have K := Lib.hid (all_any st.a.book (by omega))
      go_wp2_with fail
      refine K.out.mono ?_
      rintro x w3 ⟨rfl, hb⟩
      replace st := st.next hb
      clear hb K
      have c := HU.out _ st.a.low
      obtain ⟨c0, c1, c2, c3⟩ := c
      go_wp2_with fail
      refine (job_any st.a.book o.wj).mono ?_
      rintro x w4 ⟨rfl, rfl⟩
      go_wp2_with fail
      refine (own_any o.j o.c o.f o.t _).mono ?_
      rintro x w4 ⟨rfl, hb⟩
      replace st := st.next hb
      clear hb c0 c1 c2 c3
      go_wp2_with fail
      refine (noteA st (by omega) o).mono ?_
      rintro x w5 ⟨m1, rfl, st⟩
      rw [← HL.out] at st G1 G2 G3 hl3
      generalize eL : upTo os (i + 1) = La1 at *
      have HE := Lib.hid eL
      clear eL HL
      have K := Lib.hid (all_any st.a.book (by omega))
      go_wp2_with fail
      refine K.out.mono ?_
      rintro x w6 ⟨rfl, hb⟩
      replace st := st.next hb
      clear hb K
      obtain ⟨c0, c1, c2, c3⟩ := HU.out _ st.a.low
      have g1 := G1.out
      have g2 := G2.out
      have g3 := G3.out
      generalize ea : allS La = xa at *
      generalize ej : jobS La o.j = xj at *
      have K2 := Lib.hid (job_any st.a.book o.wj)
      have K3 := Lib.hid (fun V (h : Two w V p m1 (i + 1) La1 p' m' i Lb) => all_any h.a.book (by omega))
      generalize eb : allS La1 = ya at *
      generalize ek : jobS La1 o.j = yj at *
      clear ea ej eb ek
      go_wp2_with fail
      refine K2.out.mono ?_
      rintro x w7 ⟨rfl, rfl⟩
      go_wp2_with fail
      refine (K3.out _ st).mono ?_
      rintro x w7 ⟨rfl, hb⟩
      replace st := st.next hb
      clear hb K2 K3 c0 c1 c2 c3
      obtain ⟨c0, c1, c2, c3⟩ := HU'.out _ st.a.low
      have hij : (n : Int) - 1 - (i : Int) = ((n - 1 - i : Nat) : Int) := by omega
      have j0 : (0 : Int) ≤ ((n - 1 - i : Nat) : Int) := by omega
      have j1 : ((n - 1 - i : Nat) : Int) < (n : Int) := by omega
      generalize n - 1 - i = r at *
      go_wp2_with fail
      refine (own_any o'.j o'.c o'.f o'.t _).mono ?_
      rintro x w8 ⟨rfl, hb⟩
      replace st := st.next hb
      clear hb c0 c1 c2 c3
      go_wp2_with fail
      refine (noteB st (by omega) o').mono ?_
      rintro x w9 ⟨m1', rfl, st⟩
      rw [← HL'.out, ← HE.out] at st
      go_wp2_with fail
      go_roundw
      case rel => exact ⟨i + 1, m1, m1', by omega, by go_num, st⟩
      case measure => simp [intOf]; omega
    · obtain rfl : i = n := by omega
      rw [upTo_all HN.out] at st
      have hl1 := upTo_len os i
      generalize upTo os i = La at *
      clear hlt
      go_wp2_with fail
      go_loopw [8] (fun iv wr => ∃ (q : Nat), q ≤ i ∧ iv = .int .i64 (q : Int) ∧ Two w wr p m i La p' m' i La) (fun iv _ => i - (intOf iv).toNat)
      case atStart => exact ⟨0, Nat.zero_le _, rfl, st⟩
      case round =>
        clear st
        obtain ⟨q, hq, rfl, st⟩ := hrel
        by_cases hlt : q < i
        · obtain ⟨ad, o, rfl, ho, hu⟩ := HS.out.still (i := q) (by rw [HN.out]; exact hlt)
          have HU := Lib.hid hu
          clear hu ho
          have i0 : (0 : Int) ≤ (q : Int) := by omega
          have i1 : (q : Int) < (i : Int) := by omega
          go_wp2_with fail
          refine region_still (by kernel_rfl) (by kernel_rfl) (fun w5 hw5 => ?_)
          have st5 := st.next (V' := w5) (below_hid (Below.refl _ _) hw5)
          clear hw5 st
          obtain ⟨c0, c1, c2, c3⟩ := HU.out _ st5.a.low
          have JA := Lib.hid (job_q st5.a.book o.wj)
          have JB := Lib.hid (job_q st5.b.book o.wj)
          generalize jobS La o.j = xj at *
          iterate 6 still_step
          still_call JA.out
          iterate 6 still_step
          still_call JB.out
          still_step
          refine wpStill_nil ?_
          clear c0 c1 c2 c3
          go_wp2_with fail
          go_roundw
          case rel => exact ⟨q + 1, by omega, by go_num, st5⟩
          case measure => simp [intOf]; omega
        · obtain rfl : q = i := by omega
          have K := Lib.hid (all_any st.a.book (by omega))
          go_wp2_with fail
          refine K.out.mono ?_
          rintro x w3 ⟨rfl, hb⟩
          replace st := st.next hb
          clear hb K
          have K := Lib.hid (all_any st.b.book (by omega))
          go_wp2_with fail
          refine K.out.mono ?_
          rintro x w4 ⟨rfl, hb⟩
          replace st := st.next hb
          clear hb K
          generalize allS La = xa at *
          go_wp2_with fail
          refine (jobs_any st.a.book (by omega)).mono ?_
          rintro x w5 ⟨v, rfl, hrow, hb⟩
          replace st := st.next hb
          obtain ⟨A1, cap1, rfl⟩ := own_form hrow
          have z1 := ints_iv rfl hrow
          clear hb hrow
          go_wp2_with fail
          refine (jobs_any st.b.book (by omega)).mono ?_
          rintro x w6 ⟨v, rfl, hrow, hb⟩
          replace st := st.next hb
          replace z1 := z1.next hb
          obtain ⟨A2, cap2, rfl⟩ := own_form hrow
          have z2 := ints_iv rfl hrow
          clear hb hrow
          have KS := Lib.hid (same_eq A1 A2 cap1 cap2 La.length _ w6 z1 z2 (List.length_map _) (by unfold maxLen; omega))
          clear z1 z2
          go_wp2_with fail
          refine KS.out.mono ?_
          rintro x w7 ⟨rfl, hb⟩
          replace st := st.next hb
          clear hb KS
          go_wp2_with fail
          refine (live_any _).mono ?_
          rintro x w8 ⟨rfl, hb⟩
          go_wp2_with fail
          go_ret
          exact ⟨rfl, bmore st.a.low hb⟩
end Go.Proofs.Ytahbdhhofppdaaa
