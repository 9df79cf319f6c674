/- tally: a tally; New, has, State. -/
import Derived.Test.YtodgkjmkjahkiaaT2
namespace Go.Proofs.Ytodgkjmkjahkiaa
open Go.RowKit Go.Maps

/-- What a tally's struct says. -/
structure TaIn (w : World) (p bv bc k : Nat) (T : Tv) (A : Option Addr) (n c : Nat) (V C : List En) : Prop where
  blk : Bk w p 70 #[.slice A n c, .map (some bv), .map (some bc)]
  ints : Il w A n T.ns
  mv : MpAt w bv k 4 V
  mc : MpAt w bc k 3 C
  av : AgV V T.ns T.vs
  ac : AgC C T.ns T.cs
  ok : okN T.ns = true
  ne : bv ≠ bc
/-- A tally in memory. -/
def TalAt (w : World) (p bv bc k : Nat) (T : Tv) : Prop := ∃ A n c V C, TaIn w p bv bc k T A n c V C
theorem MpAt.cell_ne {w : World} {b k : Nat} {t : TypeId} {L : List En} (h : MpAt w b k t L) {a : Addr} {v : Value} (hc : w.cell? a = some v) : a.block ≠ b := by
  rintro rfl
  obtain ⟨D, ⟨es, cl, hb, _⟩, _⟩ := h.own
  unfold World.cell? at hc
  rw [hb] at hc
  cases hc
theorem Il.kept {w w' : World} {A : Option Addr} {n b k : Nat} {t : TypeId} {L : List En} {zs : List Int} (h : Il w A n zs) (hm : MpAt w b k t L) (hg : w.grownBy w' (some b)) : Il w' A n zs := by
  refine ⟨?_, h.len, h.most⟩
  rcases h.ints with e | ⟨ad, e, h1, h2⟩
  · exact .inl e
  · rcases Nat.eq_zero_or_pos zs.length with e0 | e0
    · exact .inl (List.length_eq_zero_iff.1 e0)
    · have hne : ad.block ≠ b := by
        have := hm.cell_ne (h2 0 e0)
        rwa [block_add] at this
      refine .inr ⟨ad, e, Nat.lt_of_lt_of_le h1 hg.size, fun j hj => ?_⟩
      rw [← h2 j hj]
      simp only [World.cell?, block_add]
      rw [hg.block ad.block h1 (by simpa using hne)]
theorem MpAt.other {w w' : World} {b b' k k' : Nat} {t t' : TypeId} {L L' : List En} (h : MpAt w b k t L) (hm : MpAt w b' k' t' L') (hne : b ≠ b') (hg : w.grownBy w' (some b')) : MpAt w' b k t L :=
  h.kept hg (by simpa using hne.symm) (fun x hx e => hm.ne (h.cells x hx) (by simpa using e.symm))
section
variable {w w' : World} {p bv bc k : Nat} {T : Tv}
theorem TaIn.next {A : Option Addr} {n c : Nat} {V C : List En} (h : TaIn w p bv bc k T A n c V C) (hb : Below w.heap.size w w') : TaIn w' p bv bc k T A n c V C :=
  ⟨h.blk.next hb, h.ints.next hb, h.mv.next hb, h.mc.next hb, h.av, h.ac, h.ok, h.ne⟩
theorem TalAt.next (h : TalAt w p bv bc k T) (hb : Below w.heap.size w w') : TalAt w' p bv bc k T := by
  obtain ⟨A, n, c, V, C, h⟩ := h
  exact ⟨A, n, c, V, C, h.next hb⟩
/-- Another tally, while one's map has turned. -/
theorem TalAt.other (h : TalAt w p bv bc k T) {b k' : Nat} {t : TypeId} {L : List En} (hm : MpAt w b k' t L) (h1 : bv ≠ b) (h2 : bc ≠ b) (hg : w.grownBy w' (some b)) : TalAt w' p bv bc k T := by
  obtain ⟨A, n, c, V, C, h⟩ := h
  exact ⟨A, n, c, V, C, h.blk.grown hg (hm.ne h.blk), h.ints.kept hm hg, h.mv.other hm h1 hg, h.mc.other hm h2 hg, h.av, h.ac, h.ok, h.ne⟩
end
theorem vals_bool {V : List En} {ns vs : List Int} (h : AgV V ns vs) (hu : V.Pairwise fun a b => a.n ≠ b.n) : ∀ x ∈ V, ∃ z, x.v = .bool z := by
  intro x hx
  obtain ⟨i, hi, e⟩ := List.getElem_of_mem (h.keys x hx)
  have hg : ns.getD i 0 = x.n := by rw [List.getD_eq_getElem?_getD, List.getElem?_eq_getElem hi]; exact e
  have hl := lk_of_mem hu hx
  rcases h.at_ i hi with ⟨h1, _⟩ | ⟨y, h0, h1⟩
  · rw [hg, hl] at h1; cases h1
  · rw [hg, hl] at h0
    cases h0
    rcases h1 with ⟨h1, _⟩ | ⟨h1, _⟩
    · exact ⟨_, h1⟩
    · exact ⟨_, h1⟩
set_option maxRecDepth 100000 in
set_option maxHeartbeats 1000000 in
theorem thas_any {w : World} {p bv bc k : Nat} {T : Tv} (h : TalAt w p bv bc k T) (x : Int) : Calls Try.prog 63 #[.pointer (some ⟨p, 0, none⟩), .int .i64 x] w fun e w' => e = .returned (.bool (hasB T.ns x)) ∧ w' = w := by
  obtain ⟨A, n, c, V, C, h⟩ := h
  have c0 := h.blk.cell 0 _ rfl
  have K := Lib.hid (has_any A n c T.ns x w h.ints.ints h.ints.len h.ints.most)
  clear h
  go_enter Try.func63, Try.ntmps63
  go_wp2_with (go_at_call 54; (with_reducible refine K.out.mono ?_); rintro y w ⟨rfl, rfl⟩)
  go_ret
  exact ⟨by first | rfl | simp_all, rfl⟩
set_option maxRecDepth 100000 in
theorem thas_nil (x : Int) (w : World) : Calls Try.prog 63 #[.pointer none, .int .i64 x] w fun e w' => e = .returned (.bool false) ∧ w' = w := by
  go_enter Try.func63, Try.ntmps63
  go_wp2
  go_ret
  exact ⟨rfl, rfl⟩
set_option maxRecDepth 100000 in
set_option maxHeartbeats 2000000 in
theorem tnew_any (A : Option Addr) (n cap : Nat) (zs : List Int) (w : World) (h : Il w A n zs) :
    Calls Try.prog 30 #[.slice A n cap] w fun e w' => ((okN zs = false ∧ e = .returned (.pointer none)) ∨ (okN zs = true ∧ ∃ p bv bc, e = .returned (.pointer (some ⟨p, 0, none⟩)) ∧ TalAt w' p bv bc 0 ⟨zs, List.replicate n 0, List.replicate n (-1)⟩ ∧ w.heap.size ≤ p ∧ w.heap.size ≤ bv ∧ w.heap.size ≤ bc)) ∧ Below w.heap.size w w' := by
  have K1 := Lib.hid (tmay_any A n cap zs w h)
  have H := Lib.hid h
  clear h
  cases hok : okN zs
  · rw [hok] at K1
    clear hok
    go_enter Try.func30, Try.ntmps30
    go_wp2_with (go_at_call 55; (with_reducible refine K1.out.mono ?_); rintro y w ⟨rfl, rfl⟩)
    go_ret
    exact ⟨.inl ⟨by first | rfl | trivial, rfl⟩, Below.refl _ _⟩
  · have hl := okN_len hok
    rw [H.out.len] at hl
    have K2 := Lib.hid (clone_any A n cap zs w H.out.ints H.out.len (by omega))
    have HOK := Lib.hid hok
    rw [hok] at K1
    clear hok
    have hmm := @run_makeMap Try.prog
    go_enter Try.func30, Try.ntmps30
    go_wp2_with (first
      | (go_at_call 55; (with_reducible refine K1.out.mono ?_); rintro y w ⟨rfl, rfl⟩)
      | (go_at_call 51; (with_reducible refine K2.out.mono ?_); rintro y w1 ⟨v, rfl, hrow, hb1⟩; obtain ⟨A1, c1, rfl⟩ := own_form hrow))
    have hI := Lib.hid (ints_iv H.out.len hrow)
    have hs1 := hb1.size
    clear hmm
    go_ret
    refine ⟨.inr ⟨by first | rfl | trivial, w1.heap.size + 1 + 1, w1.heap.size, w1.heap.size + 1, by simp, ?_, by omega, by omega, by omega⟩, bmore hb1 (((below_alloc w1 _).alloc (by simp) _).alloc (by simp; omega) _)⟩
    have b1 := below_alloc w1 (.map #[] 0)
    have b2 := below_alloc (w1.alloc (.map #[] 0)) (.map #[] 0)
    have b3 := below_alloc ((w1.alloc (.map #[] 0)).alloc (.map #[] 0)) (.cells #[.slice A1 n c1, .map (some w1.heap.size), .map (some (w1.heap.size + 1))] 70)
    have kb := Bk.new ((w1.alloc (.map #[] 0)).alloc (.map #[] 0)) 70 #[.slice A1 n c1, .map (some w1.heap.size), .map (some (w1.heap.size + 1))]
    rw [size_alloc, size_alloc] at kb
    have m1 : MpAt (w1.alloc (.map #[] 0)) w1.heap.size 0 4 [] := ⟨⟨_, World.ownsMap_made (H := Unit) w1 Try.prog 3 ptE, says_none⟩, (fun x hx => by cases hx), List.Pairwise.nil, (fun x hx => by cases hx)⟩
    have m2 : MpAt ((w1.alloc (.map #[] 0)).alloc (.map #[] 0)) (w1.heap.size + 1) 0 3 [] := ⟨⟨_, by have := World.ownsMap_made (H := Unit) (w1.alloc (.map #[] 0)) Try.prog 3 ptE; rw [size_alloc] at this; exact this, says_none⟩, (fun x hx => by cases hx), List.Pairwise.nil, (fun x hx => by cases hx)⟩
    refine ⟨A1, n, c1, [], [], kb, ⟨((hI.out.next b1).next b2).next b3, H.out.len, by unfold maxLen; omega⟩, (m1.next b2).next b3, m2.next b3, ⟨by simp; exact H.out.len.symm, fun i hi => .inl ⟨rfl, ?_⟩, fun x hx => by cases hx⟩, ⟨by simp; exact H.out.len.symm, fun i hi => .inl ⟨rfl, ?_⟩, fun x hx => by cases hx⟩, HOK.out, by omega⟩
    · rw [H.out.len] at hi; simp [List.getD, hi]
    · rw [H.out.len] at hi; simp [List.getD, hi]
set_option maxRecDepth 100000 in
theorem state_nil (w : World) : Calls Try.prog 33 #[.pointer none] w fun e w' => e = .returned (.int .i64 0) ∧ w' = w := by
  go_enter Try.func33, Try.ntmps33
  go_wp2
  go_ret
  exact ⟨rfl, rfl⟩
set_option maxRecDepth 100000 in
set_option maxHeartbeats 2000000 in
theorem state_any {w : World} {p bv bc k : Nat} {T : Tv} (h : TalAt w p bv bc k T) : Calls Try.prog 33 #[.pointer (some ⟨p, 0, none⟩)] w fun e w' => e = .returned (.int .i64 T.st) ∧ Below w.heap.size w w' := by
  obtain ⟨A, n, c, V, C, h⟩ := h
  have K := Lib.hid (anySaid_any h.mv (vals_bool h.av h.mv.up) false)
  have hnd := okN_nodup h.ok
  have hpos := (okN_iff.1 h.ok).2
  rw [h.ints.len] at hpos
  have e2 := h.av.no h.mv.up
  have e0 := h.av.open_ hnd h.mv.up
  have e1 := h.ac.open_ hnd h.mc.up
  rw [h.ints.len] at e0 e1
  have hst := Lib.hid (show T.st = if anyV V false = true then 2 else if V.length < n then 0 else if C.length < n then 1 else 3 from by
    unfold Tv.st
    rw [e2, e0, e1]
    simp only [decide_eq_true_eq])
  have H := Lib.hid h
  have c0 := h.blk.cell 0 _ rfl
  have c1 := h.blk.cell 1 _ rfl
  have hz : ((n : Int) == 0) = false := by rw [beq_eq_false_iff_ne]; omega
  clear hnd e2 e0 e1 h
  generalize T.st = st at *
  generalize anyV V false = b at *
  cases b
  · go_enter Try.func33, Try.ntmps33
    go_wp2_with (go_at_call 58; (with_reducible refine K.out.mono ?_); rintro y w1 ⟨rfl, hb1⟩)
    have H1 := Lib.hid (H.out.next hb1)
    clear c0 c1
    have hIn := inNonempty w1.heap.size w1
    have c0 := In.cell (B := w1.heap.size) (p := ⟨p, 0, none⟩) H1.out.blk.lt (H1.out.blk.cell 0 _ rfl)
    have c1 := In.cell (B := w1.heap.size) (p := ⟨p, 1, none⟩) H1.out.blk.lt (H1.out.blk.cell 1 _ rfl)
    have s1 := fun m : In w1.heap.size w1 => (H1.out.mv.next m.ok).size Try.underlying67
    refine region_in w1.heap.size (by kernel_rfl) (by kernel_rfl) ?_
    repeat (go_big_quiet_step (fail))
    refine wpQuiet_nil ?_
    intro w2 hb2
    clear c0 c1 s1 hIn
    by_cases hv : V.length < n
    · have hv' : (V.length : Int) < (n : Int) := by omega
      have hT := Lib.hid (show st = 0 from by rw [hst.out, if_neg (by simp), if_pos hv])
      go_wp2
      go_ret
      exact ⟨by rw [hT.out]; rfl, bmore hb1 hb2⟩
    · have hv' : ¬ ((V.length : Int) < (n : Int)) := by omega
      have H2 := Lib.hid (H1.out.next hb2)
      go_wp2
      have hIn := inNonempty w2.heap.size w2
      have c0 := In.cell (B := w2.heap.size) (p := ⟨p, 0, none⟩) H2.out.blk.lt (H2.out.blk.cell 0 _ rfl)
      have c2 := In.cell (B := w2.heap.size) (p := ⟨p, 2, none⟩) H2.out.blk.lt (H2.out.blk.cell 2 _ rfl)
      have s1 := fun m : In w2.heap.size w2 => (H2.out.mc.next m.ok).size Try.underlying68
      refine region_in w2.heap.size (by kernel_rfl) (by kernel_rfl) ?_
      repeat (go_big_quiet_step (fail))
      refine wpQuiet_nil ?_
      intro w3 hb3
      clear c0 c2 s1 hIn
      by_cases hc : C.length < n
      · have hc' : (C.length : Int) < (n : Int) := by omega
        have hT := Lib.hid (show st = 1 from by rw [hst.out, if_neg (by simp), if_neg hv, if_pos hc])
        go_wp2
        go_ret
        exact ⟨by rw [hT.out]; rfl, bmore hb1 (bmore hb2 hb3)⟩
      · have hc' : ¬ ((C.length : Int) < (n : Int)) := by omega
        have hT := Lib.hid (show st = 3 from by rw [hst.out, if_neg (by simp), if_neg hv, if_neg hc])
        go_wp2
        go_ret
        exact ⟨by rw [hT.out]; rfl, bmore hb1 (bmore hb2 hb3)⟩
  · have hT := Lib.hid (show st = 2 from by rw [hst.out]; rfl)
    go_enter Try.func33, Try.ntmps33
    go_wp2_with (go_at_call 58; (with_reducible refine K.out.mono ?_); rintro y w1 ⟨rfl, hb1⟩)
    go_ret
    exact ⟨by rw [hT.out]; rfl, hb1⟩
end Go.Proofs.Ytodgkjmkjahkiaa
