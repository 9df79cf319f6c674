/- The document's table: Exit, Signal. -/
import Derived.Test.YtjolkcomlindhaaGQ4xR1xR2
namespace Go.Proofs.Ytjolkcomlindhaa
open Go.RowKit Go.Shelf Go.Maps Go.Sort

section
variable {V : World} {r : Nat} {vL vS : Value} {ND : Int} {Q : List Pr} {S : List Int}
theorem set_get {Q : List Pr} {i : Nat} {x x' : Pr} (h : Q[i]? = some x) : (Q.set i x')[i]? = some x' := by
  have hi := (List.getElem?_eq_some_iff.1 h).1
  rw [List.getElem?_set, if_pos rfl, if_pos hi]
set_option maxRecDepth 100000 in
set_option maxHeartbeats 4000000 in
theorem rexi_any (h : RT V r vL vS ND Q S) (hl : Q.length ≤ 300) (pid c : Int) :
    Calls Try.prog 52 #[.pointer (some ⟨r, 0, none⟩), .int .i64 pid, .int .i64 c] V fun e w' => (∃ er : Int, e = .returned (.int .i64 er)) ∧ ROut V w' r vL vS Q := by
  have KA := Lib.hid (at_any h hl pid)
  have H := Lib.hid h
  clear h
  go_enter Try.func52, Try.ntmps52
  go_wp2_with fail
  refine KA.out.mono ?_
  rintro _ w1 ⟨hA, rfl⟩
  rcases hA with rfl | ⟨i, x, hx, rfl⟩
  · go_wp2_with fail
    go_ret
    exact ⟨⟨_, rfl⟩, ROut.same H.out⟩
  · obtain ⟨g, cap, g3, cap3, rfl, rfl⟩ := H.out.some_ hx
    have hi := (List.getElem?_eq_some_iff.1 hx).1
    have c0 := H.out.blk.cell 0 _ rfl
    have a6 := H.out.cell hx (j := 6) (by decide) rfl
    have f6 := H.out.frL (i * 8 + 6)
    have HX := Lib.hid hx
    clear hx
    have t0 : decide ((i : Int) < 0) = false := by simp
    have p0 : (0 : Int) ≤ (i : Int) := by omega
    have p1 : (i : Int) < (Q.length : Int) := by omega
    cases u0 : decide (c < 0)
    · cases u1 : decide (255 < c)
      · by_cases e : x.st = 1
        · have t1 : (x.st != 1) = false := by simpa using e
          clear e
          have HR := Lib.hid (H.out.setL HX.out { x with st := 2 } (j := 6) (by decide) (.int .i64 2) rfl rfl rfl)
          have HR2 := Lib.hid (HR.out.setL (set_get HX.out) { x with st := 2, code := c } (j := 7) (by decide) (.int .i64 c) rfl rfl rfl)
          have c0' := HR.out.blk.cell 0 _ rfl
          have a7 := HR.out.cell (set_get HX.out) (j := 7) (by decide) rfl
          have f7 := HR.out.frL (i * 8 + 7)
          go_wp2_with fail
          go_ret
          exact ⟨⟨_, rfl⟩, _, _, ND, _, S, HR2.out, (Td.set _ (.inr (.inl rfl)) _).trans (Td.set _ (.inr (.inl rfl)) _), fun g e => .inl e, by rw [List.length_set, List.length_set]; omega⟩
        · have t1 : (x.st != 1) = true := by simpa using e
          clear e
          go_wp2_with fail
          go_ret
          exact ⟨⟨_, rfl⟩, ROut.same H.out⟩
      · go_wp2_with fail
        go_ret
        exact ⟨⟨_, rfl⟩, ROut.same H.out⟩
    · go_wp2_with fail
      go_ret
      exact ⟨⟨_, rfl⟩, ROut.same H.out⟩
set_option maxRecDepth 100000 in
set_option maxHeartbeats 4000000 in
theorem rsig_any (h : RT V r vL vS ND Q S) (hl : Q.length ≤ 300) (pid sg : Int) :
    Calls Try.prog 51 #[.pointer (some ⟨r, 0, none⟩), .int .i64 pid, .int .i64 sg] V fun e w' => (∃ er : Int, e = .returned (.int .i64 er)) ∧ ROut V w' r vL vS Q := by
  have KA := Lib.hid (at_any h hl pid)
  have H := Lib.hid h
  clear h
  go_enter Try.func51, Try.ntmps51
  go_wp2_with fail
  refine KA.out.mono ?_
  rintro _ w1 ⟨hA, rfl⟩
  rcases hA with rfl | ⟨i, x, hx, rfl⟩
  · go_wp2_with fail
    go_ret
    exact ⟨⟨_, rfl⟩, ROut.same H.out⟩
  · obtain ⟨g, cap, g3, cap3, rfl, rfl⟩ := H.out.some_ hx
    have hi := (List.getElem?_eq_some_iff.1 hx).1
    obtain ⟨z, ez⟩ : ∃ z, S[i]? = some z := ⟨_, List.getElem?_eq_getElem (by rw [H.out.ls]; exact hi)⟩
    have c0 := H.out.blk.cell 0 _ rfl
    have c1 := H.out.blk.cell 1 _ rfl
    have a6 := H.out.cell hx (j := 6) (by decide) rfl
    have f6 := H.out.frL (i * 8 + 6)
    have s0 := H.out.sig ez
    have fs := H.out.frS i
    have HX := Lib.hid hx
    have HZ := Lib.hid ez
    clear hx ez
    have t0 : decide ((i : Int) < 0) = false := by simp
    have p0 : (0 : Int) ≤ (i : Int) := by omega
    have p1 : (i : Int) < (Q.length : Int) := by omega
    by_cases hsg : sg = 15 ∨ sg = 9
    case neg =>
      have u0 : (sg != 15) = true := by simpa using fun e => hsg (.inl e)
      have u1 : (sg != 9) = true := by simpa using fun e => hsg (.inr e)
      clear hsg
      go_wp2_with fail
      go_ret
      exact ⟨⟨_, rfl⟩, ROut.same H.out⟩
    case pos =>
    by_cases e2 : x.st = 2
    · have t2 : (x.st == 2) = true := by simpa using e2
      clear e2
      rcases hsg with rfl | rfl
      all_goals
        go_wp2_with fail
        go_ret
        exact ⟨⟨_, rfl⟩, ROut.same H.out⟩
    have t2 : (x.st == 2) = false := by simpa using e2
    clear e2
    by_cases e9 : z = 9
    · have t9 : (z != 9) = false := by simpa using e9
      clear e9
      rcases hsg with rfl | rfl
      · cases t3 : x.st == 0
        all_goals
          go_wp2_with fail
          go_ret
          exact ⟨⟨_, rfl⟩, ROut.same H.out⟩
      · cases t3 : x.st == 0
        · go_wp2_with fail
          go_ret
          exact ⟨⟨_, rfl⟩, ROut.same H.out⟩
        · have HR := Lib.hid (H.out.setL HX.out { x with st := 2 } (j := 6) (by decide) (.int .i64 2) rfl rfl rfl)
          have HR2 := Lib.hid (HR.out.setL (set_get HX.out) { x with st := 2, code := 137 } (j := 7) (by decide) (.int .i64 137) rfl rfl rfl)
          have c0' := HR.out.blk.cell 0 _ rfl
          have f7 := HR.out.frL (i * 8 + 7)
          have a7 := HR.out.cell (set_get HX.out) (j := 7) (by decide) rfl
          have c1'' := HR2.out.blk.cell 1 _ rfl
          have s0'' := HR2.out.sig HZ.out
          have fs'' := HR2.out.frS i
          go_wp2_with fail
          go_ret
          exact ⟨⟨_, rfl⟩, _, _, ND, _, S, HR2.out, (Td.set _ (.inr (.inl rfl)) _).trans (Td.set _ (.inr (.inl rfl)) _), fun g e => .inl e, by rw [List.length_set, List.length_set]; omega⟩
    · have t9 : (z != 9) = true := by simpa using e9
      clear e9
      rcases hsg with rfl | rfl
      · have HS := Lib.hid (H.out.setS i 15)
        cases t3 : x.st == 0
        all_goals
          go_wp2_with fail
          go_ret
          exact ⟨⟨_, rfl⟩, _, _, ND, _, _, HS.out, Td.set _ (.inr (.inr rfl)) _, fun g e => .inl e, by omega⟩
      · cases t3 : x.st == 0
        · have HS := Lib.hid (H.out.setS i 9)
          go_wp2_with fail
          go_ret
          exact ⟨⟨_, rfl⟩, _, _, ND, _, _, HS.out, Td.set _ (.inr (.inr rfl)) _, fun g e => .inl e, by omega⟩
        · have HR := Lib.hid (H.out.setL HX.out { x with st := 2 } (j := 6) (by decide) (.int .i64 2) rfl rfl rfl)
          have HR2 := Lib.hid (HR.out.setL (set_get HX.out) { x with st := 2, code := 137 } (j := 7) (by decide) (.int .i64 137) rfl rfl rfl)
          have c0' := HR.out.blk.cell 0 _ rfl
          have f7 := HR.out.frL (i * 8 + 7)
          have a7 := HR.out.cell (set_get HX.out) (j := 7) (by decide) rfl
          have c1'' := HR2.out.blk.cell 1 _ rfl
          have s0'' := HR2.out.sig HZ.out
          have fs'' := HR2.out.frS i
          have HS := Lib.hid (HR2.out.setS i 9)
          go_wp2_with fail
          go_ret
          exact ⟨⟨_, rfl⟩, _, _, ND, _, _, HS.out, ((Td.set _ (.inr (.inl rfl)) _).trans (Td.set _ (.inr (.inl rfl)) _)).trans (Td.set _ (.inr (.inr rfl)) _), fun g e => .inl e, by rw [List.length_set, List.length_set]; omega⟩
end
end Go.Proofs.Ytjolkcomlindhaa
/- The document's table: Reap. -/
namespace Go.Proofs.Ytjolkcomlindhaa
open Go.RowKit Go.Shelf Go.Maps Go.Sort

/-- The first of a list, but for one. -/
def dI {α : Type} (l : List α) (i k : Nat) : List α := (l.take k).eraseIdx i
theorem dI_eq {α : Type} (l : List α) (i : Nat) (hi : i < l.length) : dI l i (i + 1) = dI l i i := by
  unfold dI
  have h1 : (l.take i).length = i := by rw [List.length_take]; omega
  have e1 : (l.take i ++ [l[i]]).eraseIdx i = l.take i := by
    rw [List.eraseIdx_append_of_length_le (by omega), h1, Nat.sub_self]
    simp
  have e2 : (l.take i).eraseIdx i = l.take i := List.eraseIdx_of_length_le (by omega)
  rw [List.take_add_one, List.getElem?_eq_getElem hi, Option.toList_some, e1, e2]
theorem dI_ne {α : Type} (l : List α) (i k : Nat) (x : α) (hk : l[k]? = some x) (h : k ≠ i) : dI l i (k + 1) = dI l i k ++ [x] := by
  unfold dI
  have hlt := (List.getElem?_eq_some_iff.1 hk).1
  have h1 : (l.take k).length = k := by rw [List.length_take]; omega
  rw [List.take_add_one, hk, Option.toList_some]
  rcases Nat.lt_or_ge i k with hl | hl
  · rw [List.eraseIdx_append_of_lt_length (by omega)]
  · have e1 : (l.take k ++ [x]).eraseIdx i = l.take k ++ [x] := List.eraseIdx_of_length_le (by rw [List.length_append, h1]; simp; omega)
    have e2 : (l.take k).eraseIdx i = l.take k := List.eraseIdx_of_length_le (by omega)
    rw [e1, e2]
theorem dI_len {α β : Type} (l : List α) (m : List β) (h : l.length = m.length) (i k : Nat) : (dI l i k).length = (dI m i k).length := by
  unfold dI
  rw [List.length_eraseIdx, List.length_eraseIdx, List.length_take, List.length_take, h]
theorem dI_mem {α : Type} {l : List α} {i k : Nat} {x : α} (h : x ∈ dI l i k) : x ∈ l := List.mem_of_mem_take (List.mem_of_mem_eraseIdx h)
theorem dI_le {α : Type} (l : List α) (i k : Nat) : (dI l i k).length ≤ l.length := by
  unfold dI
  have := List.length_eraseIdx_le (l.take k) i
  rw [List.length_take] at this
  omega
theorem Td.new {X : Nat → Prop} {V w w' : World} {B : Nat} (h : Td X V w) (hg : w.grownBy w' (some B)) (hB : V.heap.size ≤ B) : Td X V w' :=
  ⟨hg.os.trans h.os, hg.tape.trans h.tape, hg.output.trans h.output, Nat.le_trans h.size hg.size, fun k hk hx => (hg.block k (Nat.lt_of_lt_of_le hk h.size) (fun e => by have e2 : k = B := Option.some.inj e; omega)).trans (h.block k hk hx)⟩
theorem g_put8 (w : World) (g : Nat) (a b c d e f h i : Value) : w.grownBy (put8 w g a b c d e f h i) (some g) :=
  gtrans (gtrans (gtrans (gtrans (gtrans (gtrans (gtrans (gset w g 0 a) (gset _ g 1 b)) (gset _ g 2 c)) (gset _ g 3 d)) (gset _ g 4 e)) (gset _ g 5 f)) (gset _ g 6 h)) (gset _ g 7 i)
section
variable {V V' : World} {r : Nat} {vL vS : Value} {ND : Int} {Q : List Pr} {S : List Int}
theorem RT.far (h : RT V r vL vS ND Q S) {B : Nat} {cs : Array Value} (hg : V.grownBy V' (some B)) (hx : ¬ RX r vL vS B) (hk : Bk V B 61 cs) : RT V' r vL vS ND Q S := by
  have ho : ∀ b, b < V.heap.size → b ≠ B → V'.heap[b]? = V.heap[b]? := fun b hb e => hg.block b hb (fun e2 => e (Option.some.inj e2))
  refine ⟨(ho r h.blk.lt (fun e => hx (.inl e.symm))).trans h.blk, row_kept h.rl fun b e => ?_, row_kept h.rs fun b e => ?_, h.ls, fun y hy => ?_, h.few, h.ap⟩
  · exact ho b (h.lt b (.inr (.inl e))) (fun e2 => hx (.inr (.inl (e2 ▸ e))))
  · exact ho b (h.lt b (.inr (.inr e))) (fun e2 => hx (.inr (.inr (e2 ▸ e))))
  · refine cs_kept (h.cs y hy) hg.size fun ad e => ?_
    obtain ⟨cur, hk'⟩ := (h.cs y hy).bk e
    exact ho _ hk'.lt (bk_ne hk' hk (by decide))
/-- New rows. -/
theorem RT.rows (h : RT V r vL vS ND Q S) {vL' vS' : Value} {B : Nat} {Q' : List Pr} {S' : List Int} (hB : r + 1 ≤ B) (h8 : V.ownsRow B 61 8 vL' Q'.length (kRow Q')) (h9 : V.ownsRow B 3 1 vS' Q'.length (iv S')) (hl : S'.length = Q'.length) (hm : ∀ x ∈ Q', Cs V x.A x.cs ∧ x.cs.length ≤ 300) (ha : ∀ x ∈ Q', ∀ ad, x.A = some ad → ad.block < B) :
    RT ((V.setCell ⟨r, 0, none⟩ vL').setCell ⟨r, 1, none⟩ vS') r vL' vS' ND Q' S' := by
  have ho : ∀ b, b ≠ r → ((V.setCell ⟨r, 0, none⟩ vL').setCell ⟨r, 1, none⟩ vS').heap[b]? = V.heap[b]? := fun b hb => (Below.heap_setCell _ _ _ _ hb).trans (Below.heap_setCell _ _ _ _ hb)
  refine ⟨(h.blk.set 0 vL').set 1 vS', row_kept (Joins.ownsRow_le h8 hB) fun b e => ho b ?_, row_kept (Joins.ownsRow_le h9 hB) fun b e => ho b ?_, hl, fun y hy => ?_, fun y hy => (hm y hy).2, fun y hy ad e e2 => ?_⟩
  · have := (row_bk h8 e).1; omega
  · have := (row_bk h9 e).1; omega
  · refine cs_kept (hm y hy).1 (by simp [World.setCell]) fun ad e => ho _ ?_
    obtain ⟨cur, hk'⟩ := (hm y hy).1.bk e
    exact bk_ne hk' h.blk (by decide)
  · have h1 := ha y hy ad e
    have h2 := (row_bk h9 e2).1
    omega
end
/-- A row stands while another, of another type, is appended to. -/
theorem row_far {W w5 : World} {tmp : Obj} {B B' n n' s s' : Nat} {e e' : TypeId} {v v' : Value} {xs xs' : List Value} (h : W.ownsRow B e s v n xs) (h' : W.ownsRow B' e' s' v' n' xs') (hne : e ≠ e') (hg : (W.alloc tmp).grownBy w5 v'.ownBlock) : w5.ownsRow B e s v n xs := by
  refine row_kept h fun g eg => ?_
  obtain ⟨_, cs, hk⟩ := row_bk h eg
  refine (hg.block g (by have := hk.lt; simp; omega) (fun e2 => ?_)).trans (Below.heap_alloc _ _ _ hk.lt)
  obtain ⟨_, cs', hk'⟩ := row_bk h' e2.symm
  exact bk_ne hk hk' hne rfl
/-- What Reap tells. -/
def RpV (w' : World) (e : Ending) : Prop := ∃ (y : Pr) (er : Int), e = .returned (.tuple #[y.v, .int .i64 er]) ∧ Cs w' y.A y.cs ∧ y.cs.length ≤ 300
section
variable {V : World} {r : Nat} {vL vS : Value} {ND : Int} {Q : List Pr} {S : List Int}
set_option maxRecDepth 100000 in
set_option maxHeartbeats 8000000 in
theorem rreap_any (h : RT V r vL vS ND Q S) (hl : Q.length ≤ 300) (pid : Int) :
    Calls Try.prog 53 #[.pointer (some ⟨r, 0, none⟩), .int .i64 pid] V fun e w' => RpV w' e ∧ ROut V w' r vL vS Q := by
  have low := below_alloc V (.cells (tkC 0 0 0 0 0 (.slice none 0 0) 0 0) 61)
  have kz := Bk.new V 61 (tkC 0 0 0 0 0 (.slice none 0 0) 0 0)
  have hrl := h.blk.lt
  have H := Lib.hid (h.next low)
  have KA := Lib.hid (at_any H.out hl pid)
  have HO := Lib.hid (show ROut V (V.alloc (.cells (tkC 0 0 0 0 0 (.slice none 0 0) 0 0) 61)) r vL vS Q from ⟨vL, vS, ND, Q, S, H.out, Td.of_below low, fun g e => .inl e, by omega⟩)
  have HCS := Lib.hid h.cs
  have HLT := Lib.hid h.lt
  clear h
  go_enter Try.func53, Try.ntmps53
  go_wp2_with fail
  refine KA.out.mono ?_
  rintro _ w1 ⟨hA, rfl⟩
  obtain ⟨⟨d0, d1, d2, d3, d4, d5, d6, d7⟩, f0, f1, f2, f3, f4, f5, f6, f7⟩ := kz.z8
  rcases hA with rfl | ⟨i, x, hx, rfl⟩
  · clear kz
    go_wp2_with fail
    exact bodyPost_ret (v := .tuple #[tkV 0 0 0 0 0 (.slice none 0 0) 0 0, .int .i64 1]) (by simp [results, Try.results53, go_sem, d0, d1, d2, d3, d4, d5, d6, d7]) rfl ⟨⟨⟨0, 0, 0, 0, 0, 0, 0, 0, none, 0, [], 0⟩, 1, rfl, ⟨.inl rfl, fun ad e => by cases e⟩, Nat.zero_le _⟩, HO.out⟩
  · obtain ⟨g, cap, g3, cap3, rfl, rfl⟩ := H.out.some_ hx
    have hi := (List.getElem?_eq_some_iff.1 hx).1
    have c0 := H.out.blk.cell 0 _ rfl
    have a0 := H.out.cell hx (j := 0) (by decide) rfl
    have a1 := H.out.cell hx (j := 1) (by decide) rfl
    have a2 := H.out.cell hx (j := 2) (by decide) rfl
    have a3 := H.out.cell hx (j := 3) (by decide) rfl
    have a4 := H.out.cell hx (j := 4) (by decide) rfl
    have a5 := H.out.cell hx (j := 5) (by decide) rfl
    have a6 := H.out.cell hx (j := 6) (by decide) rfl
    have a7 := H.out.cell hx (j := 7) (by decide) rfl
    simp only [Nat.add_zero] at a0
    have HX := Lib.hid hx
    clear hx
    have t0 : decide ((i : Int) < 0) = false := by simp
    have p0 : (0 : Int) ≤ (i : Int) := by omega
    have p1 : (i : Int) < (Q.length : Int) := by omega
    have hw2 := below_alloc (V.alloc (.cells (tkC 0 0 0 0 0 (.slice none 0 0) 0 0) 61)) (.cells #[.int .i64 x.pid, .int .i64 x.j, .int .i64 x.e, .int .i64 x.s, .int .i64 x.r, .slice x.A x.cs.length x.cap, .int .i64 x.st, .int .i64 x.code] 61)
    have kx := Bk.new (V.alloc (.cells (tkC 0 0 0 0 0 (.slice none 0 0) 0 0) 61)) 61 #[.int .i64 x.pid, .int .i64 x.j, .int .i64 x.e, .int .i64 x.s, .int .i64 x.r, .slice x.A x.cs.length x.cap, .int .i64 x.st, .int .i64 x.code]
    rw [size_alloc] at kx
    have e6 := kx.cell 6 _ rfl
    by_cases e : x.st = 2
    case neg =>
      have t1 : (x.st != 2) = true := by simpa using e
      have kz2 := kz.next hw2
      obtain ⟨⟨d0, d1, d2, d3, d4, d5, d6, d7⟩, f0, f1, f2, f3, f4, f5, f6, f7⟩ := kz2.z8
      have HO2 := Lib.hid (show ROut V ((V.alloc (.cells (tkC 0 0 0 0 0 (.slice none 0 0) 0 0) 61)).alloc (.cells #[.int .i64 x.pid, .int .i64 x.j, .int .i64 x.e, .int .i64 x.s, .int .i64 x.r, .slice x.A x.cs.length x.cap, .int .i64 x.st, .int .i64 x.code] 61)) r (.slice (some ⟨g, 0, none⟩) Q.length cap) (.slice (some ⟨g3, 0, none⟩) Q.length cap3) Q from ⟨_, _, ND, Q, S, H.out.next hw2, Td.of_below (bmore low hw2), fun g e => .inl e, by omega⟩)
      clear kz kz2 kx e hw2 low
      go_wp2_with fail
      exact bodyPost_ret (v := .tuple #[tkV 0 0 0 0 0 (.slice none 0 0) 0 0, .int .i64 14]) (by simp [results, Try.results53, go_sem, d0, d1, d2, d3, d4, d5, d6, d7]) rfl ⟨⟨⟨0, 0, 0, 0, 0, 0, 0, 0, none, 0, [], 0⟩, 14, rfl, ⟨.inl rfl, fun ad e => by cases e⟩, Nat.zero_le _⟩, HO2.out⟩
    case pos =>
    have t1 : (x.st != 2) = false := by simpa using e
    have H2 := Lib.hid (H.out.next hw2)
    have HB2 := Lib.hid (bmore low hw2)
    have kz2 := kz.next hw2
    clear kz hw2 low e d0 d1 d2 d3 d4 d5 d6 d7 f0 f1 f2 f3 f4 f5 f6 f7
    obtain ⟨i0, hi61, hz0, hz1, hz2⟩ := info_parts info61
    obtain ⟨i3, hi3, hy0, hy1, hy2⟩ := info_parts info3
    have hsz2 : ((V.alloc (.cells (tkC 0 0 0 0 0 (.slice none 0 0) 0 0) 61)).alloc (.cells #[.int .i64 x.pid, .int .i64 x.j, .int .i64 x.e, .int .i64 x.s, .int .i64 x.r, .slice x.A x.cs.length x.cap, .int .i64 x.st, .int .i64 x.code] 61)).heap.size = V.heap.size + 1 + 1 := by simp
    go_wp2_with fail
    clear c0 a0 a1 a2 a3 a4 a5 a6 a7 e6
    generalize (V.alloc (.cells (tkC 0 0 0 0 0 (.slice none 0 0) 0 0) 61)).alloc (.cells #[.int .i64 x.pid, .int .i64 x.j, .int .i64 x.e, .int .i64 x.s, .int .i64 x.r, .slice x.A x.cs.length x.cap, .int .i64 x.st, .int .i64 x.code] 61) = W2 at *
    go_loopg [8, 9, 10] Q.length (fun c s8 s9 s10 wr => ∃ k m : Nat, k + c = Q.length ∧ s10 = .int .i64 k ∧ m ≤ k ∧ wr.ownsRow W2.heap.size 61 8 s8 m (kRow (dI Q i k)) ∧ wr.ownsRow W2.heap.size 3 1 s9 m (iv (dI S i k)) ∧ Hid ((dI Q i k).length = m) ∧ Below W2.heap.size W2 wr)
    case atStart => exact ⟨0, 0, by omega, rfl, Nat.le_refl _, World.ownsRow_nil _ _ _ _, World.ownsRow_nil _ _ _ _, Lib.hid rfl, Below.refl _ _⟩
    case round =>
      obtain ⟨k, m, hkn, rfl, hmk, h8, h9, HM, hb⟩ := hrel
      obtain ⟨A8, cap8, rfl⟩ := own_form h8
      obtain ⟨A9, cap9, rfl⟩ := own_form h9
      have HR := H2.out.next hb
      have c0 := HR.blk.cell 0 _ rfl
      have c1 := HR.blk.cell 1 _ rfl
      have hsz := hb.size
      cases gk with
      | succ g1 =>
        have q0 : (0 : Int) ≤ (k : Int) := by omega
        have q1 : (k : Int) < (Q.length : Int) := by omega
        have hkQ : k < Q.length := by omega
        by_cases e : k = i
        · have t2 : ((k : Int) != (i : Int)) = false := by rw [show (k : Int) = (i : Int) by omega]; simp
          have e1 := Lib.hid (show dI Q i (k + 1) = dI Q i k from by rw [e]; exact dI_eq Q i (by rw [← e]; exact hkQ))
          have e2 := Lib.hid (show dI S i (k + 1) = dI S i k from by rw [e]; exact dI_eq S i (by rw [H2.out.ls, ← e]; exact hkQ))
          clear e hkQ HR
          go_wp2_with fail
          go_roundg g1
          case measure => omega
          case rel => exact ⟨k + 1, m, by omega, by go_num, by omega, by rw [e1.out]; exact h8, by rw [e2.out]; exact h9, by rw [e1.out]; exact HM, hb⟩
        · have t2 : ((k : Int) != (i : Int)) = true := by
            have q : ¬ ((k : Int) = (i : Int)) := by omega
            simpa using q
          obtain ⟨y, ey⟩ : ∃ y, Q[k]? = some y := ⟨_, List.getElem?_eq_getElem hkQ⟩
          obtain ⟨z, ez⟩ : ∃ z, S[k]? = some z := ⟨_, List.getElem?_eq_getElem (by rw [H2.out.ls]; exact hkQ)⟩
          have e1 := Lib.hid (dI_ne Q i k y ey e)
          have e2 := Lib.hid (dI_ne S i k z ez e)
          have a0 := HR.cell ey (j := 0) (by decide) rfl
          have a1 := HR.cell ey (j := 1) (by decide) rfl
          have a2 := HR.cell ey (j := 2) (by decide) rfl
          have a3 := HR.cell ey (j := 3) (by decide) rfl
          have a4 := HR.cell ey (j := 4) (by decide) rfl
          have a5 := HR.cell ey (j := 5) (by decide) rfl
          have a6 := HR.cell ey (j := 6) (by decide) rfl
          have a7 := HR.cell ey (j := 7) (by decide) rfl
          simp only [Nat.add_zero] at a0
          have HEZ := Lib.hid ez
          clear e hkQ HR ey ez
          go_wp2_with (first
            | (at_builtin; refine wpList_append_own _ rfl _ _ 56 rfl W2.heap.size 61 i0 (tkV 0 0 0 0 0 (.slice none 0 0) 0 0) 8 80 Try.underlying56 hi61 hz0 hz1 hz2 rfl (by decide) _ _ _ rfl (h8.alloc _) _ 1 1 y.c8 rfl rfl (cells8_new wr y _) (by simp [Value.oneCell']) (by unfold maxLen; omega) (by omega) (by simp; omega) ?_; intro v6 w6 hown6 hg6 _; have h96 := row_far h9 h8 (by decide) hg6; obtain ⟨g6, cap6, rfl⟩ := ownsRow_succ hown6; have hb6 := appended_below h8 (by omega) hg6; have HR6 := H2.out.next (hb.trans hb6); have c16 := HR6.blk.cell 1 _ rfl; have s06 := HR6.sig HEZ.out; have hsz6 := hb6.size)
            | (at_builtin; refine wpList_append_own _ rfl _ _ 45 rfl W2.heap.size 3 i3 (.int .i64 0) 1 8 Try.underlying45 hi3 hy0 hy1 hy2 rfl (by decide) _ _ _ rfl (h96.alloc _) ⟨w6.heap.size, 0, none⟩ 1 1 [.int .i64 z] rfl rfl (cell_one_new _ _ _) (by simp [Value.oneCell']) (by unfold maxLen; omega) (by omega) (by simp; omega) ?_; intro v7 w7 hown7 hg7 _; have h87 := row_far hown6 h96 (by decide) hg7; obtain ⟨g7, cap7, rfl⟩ := ownsRow_succ hown7; have hb7 := appended_below h96 (by omega) hg7))
          go_roundg g1
          case measure => omega
          case rel => exact ⟨k + 1, m + 1, by omega, by go_num, by omega, by rw [e1.out, kRow_snoc]; exact h87, by rw [e2.out]; unfold iv; rw [List.map_append]; exact hown7, Lib.hid (by rw [e1.out, List.length_append, HM.out]; rfl), (hb.trans hb6).trans hb7⟩
      | zero =>
        obtain rfl : k = Q.length := by omega
        have hlt : ¬ ((Q.length : Int) < (Q.length : Int)) := by omega
        have hbV : Below V.heap.size V wr := HB2.out.trans (hb.mono (by omega))
        have hlq := dI_len S Q H2.out.ls i Q.length
        have HRT := Lib.hid (HR.rows (B := W2.heap.size) (vL' := .slice A8 m cap8) (vS' := .slice A9 m cap9) (Q' := dI Q i Q.length) (S' := dI S i Q.length) (by omega) (by rw [HM.out]; exact h8) (by rw [HM.out]; exact h9) hlq (fun y hy => ⟨HR.cs y (dI_mem hy), HR.few y (dI_mem hy)⟩) (fun y hy ad e => by
          obtain ⟨cur, hk⟩ := (HCS.out y (dI_mem hy)).bk e
          have := hk.lt
          omega))
        have HTD := Lib.hid ((Td.of_below (X := RX r (.slice (some ⟨g, 0, none⟩) Q.length cap) (.slice (some ⟨g3, 0, none⟩) Q.length cap3)) hbV).trans ((Td.set ⟨r, 0, none⟩ (.inl rfl) (.slice A8 m cap8)).trans (Td.set ⟨r, 1, none⟩ (.inl rfl) (.slice A9 m cap9))))
        have HSG := Lib.hid (show SigOf V (.slice (some ⟨g3, 0, none⟩) Q.length cap3) (.slice A9 m cap9) from fun b e => .inr (by have := (row_bk h9 e).1; omega))
        have hnx : ¬ RX r (.slice A8 m cap8) (.slice A9 m cap9) V.heap.size := by
          rintro (e | e | e)
          · omega
          · have := (row_bk h8 e).1; omega
          · have := (row_bk h9 e).1; omega
        have hle := dI_le Q i Q.length
        have kzr := ((kz2.next hb).put (i := 0) (v := .slice A8 m cap8) (g' := r) (by omega)).put (i := 1) (v := .slice A9 m cap9) (g' := r) (by omega)
        have kxr := ((kx.next hb).put (i := 0) (v := .slice A8 m cap8) (g' := r) (by omega)).put (i := 1) (v := .slice A9 m cap9) (g' := r) (by omega)
        have c1s := (HR.blk.set 0 (.slice A8 m cap8)).cell 1 _ rfl
        have f0r := HR.blk.frozen 0
        have f1r := (HR.blk.set 0 (.slice A8 m cap8)).frozen 1
        have HF := Lib.hid (HRT.out.far (g_put8 _ V.heap.size (.int .i64 x.pid) (.int .i64 x.j) (.int .i64 x.e) (.int .i64 x.s) (.int .i64 x.r) (.slice x.A x.cs.length x.cap) (.int .i64 x.st) (.int .i64 x.code)) hnx kzr)
        have HTF := Lib.hid (HTD.out.new (g_put8 _ V.heap.size (.int .i64 x.pid) (.int .i64 x.j) (.int .i64 x.e) (.int .i64 x.s) (.int .i64 x.r) (.slice x.A x.cs.length x.cap) (.int .i64 x.st) (.int .i64 x.code)) (Nat.le_refl _))
        have kzp := Bk.put8 kzr (a := .int .i64 x.pid) (b := .int .i64 x.j) (c := .int .i64 x.e) (d := .int .i64 x.s) (e := .int .i64 x.r) (f := .slice x.A x.cs.length x.cap) (h := .int .i64 x.st) (i := .int .i64 x.code)
        have HCX := Lib.hid (cs_kept ((H2.out.cs x (List.mem_of_getElem? HX.out)).next hb) (Nat.le_trans (show wr.heap.size ≤ ((wr.setCell ⟨r, 0, none⟩ (.slice A8 m cap8)).setCell ⟨r, 1, none⟩ (.slice A9 m cap9)).heap.size from by simp [World.setCell]) (g_put8 ((wr.setCell ⟨r, 0, none⟩ (.slice A8 m cap8)).setCell ⟨r, 1, none⟩ (.slice A9 m cap9)) V.heap.size (.int .i64 x.pid) (.int .i64 x.j) (.int .i64 x.e) (.int .i64 x.s) (.int .i64 x.r) (.slice x.A x.cs.length x.cap) (.int .i64 x.st) (.int .i64 x.code)).size) (fun ad e => by
          obtain ⟨cur, hk⟩ := (HCS.out x (List.mem_of_getElem? HX.out)).bk e
          have h1 := hk.lt
          obtain ⟨cur2, hk2⟩ := (HR.cs x (List.mem_of_getElem? HX.out)).bk e
          have h2 := bk_ne hk2 HR.blk (by decide)
          exact ((g_put8 ((wr.setCell ⟨r, 0, none⟩ (.slice A8 m cap8)).setCell ⟨r, 1, none⟩ (.slice A9 m cap9)) V.heap.size (.int .i64 x.pid) (.int .i64 x.j) (.int .i64 x.e) (.int .i64 x.s) (.int .i64 x.r) (.slice x.A x.cs.length x.cap) (.int .i64 x.st) (.int .i64 x.code)).block ad.block (by simp [World.setCell]; omega) (fun e2 => by have e3 : ad.block = V.heap.size := Option.some.inj e2; omega)).trans ((Below.heap_setCell _ _ _ _ h2).trans (Below.heap_setCell _ _ _ _ h2))))
        have hfx := H2.out.few x (List.mem_of_getElem? HX.out)
        obtain ⟨⟨d0, d1, d2, d3, d4, d5, d6, d7⟩, f0, f1, f2, f3, f4, f5, f6, f7⟩ := kzr.z8
        obtain ⟨⟨b0, b1, b2, b3, b4, b5, b6, b7⟩, _⟩ := kxr.z8
        obtain ⟨⟨z0, z1, z2, z3, z4, z5, z6, z7⟩, _⟩ := kzp.z8
        go_wp2_with fail
        exact bodyPost_ret (v := .tuple #[x.v, .int .i64 0]) (by simp [results, Try.results53, go_sem, z0, z1, z2, z3, z4, z5, z6, z7]) rfl ⟨⟨x, 0, rfl, HCX.out, hfx⟩, _, _, ND, _, _, HF.out, HTF.out, HSG.out, by omega⟩
end
end Go.Proofs.Ytjolkcomlindhaa
