/- A table: List. -/
import Derived.Test.YtjolkcomlindhaaGG12xMR4xG13
namespace Go.Proofs.Ytjolkcomlindhaa
open Go.RowKit Go.Shelf Go.Maps Go.Sort

abbrev Pr.c8 (x : Pr) : List Value := [.int .i64 x.pid, .int .i64 x.j, .int .i64 x.e, .int .i64 x.s, .int .i64 x.r, .slice x.A x.cs.length x.cap, .int .i64 x.st, .int .i64 x.code]
def kRow (Q : List Pr) : List Value := Q.flatMap Pr.c8
theorem kRow_snoc (Q : List Pr) (x : Pr) : kRow (Q ++ [x]) = kRow Q ++ x.c8 := by simp [kRow]
/-- The same task, its cores elsewhere. -/
def sameT (x y : Pr) : Prop := x.pid = y.pid ∧ x.j = y.j ∧ x.e = y.e ∧ x.s = y.s ∧ x.r = y.r ∧ x.st = y.st ∧ x.code = y.code ∧ x.cs = y.cs
/-- Tasks told of these processes. -/
structure Told (V : World) (B : Nat) (v : Value) (Q T : List Pr) : Prop where
  row : V.ownsRow B 61 8 v Q.length (kRow Q)
  cs : ∀ x ∈ Q, Cs V x.A x.cs
  len : Q.length = T.length
  same : ∀ (i : Nat) (x y : Pr), Q[i]? = some x → T[i]? = some y → sameT x y
theorem info61 : (Try.prog.info? 61).map (fun i => (i.zero, i.size, i.bytes)) = some (some (tkV 0 0 0 0 0 (.slice none 0 0) 0 0), 8, 80) := by kernel_rfl
theorem cells8_new (w : World) (x : Pr) (t : TypeId) : ∀ j u, x.c8[j]? = some u → (w.alloc (.cells #[.int .i64 x.pid, .int .i64 x.j, .int .i64 x.e, .int .i64 x.s, .int .i64 x.r, .slice x.A x.cs.length x.cap, .int .i64 x.st, .int .i64 x.code] t)).cell? ((⟨w.heap.size, 0, none⟩ : Addr).add j) = some u := by
  intro j u h
  have hadd : (⟨w.heap.size, 0, none⟩ : Addr).add j = ⟨w.heap.size, j, none⟩ := by unfold Addr.add; split <;> simp_all
  rw [hadd]
  exact (Bk.new w t _).cell j u (by simpa using h)
theorem cs_append {W w1 : World} {A : Option Addr} {zs : List Int} {B n : Nat} {v : Value} {xs : List Value} {tmp : Obj} (q : Cs W A zs) (hrow : W.ownsRow B 61 8 v n xs) (hg : (W.alloc tmp).grownBy w1 v.ownBlock) : Cs w1 A zs := by
  have q1 := q.next (below_alloc W tmp)
  have hblk : ∀ ad, A = some ad → w1.heap[ad.block]? = (W.alloc tmp).heap[ad.block]? := fun ad e => by
    obtain ⟨cur, hc⟩ := q1.cells ad e
    refine hg.block _ (Array.getElem?_eq_some_iff.1 hc).1 (fun e2 => ?_)
    rcases hrow.2 with ⟨rfl, _⟩ | ⟨g, cap, cu, rfl, _, hgb, _⟩
    · simp [Value.ownBlock] at e2
    · have e3 : ad.block = g := by simpa [Value.ownBlock] using e2
      have hgb2 : (W.alloc tmp).heap[g]? = some (.cells cu 61 (0, 0)) := (Below.heap_alloc W tmp g (Array.getElem?_eq_some_iff.1 hgb).1).trans hgb
      rw [e3, hgb2] at hc
      injection hc with hc
      injection hc with _ hc
      cases hc
  refine ⟨?_, fun ad e => ?_⟩
  · rcases q1.ints with e | ⟨ad, e, h1, h2⟩
    · exact .inl e
    · refine .inr ⟨ad, e, Nat.lt_of_lt_of_le h1 hg.size, fun j hj => ?_⟩
      rw [← h2 j hj]
      simp only [World.cell?, block_add, hblk ad e]
  · obtain ⟨cur, hc⟩ := q1.cells ad e
    exact ⟨cur, (hblk ad e).trans hc⟩
set_option maxRecDepth 100000 in
set_option maxHeartbeats 2000000 in
theorem list_any {w : World} {p k : Nat} {m : Option Nat} {N : Int} {T : List Pr} (h : TbAt w p m k N T) (hl : T.length ≤ 1000) : Calls Try.prog 36 #[.pointer (some ⟨p, 0, none⟩)] w fun e w' => ∃ v Q, e = .returned v ∧ Told w' w.heap.size v Q T ∧ Below w.heap.size w w' := by
  obtain ⟨i0, hi, hz0, hz1, hz2⟩ := info_parts info61
  have K1 := Lib.hid (callsIn_wide.1 (keysB_in 5 m w))
  have K2 := Lib.hid (callsIn_wide.1 (table_keys h hl 5 (by omega)))
  have c1 := h.blk.cell 1 _ rfl
  have H := Lib.hid h
  clear h
  go_enter Try.func36, Try.ntmps36
  go_wp2_with fail
  refine K1.out.mono ?_
  rintro x w1 ⟨rfl, rfl⟩
  go_wp2_with fail
  refine K2.out.mono ?_
  rintro x w2 ⟨v, rfl, hrow, hb⟩
  obtain ⟨A, cap, rfl⟩ := own_form hrow
  have hz := Lib.hid (ints_iv rfl hrow)
  have low := Lib.hid (show Below w.heap.size w w2 from (below_alloc w _).trans (hb.mono (by simp)))
  have hs2 := low.out.size
  obtain ⟨n, hn⟩ : ∃ n, n = T.length := ⟨_, rfl⟩
  have HN := Lib.hid hn
  rw [List.length_map, ← hn]
  rw [← hn] at hl
  clear hrow hb c1 hn K1 K2
  go_wp2_with fail
  go_loopw [3, 15] (fun s iv wr => ∃ (i : Nat) (Q : List Pr), i ≤ n ∧ iv = .int .i64 (i : Int) ∧ Told wr w2.heap.size s Q (T.take i) ∧ Below w2.heap.size w2 wr) (fun _ iv _ => n - (intOf iv).toNat)
  case atStart => exact ⟨0, [], Nat.zero_le _, rfl, ⟨World.ownsRow_nil _ _ _ _, (fun x hx => by cases hx), rfl, (fun i x y hx => by simp at hx)⟩, Below.refl _ _⟩
  case round =>
    obtain ⟨i, Q, hi2, rfl, st, hb⟩ := hrel
    obtain ⟨A1, cap1, e1⟩ := own_form st.row
    subst e1
    have hQl : Q.length ≤ i := by have := st.len; rw [List.length_take] at this; omega
    by_cases hlt : i < n
    · obtain ⟨x, hx⟩ : ∃ x, T[i]? = some x := ⟨T[i]'(by rw [← HN.out]; exact hlt), List.getElem?_eq_getElem _⟩
      have h1 := (H.out.next low.out).next hb
      have hm : x ∈ T := List.mem_of_getElem? hx
      obtain ⟨ad, rfl, hbl, hc⟩ := (hz.out.next hb).at_ (k := i) (by rw [List.length_map, ← HN.out]; exact hlt)
      have hgd : (T.map (·.pid)).getD i 0 = x.pid := by simp [List.getD, hx]
      rw [hgd] at hc
      have px := h1.procs x hm
      have hpid := h1.pids x hm
      have hfew := h1.few
      have hlk := h1.look (n := x.pid) (wf_iff.2 (by omega))
      rw [lookP_of_mem h1.up hm] at hlk
      simp only [Option.map_some, ptV] at hlk
      have t1 := h1.blk.cell 1 _ rfl
      obtain ⟨y0, y1, y2, y3, y4, y5, y6, y7⟩ := px.blk.c8
      have KA := Lib.hid (apart_any x.pid x.j x.e x.s x.r x.st x.code x.A x.cs.length x.cap x.cs wr px.cs.ints rfl px.len)
      have HT := Lib.hid (show T.take (i + 1) = T.take i ++ [x] from by rw [List.take_add_one, hx]; rfl)
      have j0 : (0 : Int) ≤ (i : Int) := by omega
      have j1 : (i : Int) < (n : Int) := by omega
      clear hgd hx hm px hpid h1
      go_wp2_with fail
      refine KA.out.mono ?_
      rintro y w3 ⟨A', cap', rfl, hcs, hb3⟩
      have row3 := own_next st.row hb3
      have hs3 := (hb.trans (hb3.mono hb.size)).size
      have lo3 := hb.trans (hb3.mono hb.size)
      have CS3 := Lib.hid (fun y hy => (st.cs y hy).next hb3)
      clear y0 y1 y2 y3 y4 y5 y6 y7 t1 hlk hc KA
      go_wp2_with (at_builtin; refine wpList_append_own _ rfl _ _ 56 rfl w2.heap.size 61 i0 (tkV 0 0 0 0 0 (.slice none 0 0) 0 0) 8 80 Try.underlying56 hi hz0 hz1 hz2 rfl (by decide) _ _ _ rfl (row3.alloc _) _ 1 1 [.int .i64 x.pid, .int .i64 x.j, .int .i64 x.e, .int .i64 x.s, .int .i64 x.r, .slice A' x.cs.length cap', .int .i64 x.st, .int .i64 x.code] rfl rfl (cells8_new w3 { x with A := A', cap := cap' } _) (by simp [Value.oneCell']) (by unfold maxLen; omega) (by omega) (by simp; omega) ?_; intro v6 w6 hown6 hgrow6 _; obtain ⟨g6, cap6, rfl⟩ := ownsRow_succ hown6; have hb6 := appended_below row3 hs3 hgrow6)
      go_roundw
      case rel =>
        refine ⟨i + 1, Q ++ [{ x with A := A', cap := cap' }], by omega, by go_num, ⟨?_, fun y hy => ?_, ?_, ?_⟩, lo3.trans hb6⟩
        · rw [kRow_snoc, List.length_append]; exact hown6
        · rcases List.mem_append.1 hy with q | q
          · exact cs_append (CS3.out y q) row3 hgrow6
          · have q : y = { x with A := A', cap := cap' } := by simpa using q
            rw [q]; exact cs_append hcs row3 hgrow6
        · rw [HT.out, List.length_append, List.length_append, st.len]; rfl
        · intro a y z hy hz
          rw [HT.out] at hz
          by_cases ha : a < Q.length
          · rw [List.getElem?_append_left ha] at hy
            rw [List.getElem?_append_left (by rw [← st.len]; exact ha)] at hz
            exact st.same a y z hy hz
          · have hal := (List.getElem?_eq_some_iff.1 hy).1
            rw [List.length_append] at hal
            simp at hal
            obtain rfl : a = Q.length := by omega
            rw [List.getElem?_append_right (Nat.le_refl _), Nat.sub_self] at hy
            rw [List.getElem?_append_right (by rw [st.len]; exact Nat.le_refl _), st.len, Nat.sub_self] at hz
            simp at hy hz
            subst hy hz
            exact ⟨rfl, rfl, rfl, rfl, rfl, rfl, rfl, rfl⟩
      case measure => simp [intOf]; omega
    · obtain rfl : i = n := by omega
      have eT := Lib.hid (show T.take i = T from by rw [HN.out, List.take_length])
      go_wp2_with fail
      go_ret
      refine ⟨_, Q, rfl, ?_, low.out.trans (hb.mono hs2)⟩
      rw [eT.out] at st
      exact ⟨Joins.ownsRow_le st.row hs2, st.cs, st.len, st.same⟩
end Go.Proofs.Ytjolkcomlindhaa
/- A table: Spawn whole. -/
namespace Go.Proofs.Ytjolkcomlindhaa
open Go.RowKit Go.Shelf Go.Maps Go.Sort

/-- Spawn of a task with any cores. -/
theorem spawn_any {w : World} {p k : Nat} {m : Option Nat} {N : Int} {T : List Pr} (h : TbAt w p m k N T) (hk : k < 1000) (hN : N < 200) (hT : T.length < 256) (p0 j e s r st c : Int) (A : Option Addr) (n cap : Nat) (zs : List Int) (hz : IntsAt w A zs) (hn : zs.length = n) (hA : ∀ ad, A = some ad → ad.block ≠ p) (hl : n ≤ 1000) :
    Calls Try.prog 37 #[.pointer (some ⟨p, 0, none⟩), tkV p0 j e s r (.slice A n cap) st c] w fun x w' =>
      (mayT j e s r (cE zs) n = false ∧ x = .returned (.tuple #[.int .i64 0, .int .i64 1]) ∧ Below w.heap.size w w') ∨
      (mayT j e s r (cE zs) n = true ∧ ∃ A' cap' b' m', x = .returned (.tuple #[.int .i64 (N + 1), .int .i64 0]) ∧ TbAt w' p m' (k + 1) (N + 1) (T ++ [⟨N + 1, j, e, s, r, 0, 0, 0, A', cap', zs, b'⟩]) ∧ Tt w w' p m T ∧ Fresh w m m' ∧ (∀ ad, A' = some ad → w.heap.size ≤ ad.block) ∧ w.heap.size ≤ b') := by
  have hO := of_says (cap := cap) hz hn hl
  cases q : mayT j e s r (cE zs) n
  · refine (spawn_no h p0 j e s r st c (cE zs) A n cap hO hl q).mono ?_
    rintro x w' ⟨rfl, hb⟩
    exact .inl ⟨rfl, rfl, hb⟩
  · have e0 : cE zs = 0 := by
      unfold mayT at q
      simp only [Bool.and_eq_true, beq_iff_eq] at q
      exact q.1.2
    rw [e0] at hO q
    cases m with
    | none =>
      refine (spawn_none h hk hN hT p0 j e s r st c A n cap zs hz hn hA hO hl q).mono ?_
      rintro x w' ⟨A', cap', b', b, rfl, h1, h2, h0, h3, h4⟩
      exact .inr ⟨rfl, A', cap', b', some b, rfl, h1, h2, .inr ⟨rfl, b, rfl, h4⟩, h0, h3⟩
    | some b =>
      refine (spawn_some h hk hN hT p0 j e s r st c A n cap zs hz hn hA hO hl q).mono ?_
      rintro x w' ⟨A', cap', b', rfl, h1, h2, h0, h3⟩
      exact .inr ⟨rfl, A', cap', b', some b, rfl, h1, h2, .inl rfl, h0, h3⟩
end Go.Proofs.Ytjolkcomlindhaa
