/- A table: Reap. -/
import Derived.Test.YtjolkcomlindhaaG6
namespace Go.Proofs.Ytjolkcomlindhaa
open Go.RowKit Go.Shelf Go.Maps Go.Sort

def delP (T : List Pr) (n : Int) : List Pr := T.filter fun x => !decide (x.pid = n)
theorem lookP_del_ne {T : List Pr} {n q : Int} (h : q ≠ n) : lookP (delP T n) q = lookP T q := by
  induction T with
  | nil => rfl
  | cons y r ih =>
    unfold delP at ih ⊢
    by_cases e : y.pid = n
    · rw [List.filter_cons_of_neg (by simp [e]), ih]
      conv => rhs; unfold lookP
      rw [if_neg (by omega)]
    · rw [List.filter_cons_of_pos (by simp [e])]
      unfold lookP
      rw [ih]
theorem lookP_del_eq (T : List Pr) (n : Int) : lookP (delP T n) n = none := lookP_none fun x hx => by
  have := (List.mem_filter.1 hx).2
  simpa using this
def rpE (T : List Pr) (n : Int) : Int := match lookP T n with | none => 1 | some x => if x.st = 2 then 0 else 14
def rpT (T : List Pr) (n : Int) : List Pr := match lookP T n with | none => T | some x => if x.st = 2 then delP T n else T
abbrev Pr.v (x : Pr) : Value := tkV x.pid x.j x.e x.s x.r (.slice x.A x.cs.length x.cap) x.st x.code
def rpV (T : List Pr) (n : Int) : Value := match lookP T n with | none => tkV 0 0 0 0 0 (.slice none 0 0) 0 0 | some x => if x.st = 2 then x.v else tkV 0 0 0 0 0 (.slice none 0 0) 0 0
section
variable {w w' : World} {p k : Nat} {m : Option Nat} {N : Int} {T : List Pr} {x : Pr}
/-- One process has gone. -/
theorem TbAt.del {b : Nat} {n : Int} (h : TbAt w p (some b) k N T) {D : DataW Unit} (h2 : Says D rdP (fun n => (lookP T n).map (fun x => some x.b))) (hg : w.grownBy w' (some b)) (ho : w'.ownsMap Try.prog 3 ptE b k (D.del (ky n))) : TbAt w' p (some b) k N (delP T n) ∧ Tt w w' p (some b) T := by
  have kp : ∀ {g : Nat} {t : TypeId} {cs : Array Value}, Bk w g t cs → Bk w' g t cs := fun {g t cs} q => q.grown hg (fun e => h.ne q (by rw [e]))
  have csk : ∀ {A : Option Addr} {zs : List Int}, Cs w A zs → Cs w' A zs := fun {A zs} q => by
    have hblk : ∀ ad, A = some ad → w'.heap[ad.block]? = w.heap[ad.block]? := fun ad e => by
      obtain ⟨cur, hc⟩ := q.cells ad e
      have hk : Bk w ad.block 3 cur := hc
      rw [hc]; exact kp hk
    refine ⟨?_, fun ad e => ?_⟩
    · rcases q.ints with e | ⟨ad, e, h1, h2⟩
      · exact .inl e
      · refine .inr ⟨ad, e, Nat.lt_of_lt_of_le h1 hg.size, fun j hj => ?_⟩
        rw [← h2 j hj]
        simp only [World.cell?, block_add, hblk ad e]
    · obtain ⟨cur, hc⟩ := q.cells ad e
      exact ⟨cur, (hblk ad e).trans hc⟩
  refine ⟨⟨kp h.blk, (fun e => by cases e), fun b' e => ?_, fun y hy => ?_, h.up.sublist List.filter_sublist, h.apart.sublist List.filter_sublist, fun y hy => h.pids y (List.mem_filter.1 hy).1, h.few⟩, ⟨hg.os, hg.tape, hg.output, hg.size, fun i hi _ q _ => hg.block i hi (fun e => q (by rw [e]))⟩⟩
  · cases e
    refine ⟨_, ho, (h2.del n ho.isMap).congr fun q => ?_⟩
    by_cases e : q = n
    · subst e; rw [if_pos rfl, lookP_del_eq]; rfl
    · rw [if_neg e, lookP_del_ne e]
  · have q := h.procs y (List.mem_filter.1 hy).1
    exact ⟨kp q.blk, csk q.cs, q.len⟩
theorem gput8 (w : World) (g : Nat) (a b c d e f h i : Value) : w.grownBy (put8 w g a b c d e f h i) (some g) :=
  gtrans (gtrans (gtrans (gtrans (gtrans (gtrans (gtrans (gset w g 0 a) (gset _ g 1 b)) (gset _ g 2 c)) (gset _ g 3 d)) (gset _ g 4 e)) (gset _ g 5 f)) (gset _ g 6 h)) (gset _ g 7 i)
theorem Cs.far {V V' : World} {A : Option Addr} {zs : List Int} (q : Cs V A zs) {g t : Nat} {cs : Array Value} (hg : V.grownBy V' (some g)) (hk : Bk V g t cs) (ht : t ≠ 3) : Cs V' A zs := by
  have hblk : ∀ ad, A = some ad → V'.heap[ad.block]? = V.heap[ad.block]? := fun ad e => by
    obtain ⟨cur, hc⟩ := q.cells ad e
    refine hg.block _ (Array.getElem?_eq_some_iff.1 hc).1 (fun q => ?_)
    injection q with q
    unfold Bk at hk
    rw [← q, hc] at hk
    injection hk with hk
    injection hk with _ hk
    exact ht hk.symm
  refine ⟨?_, fun ad e => ?_⟩
  · rcases q.ints with e | ⟨ad, e, h1, h2⟩
    · exact .inl e
    · refine .inr ⟨ad, e, Nat.lt_of_lt_of_le h1 hg.size, fun j hj => ?_⟩
      rw [← h2 j hj]
      simp only [World.cell?, block_add, hblk ad e]
  · obtain ⟨cur, hc⟩ := q.cells ad e
    exact ⟨cur, (hblk ad e).trans hc⟩
theorem bk_ne {V : World} {g g' t t' : Nat} {cs cs' : Array Value} (h : Bk V g t cs) (h' : Bk V g' t' cs') (ht : t ≠ t') : g ≠ g' := by
  rintro rfl
  unfold Bk at h h'
  rw [h] at h'
  injection h' with h'
  injection h' with _ h'
  exact ht h'
/-- Something else has turned. -/
theorem TbAt.far {g t : Nat} {cs : Array Value} (h : TbAt w p m k N T) (hg : w.grownBy w' (some g)) (hk : Bk w g t cs) (ht : t ≠ 85 ∧ t ≠ 93 ∧ t ≠ 3) : TbAt w' p m k N T := by
  refine ⟨h.blk.grown hg (bk_ne h.blk hk (fun e => ht.1 e.symm)), h.none_, fun b e => ?_, fun x hx => ?_, h.up, h.apart, h.pids, h.few⟩
  · obtain ⟨D, h1, h2⟩ := h.own b e
    have nb := not_map hk h1
    exact ⟨D, h1.kept hg (by simpa using nb.symm), h2⟩
  · have q := h.procs x hx
    exact ⟨q.blk.grown hg (bk_ne q.blk hk (fun e => ht.2.1 e.symm)), q.cs.far hg hk ht.2.2, q.len⟩
theorem Bk.c8 {V : World} {b : Nat} {x : Pr} (h : Bk V b 93 x.cells) : V.cell? ⟨b, 0, none⟩ = some (.int .i64 x.pid) ∧ V.cell? ⟨b, 1, none⟩ = some (.int .i64 x.j) ∧ V.cell? ⟨b, 2, none⟩ = some (.int .i64 x.e) ∧ V.cell? ⟨b, 3, none⟩ = some (.int .i64 x.s) ∧ V.cell? ⟨b, 4, none⟩ = some (.int .i64 x.r) ∧ V.cell? ⟨b, 5, none⟩ = some (.slice x.A x.cs.length x.cap) ∧ V.cell? ⟨b, 6, none⟩ = some (.int .i64 x.st) ∧ V.cell? ⟨b, 7, none⟩ = some (.int .i64 x.code) :=
  ⟨h.cell 0 _ rfl, h.cell 1 _ rfl, h.cell 2 _ rfl, h.cell 3 _ rfl, h.cell 4 _ rfl, h.cell 5 _ rfl, h.cell 6 _ rfl, h.cell 7 _ rfl⟩
theorem Bk.z8 {V : World} {g t : Nat} {x0 x1 x2 x3 x4 x5 x6 x7 : Value} (h : Bk V g t #[x0, x1, x2, x3, x4, x5, x6, x7]) : (V.cell? ⟨g, 0, none⟩ = some x0 ∧ V.cell? ⟨g, 1, none⟩ = some x1 ∧ V.cell? ⟨g, 2, none⟩ = some x2 ∧ V.cell? ⟨g, 3, none⟩ = some x3 ∧ V.cell? ⟨g, 4, none⟩ = some x4 ∧ V.cell? ⟨g, 5, none⟩ = some x5 ∧ V.cell? ⟨g, 6, none⟩ = some x6 ∧ V.cell? ⟨g, 7, none⟩ = some x7) ∧ (V.frozen? ⟨g, 0, none⟩ = false ∧ V.frozen? ⟨g, 1, none⟩ = false ∧ V.frozen? ⟨g, 2, none⟩ = false ∧ V.frozen? ⟨g, 3, none⟩ = false ∧ V.frozen? ⟨g, 4, none⟩ = false ∧ V.frozen? ⟨g, 5, none⟩ = false ∧ V.frozen? ⟨g, 6, none⟩ = false ∧ V.frozen? ⟨g, 7, none⟩ = false) :=
  ⟨⟨h.cell 0 _ rfl, h.cell 1 _ rfl, h.cell 2 _ rfl, h.cell 3 _ rfl, h.cell 4 _ rfl, h.cell 5 _ rfl, h.cell 6 _ rfl, h.cell 7 _ rfl⟩, h.frozen 0, h.frozen 1, h.frozen 2, h.frozen 3, h.frozen 4, h.frozen 5, h.frozen 6, h.frozen 7⟩
set_option maxRecDepth 100000 in
set_option maxHeartbeats 2000000 in
theorem reap_any (h : TbAt w p m k N T) {n : Int} (hn : wf n) : Calls Try.prog 39 #[.pointer (some ⟨p, 0, none⟩), .int .i64 n] w fun e w' => e = .returned (.tuple #[rpV T n, .int .i64 (rpE T n)]) ∧ TbAt w' p m k N (rpT T n) ∧ Tt w w' p m T ∧ (∀ x, lookP T n = some x → Cs w' x.A x.cs) := by
  have kz0 := Bk.new w 61 (tkC 0 0 0 0 0 (.slice none 0 0) 0 0)
  have la := below_alloc w (.cells (tkC 0 0 0 0 0 (.slice none 0 0) 0 0) 61)
  have h1 := h.next la
  have H := Lib.hid h1
  cases hf : lookP T n with
  | none =>
    have K := Lib.hid (find_none h1 hn hf)
    have e0 := Lib.hid (show rpE T n = 1 ∧ rpT T n = T ∧ rpV T n = tkV 0 0 0 0 0 (.slice none 0 0) 0 0 from by simp [rpE, rpT, rpV, hf])
    have d0 := kz0.cell 0 _ rfl
    have d1 := kz0.cell 1 _ rfl
    have d2 := kz0.cell 2 _ rfl
    have d3 := kz0.cell 3 _ rfl
    have d4 := kz0.cell 4 _ rfl
    have d5 := kz0.cell 5 _ rfl
    have d6 := kz0.cell 6 _ rfl
    have d7 := kz0.cell 7 _ rfl
    have f0 := kz0.frozen 0
    have f1 := kz0.frozen 1
    have f2 := kz0.frozen 2
    have f3 := kz0.frozen 3
    have f4 := kz0.frozen 4
    have f5 := kz0.frozen 5
    have f6 := kz0.frozen 6
    have f7 := kz0.frozen 7
    clear hf h hn h1 kz0
    go_enter Try.func39, Try.ntmps39
    go_wp2_with fail
    refine K.out.mono ?_
    rintro y w1 ⟨rfl, rfl⟩
    go_wp2_with fail
    refine bodyPost_ret (v := .tuple #[tkV 0 0 0 0 0 (.slice none 0 0) 0 0, .int .i64 1]) (by simp [results, Try.results39, go_sem, d0, d1, d2, d3, d4, d5, d6, d7]) rfl ⟨by rw [e0.out.1, e0.out.2.2], by rw [e0.out.2.1]; exact H.out, Tt.of_below la, ?_⟩
    intro x hx
    cases hx
  | some x =>
    have K := Lib.hid (find_some h1 hn hf)
    obtain ⟨hm, hp⟩ := lookP_mem hf
    have hb := (h1.procs x hm).blk
    have hcs := (h1.procs x hm).cs
    have x6 := hb.cell 6 _ rfl
    have d0 := kz0.cell 0 _ rfl
    have d1 := kz0.cell 1 _ rfl
    have d2 := kz0.cell 2 _ rfl
    have d3 := kz0.cell 3 _ rfl
    have d4 := kz0.cell 4 _ rfl
    have d5 := kz0.cell 5 _ rfl
    have d6 := kz0.cell 6 _ rfl
    have d7 := kz0.cell 7 _ rfl
    have f0 := kz0.frozen 0
    have f1 := kz0.frozen 1
    have f2 := kz0.frozen 2
    have f3 := kz0.frozen 3
    have f4 := kz0.frozen 4
    have f5 := kz0.frozen 5
    have f6 := kz0.frozen 6
    have f7 := kz0.frozen 7
    by_cases hs : x.st = 2
    · have e0 := Lib.hid (show rpE T n = 0 ∧ rpT T n = delP T n ∧ rpV T n = x.v from by simp [rpE, rpT, rpV, hf, hs])
      have t0 : (x.st != 2) = false := by simp [hs]
      cases m with
      | none => rw [h1.none_ rfl] at hm; cases hm
      | some b =>
        obtain ⟨D, ho, hS⟩ := h1.own b rfl
        have c1 := h1.blk.cell 1 _ rfl
        have HN := Lib.hid hn
        have nb := h1.ne kz0
        have nx := h1.ne hb
        clear hf h hm hp hs hn
        go_enter Try.func39, Try.ntmps39
        go_wp2_with fail
        refine K.out.mono ?_
        rintro y w1 ⟨rfl, rfl⟩
        go_wp2_with (at_delete; refine wpList_delete_own _ rfl _ _ 83 3 rfl 90 law3 Try.underlying83 _ b k D rfl ho _ _ rfl (key_of HN.out) ?_; intro w2 ho2 ht2; have kx2 := hb.grown ht2.grown (fun e => nx (by rw [e])); have kz2 := kz0.grown ht2.grown (fun e => nb (by rw [e])); obtain ⟨y0, y1, y2, y3, y4, y5, y6, y7⟩ := kx2.c8; obtain ⟨⟨q0, q1, q2, q3, q4, q5, q6, q7⟩, g0, g1, g2, g3, g4, g5, g6, g7⟩ := kz2.z8)
        have kz := kz2.put8 (a := .int .i64 x.pid) (b := .int .i64 x.j) (c := .int .i64 x.e) (d := .int .i64 x.s) (e := .int .i64 x.r) (f := .slice x.A x.cs.length x.cap) (h := .int .i64 x.st) (i := .int .i64 x.code)
        obtain ⟨⟨z0, z1, z2, z3, z4, z5, z6, z7⟩, -⟩ := kz.z8
        obtain ⟨hT, hTt⟩ := h1.del hS ht2.grown ho2
        have hcp : Cs w2 x.A x.cs := by
          refine ⟨?_, fun ad e => ?_⟩
          · rcases hcs.ints with e | ⟨ad, e, i1, i2⟩
            · exact .inl e
            · obtain ⟨cur, hc⟩ := hcs.cells ad e
              have hk : Bk (w.alloc (.cells (tkC 0 0 0 0 0 (.slice none 0 0) 0 0) 61)) ad.block 3 cur := hc
              have hk2 := hk.grown ht2.grown (fun e => h1.ne hk (by rw [e]))
              refine .inr ⟨ad, e, Nat.lt_of_lt_of_le i1 ht2.grown.size, fun j hj => ?_⟩
              rw [← i2 j hj]
              unfold Bk at hk hk2
              simp only [World.cell?, block_add, hk, hk2]
          · obtain ⟨cur, hc⟩ := hcs.cells ad e
            have hk : Bk (w.alloc (.cells (tkC 0 0 0 0 0 (.slice none 0 0) 0 0) 61)) ad.block 3 cur := hc
            exact ⟨cur, hk.grown ht2.grown (fun e => h1.ne hk (by rw [e]))⟩
        have hg8 := gput8 w2 w.heap.size (.int .i64 x.pid) (.int .i64 x.j) (.int .i64 x.e) (.int .i64 x.s) (.int .i64 x.r) (.slice x.A x.cs.length x.cap) (.int .i64 x.st) (.int .i64 x.code)
        refine bodyPost_ret (v := .tuple #[x.v, .int .i64 0]) (by simp [results, Try.results39, go_sem, z0, z1, z2, z3, z4, z5, z6, z7]) rfl ⟨by rw [e0.out.1, e0.out.2.2], by rw [e0.out.2.1]; exact hT.far hg8 kz2 (by decide), ?_, ?_⟩
        · have s1 := la.size
          have s2 := hTt.size
          have s3 := hg8.size
          refine ⟨hg8.os.trans (hTt.os.trans la.os), hg8.tape.trans (hTt.tape.trans la.tape), hg8.output.trans (hTt.output.trans la.output), Nat.le_trans s1 (Nat.le_trans s2 s3), fun i hi a1 a2 a3 => ?_⟩
          refine (hg8.block i (by omega) (fun e => by injection e with e; omega)).trans ((hTt.block i (by omega) a1 a2 a3).trans (la.block i hi))
        · intro x' hx'
          cases hx'
          exact hcp.far hg8 kz2 (by decide)
    · have e0 := Lib.hid (show rpE T n = 14 ∧ rpT T n = T ∧ rpV T n = tkV 0 0 0 0 0 (.slice none 0 0) 0 0 from by simp [rpE, rpT, rpV, hf, hs])
      have t0 : (x.st != 2) = true := by simpa using hs
      clear h hm hp hs hn h1 kz0 hb hf
      go_enter Try.func39, Try.ntmps39
      go_wp2_with fail
      refine K.out.mono ?_
      rintro y w1 ⟨rfl, rfl⟩
      go_wp2_with fail
      refine bodyPost_ret (v := .tuple #[tkV 0 0 0 0 0 (.slice none 0 0) 0 0, .int .i64 14]) (by simp [results, Try.results39, go_sem, d0, d1, d2, d3, d4, d5, d6, d7]) rfl ⟨by rw [e0.out.1, e0.out.2.2], by rw [e0.out.2.1]; exact H.out, Tt.of_below la, ?_⟩
      intro x' hx'
      cases hx'
      exact hcs
end
end Go.Proofs.Ytjolkcomlindhaa
