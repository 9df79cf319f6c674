/- A table: Signal, Signalled. -/
import Derived.Test.YtjolkcomlindhaaGG3xG4xG5
namespace Go.Proofs.Ytjolkcomlindhaa
open Go.RowKit Go.Shelf Go.Maps Go.Sort

/-- A process that is signalled. -/
def sgP (x : Pr) (g : Int) : Pr := { x with st := if g = 9 ∧ x.st = 0 then 2 else x.st, code := if g = 9 ∧ x.st = 0 then 137 else x.code, sig := if x.sig = 9 then 9 else g }
def sgE (T : List Pr) (n g : Int) : Int := match lookP T n with | none => 1 | some x => if g = 15 ∨ g = 9 then (if x.st = 2 then 14 else 0) else 1
def sgT (T : List Pr) (n g : Int) : List Pr := match lookP T n with | none => T | some x => if g = 15 ∨ g = 9 then (if x.st = 2 then T else updP T (sgP x g)) else T
section
variable {w : World} {p k : Nat} {m : Option Nat} {N : Int} {T : List Pr}
set_option maxRecDepth 100000 in
set_option maxHeartbeats 1000000 in
theorem signal_any (h : TbAt w p m k N T) {n : Int} (g : Int) (hn : wf n) : Calls Try.prog 41 #[.pointer (some ⟨p, 0, none⟩), .int .i64 n, .int .i64 g] w fun e w' => e = .returned (.int .i64 (sgE T n g)) ∧ TbAt w' p m k N (sgT T n g) ∧ Tt w w' p m T := by
  have H := Lib.hid h
  cases hf : lookP T n with
  | none =>
    have K := Lib.hid (find_none h hn hf)
    have e0 := Lib.hid (show sgE T n g = 1 ∧ sgT T n g = T from by simp [sgE, sgT, hf])
    clear hf h hn
    go_enter Try.func41, Try.ntmps41
    go_wp2_with fail
    refine K.out.mono ?_
    rintro y w1 ⟨rfl, rfl⟩
    go_wp2_with fail
    go_ret
    exact ⟨by rw [e0.out.1]; rfl, by rw [e0.out.2]; exact H.out, Tt.of_below (Below.refl _ _)⟩
  | some x =>
    have K := Lib.hid (find_some h hn hf)
    obtain ⟨hm, hp⟩ := lookP_mem hf
    have hb := (h.procs x hm).blk
    have hfx : lookP T x.pid = some x := by rw [hp]; exact hf
    obtain ⟨⟨c6, c7, c8⟩, f6, f7, f8⟩ := hb.c9
    by_cases hg : g = 15 ∨ g = 9
    · by_cases hs : x.st = 2
      · have e0 := Lib.hid (show sgE T n g = 14 ∧ sgT T n g = T from by simp [sgE, sgT, hf, hs, hg])
        have t0 : (x.st == 2) = true := by simp [hs]
        clear h hm hp hb hs hn hfx
        rcases hg with rfl | rfl
        · clear hf
          go_enter Try.func41, Try.ntmps41
          go_wp2_with fail
          refine K.out.mono ?_
          rintro y w1 ⟨rfl, rfl⟩
          go_wp2_with fail
          go_ret
          exact ⟨by rw [e0.out.1]; rfl, by rw [e0.out.2]; exact H.out, Tt.of_below (Below.refl _ _)⟩
        · clear hf
          go_enter Try.func41, Try.ntmps41
          go_wp2_with fail
          refine K.out.mono ?_
          rintro y w1 ⟨rfl, rfl⟩
          go_wp2_with fail
          go_ret
          exact ⟨by rw [e0.out.1]; rfl, by rw [e0.out.2]; exact H.out, Tt.of_below (Below.refl _ _)⟩
      · have e0 := Lib.hid (show sgE T n g = 0 ∧ sgT T n g = updP T (sgP x g) from by simp [sgE, sgT, hf, hs, hg])
        have t0 : (x.st == 2) = false := by simpa using hs
        rcases hg with rfl | rfl
        · by_cases h9 : x.sig = 9
          · have t1 : (x.sig != 9) = false := by simp [h9]
            have ex : sgP x 15 = x := by simp [sgP, h9]; cases x; simp_all
            have U := Lib.hid (h.upd (x' := sgP x 15) (x := x) (by rw [ex]; exact hfx) (by rw [ex]) (by rw [ex]) (by rw [ex]) (w' := w) (only_of_below (Below.refl _ w) |>.but _) (by rw [ex]; exact hb))
            clear hf h hm hp hb hs hn hfx h9 ex
            go_enter Try.func41, Try.ntmps41
            go_wp2_with fail
            refine K.out.mono ?_
            rintro y w1 ⟨rfl, rfl⟩
            go_wp2_with fail
            go_ret
            exact ⟨by rw [e0.out.1]; rfl, by rw [e0.out.2]; exact U.out.1, U.out.2⟩
          · have t1 : (x.sig != 9) = true := by simpa using h9
            have U := Lib.hid (h.upd (x' := sgP x 15) (x := x) hfx rfl rfl rfl (gset w x.b 8 (.int .i64 15)) (by have q := hb.set 8 (.int .i64 15); simpa [sgP, h9, Pr.cells] using q))
            clear hf h hm hp hb hs hn hfx h9
            go_enter Try.func41, Try.ntmps41
            go_wp2_with fail
            refine K.out.mono ?_
            rintro y w1 ⟨rfl, rfl⟩
            go_wp2_with fail
            go_ret
            exact ⟨by rw [e0.out.1]; rfl, by rw [e0.out.2]; exact U.out.1, U.out.2⟩
        · by_cases h0 : x.st = 0
          · have t2 : (x.st == 0) = true := by simp [h0]
            have KE := Lib.hid (exit_any x.b x 137 w hb)
            have hb2 : Bk ((w.setCell ⟨x.b, 6, none⟩ (.int .i64 2)).setCell ⟨x.b, 7, none⟩ (.int .i64 137)) x.b 93 ({ x with st := 2, code := 137 } : Pr).cells := (hb.set 6 (.int .i64 2)).set 7 (.int .i64 137)
            obtain ⟨⟨d6, d7, d8⟩, g6, g7, g8⟩ := hb2.c9
            by_cases h9 : x.sig = 9
            · have t1 : (x.sig != 9) = false := by simp [h9]
              have U := Lib.hid (h.upd (x' := sgP x 9) (x := x) hfx rfl rfl rfl (gtrans (gset w x.b 6 (.int .i64 2)) (gset _ x.b 7 (.int .i64 137))) (by have q := hb2; simpa [sgP, h9, h0, Pr.cells] using q))
              clear hf h hm hp hb hs hn hfx h9 h0 hb2
              go_enter Try.func41, Try.ntmps41
              go_wp2_with fail
              refine K.out.mono ?_
              rintro y w1 ⟨rfl, rfl⟩
              go_wp2_with fail
              refine KE.out.mono ?_
              rintro y w2 ⟨⟨v, rfl⟩, rfl⟩
              go_wp2_with fail
              go_ret
              exact ⟨by rw [e0.out.1]; rfl, by rw [e0.out.2]; exact U.out.1, U.out.2⟩
            · have t1 : (x.sig != 9) = true := by simpa using h9
              have U := Lib.hid (h.upd (x' := sgP x 9) (x := x) hfx rfl rfl rfl (gtrans (gtrans (gset w x.b 6 (.int .i64 2)) (gset _ x.b 7 (.int .i64 137))) (gset _ x.b 8 (.int .i64 9))) (by have q := hb2.set 8 (.int .i64 9); simpa [sgP, h9, h0, Pr.cells] using q))
              clear hf h hm hp hb hs hn hfx h9 h0 hb2
              go_enter Try.func41, Try.ntmps41
              go_wp2_with fail
              refine K.out.mono ?_
              rintro y w1 ⟨rfl, rfl⟩
              go_wp2_with fail
              refine KE.out.mono ?_
              rintro y w2 ⟨⟨v, rfl⟩, rfl⟩
              go_wp2_with fail
              go_ret
              exact ⟨by rw [e0.out.1]; rfl, by rw [e0.out.2]; exact U.out.1, U.out.2⟩
          · have t2 : (x.st == 0) = false := by simpa using h0
            by_cases h9 : x.sig = 9
            · have t1 : (x.sig != 9) = false := by simp [h9]
              have ex : sgP x 9 = x := by simp [sgP, h9, h0]; cases x; simp_all
              have U := Lib.hid (h.upd (x' := sgP x 9) (x := x) (by rw [ex]; exact hfx) (by rw [ex]) (by rw [ex]) (by rw [ex]) (w' := w) (only_of_below (Below.refl _ w) |>.but _) (by rw [ex]; exact hb))
              clear hf h hm hp hb hs hn hfx h9 h0 ex
              go_enter Try.func41, Try.ntmps41
              go_wp2_with fail
              refine K.out.mono ?_
              rintro y w1 ⟨rfl, rfl⟩
              go_wp2_with fail
              go_ret
              exact ⟨by rw [e0.out.1]; rfl, by rw [e0.out.2]; exact U.out.1, U.out.2⟩
            · have t1 : (x.sig != 9) = true := by simpa using h9
              have U := Lib.hid (h.upd (x' := sgP x 9) (x := x) hfx rfl rfl rfl (gset w x.b 8 (.int .i64 9)) (by have q := hb.set 8 (.int .i64 9); simpa [sgP, h9, h0, Pr.cells] using q))
              clear hf h hm hp hb hs hn hfx h9 h0
              go_enter Try.func41, Try.ntmps41
              go_wp2_with fail
              refine K.out.mono ?_
              rintro y w1 ⟨rfl, rfl⟩
              go_wp2_with fail
              go_ret
              exact ⟨by rw [e0.out.1]; rfl, by rw [e0.out.2]; exact U.out.1, U.out.2⟩
    · have e0 := Lib.hid (show sgE T n g = 1 ∧ sgT T n g = T from by simp [sgE, sgT, hf, hg])
      have t1 : (g != 15) = true := by simp; omega
      have t2 : (g != 9) = true := by simp; omega
      clear hf h hm hp hb hn hfx hg
      go_enter Try.func41, Try.ntmps41
      go_wp2_with fail
      refine K.out.mono ?_
      rintro y w1 ⟨rfl, rfl⟩
      go_wp2_with fail
      go_ret
      exact ⟨by rw [e0.out.1]; rfl, by rw [e0.out.2]; exact H.out, Tt.of_below (Below.refl _ _)⟩
def sgnd (T : List Pr) (n : Int) : Int := match lookP T n with | none => 0 | some x => x.sig
set_option maxRecDepth 100000 in
set_option maxHeartbeats 1000000 in
theorem signalled_any (h : TbAt w p m k N T) {n : Int} (hn : wf n) : Calls Try.prog 43 #[.pointer (some ⟨p, 0, none⟩), .int .i64 n] w fun e w' => e = .returned (.int .i64 (sgnd T n)) ∧ w = w' := by
  cases hf : lookP T n with
  | none =>
    have K := Lib.hid (find_none h hn hf)
    have e0 := Lib.hid (show sgnd T n = 0 from by simp [sgnd, hf])
    clear hf h hn
    go_enter Try.func43, Try.ntmps43
    go_wp2_with fail
    refine K.out.mono ?_
    rintro y w1 ⟨rfl, rfl⟩
    go_wp2_with fail
    go_ret
    exact ⟨by rw [e0.out]; rfl, rfl⟩
  | some x =>
    have K := Lib.hid (find_some h hn hf)
    obtain ⟨hm, hp⟩ := lookP_mem hf
    obtain ⟨⟨c6, c7, c8⟩, f6, f7, f8⟩ := (h.procs x hm).blk.c9
    have e0 := Lib.hid (show sgnd T n = x.sig from by simp [sgnd, hf])
    clear hf h hn hm hp
    go_enter Try.func43, Try.ntmps43
    go_wp2_with fail
    refine K.out.mono ?_
    rintro y w1 ⟨rfl, rfl⟩
    go_wp2_with fail
    go_ret
    exact ⟨by rw [e0.out]; rfl, rfl⟩
end
end Go.Proofs.Ytjolkcomlindhaa
/- A table: Reap. -/
namespace Go.Proofs.Ytjolkcomlindhaa
open Go.RowKit Go.Shelf Go.Maps Go.Sort

def delP (T : List Pr) (n : Int) : List Pr := T.filter fun x => !decide (x.pid = n)
theorem lookP_del_ne {T : List Pr} {n q : Int} (h : q ≠ n) : lookP (delP T n) q = lookP T q := by
  induction T with
  | nil => rfl
  | cons y r ih =>
    unfold delP at ih ⊢
    by_cases e : y.pid = n
    · rw [List.filter_cons_of_neg (by simp [e]), ih]
      conv => rhs; unfold lookP
      rw [if_neg (by omega)]
    · rw [List.filter_cons_of_pos (by simp [e])]
      unfold lookP
      rw [ih]
theorem lookP_del_eq (T : List Pr) (n : Int) : lookP (delP T n) n = none := lookP_none fun x hx => by
  have := (List.mem_filter.1 hx).2
  simpa using this
def rpE (T : List Pr) (n : Int) : Int := match lookP T n with | none => 1 | some x => if x.st = 2 then 0 else 14
def rpT (T : List Pr) (n : Int) : List Pr := match lookP T n with | none => T | some x => if x.st = 2 then delP T n else T
abbrev Pr.v (x : Pr) : Value := tkV x.pid x.j x.e x.s x.r (.slice x.A x.cs.length x.cap) x.st x.code
def rpV (T : List Pr) (n : Int) : Value := match lookP T n with | none => tkV 0 0 0 0 0 (.slice none 0 0) 0 0 | some x => if x.st = 2 then x.v else tkV 0 0 0 0 0 (.slice none 0 0) 0 0
section
variable {w w' : World} {p k : Nat} {m : Option Nat} {N : Int} {T : List Pr} {x : Pr}
/-- One process has gone. -/
theorem TbAt.del {b : Nat} {n : Int} (h : TbAt w p (some b) k N T) {D : DataW Unit} (h2 : Says D rdP (fun n => (lookP T n).map (fun x => some x.b))) (hg : w.grownBy w' (some b)) (ho : w'.ownsMap Try.prog 3 ptE b k (D.del (ky n))) : TbAt w' p (some b) k N (delP T n) ∧ Tt w w' p (some b) T := by
  have kp : ∀ {g : Nat} {t : TypeId} {cs : Array Value}, Bk w g t cs → Bk w' g t cs := fun {g t cs} q => q.grown hg (fun e => h.ne q (by rw [e]))
  have csk : ∀ {A : Option Addr} {zs : List Int}, Cs w A zs → Cs w' A zs := fun {A zs} q => by
    have hblk : ∀ ad, A = some ad → w'.heap[ad.block]? = w.heap[ad.block]? := fun ad e => by
      obtain ⟨cur, hc⟩ := q.cells ad e
      have hk : Bk w ad.block 3 cur := hc
      rw [hc]; exact kp hk
    refine ⟨?_, fun ad e => ?_⟩
    · rcases q.ints with e | ⟨ad, e, h1, h2⟩
      · exact .inl e
      · refine .inr ⟨ad, e, Nat.lt_of_lt_of_le h1 hg.size, fun j hj => ?_⟩
        rw [← h2 j hj]
        simp only [World.cell?, block_add, hblk ad e]
    · obtain ⟨cur, hc⟩ := q.cells ad e
      exact ⟨cur, (hblk ad e).trans hc⟩
  refine ⟨⟨kp h.blk, (fun e => by cases e), fun b' e => ?_, fun y hy => ?_, h.up.sublist List.filter_sublist, h.apart.sublist List.filter_sublist, fun y hy => h.pids y (List.mem_filter.1 hy).1, h.few⟩, ⟨hg.os, hg.tape, hg.output, hg.size, fun i hi _ q _ => hg.block i hi (fun e => q (by rw [e]))⟩⟩
  · cases e
    refine ⟨_, ho, (h2.del n ho.isMap).congr fun q => ?_⟩
    by_cases e : q = n
    · subst e; rw [if_pos rfl, lookP_del_eq]; rfl
    · rw [if_neg e, lookP_del_ne e]
  · have q := h.procs y (List.mem_filter.1 hy).1
    exact ⟨kp q.blk, csk q.cs, q.len⟩
theorem gput8 (w : World) (g : Nat) (a b c d e f h i : Value) : w.grownBy (put8 w g a b c d e f h i) (some g) :=
  gtrans (gtrans (gtrans (gtrans (gtrans (gtrans (gtrans (gset w g 0 a) (gset _ g 1 b)) (gset _ g 2 c)) (gset _ g 3 d)) (gset _ g 4 e)) (gset _ g 5 f)) (gset _ g 6 h)) (gset _ g 7 i)
theorem Cs.far {V V' : World} {A : Option Addr} {zs : List Int} (q : Cs V A zs) {g t : Nat} {cs : Array Value} (hg : V.grownBy V' (some g)) (hk : Bk V g t cs) (ht : t ≠ 3) : Cs V' A zs := by
  have hblk : ∀ ad, A = some ad → V'.heap[ad.block]? = V.heap[ad.block]? := fun ad e => by
    obtain ⟨cur, hc⟩ := q.cells ad e
    refine hg.block _ (Array.getElem?_eq_some_iff.1 hc).1 (fun q => ?_)
    injection q with q
    unfold Bk at hk
    rw [← q, hc] at hk
    injection hk with hk
    injection hk with _ hk
    exact ht hk.symm
  refine ⟨?_, fun ad e => ?_⟩
  · rcases q.ints with e | ⟨ad, e, h1, h2⟩
    · exact .inl e
    · refine .inr ⟨ad, e, Nat.lt_of_lt_of_le h1 hg.size, fun j hj => ?_⟩
      rw [← h2 j hj]
      simp only [World.cell?, block_add, hblk ad e]
  · obtain ⟨cur, hc⟩ := q.cells ad e
    exact ⟨cur, (hblk ad e).trans hc⟩
theorem bk_ne {V : World} {g g' t t' : Nat} {cs cs' : Array Value} (h : Bk V g t cs) (h' : Bk V g' t' cs') (ht : t ≠ t') : g ≠ g' := by
  rintro rfl
  unfold Bk at h h'
  rw [h] at h'
  injection h' with h'
  injection h' with _ h'
  exact ht h'
/-- Something else has turned. -/
theorem TbAt.far {g t : Nat} {cs : Array Value} (h : TbAt w p m k N T) (hg : w.grownBy w' (some g)) (hk : Bk w g t cs) (ht : t ≠ 85 ∧ t ≠ 93 ∧ t ≠ 3) : TbAt w' p m k N T := by
  refine ⟨h.blk.grown hg (bk_ne h.blk hk (fun e => ht.1 e.symm)), h.none_, fun b e => ?_, fun x hx => ?_, h.up, h.apart, h.pids, h.few⟩
  · obtain ⟨D, h1, h2⟩ := h.own b e
    have nb := not_map hk h1
    exact ⟨D, h1.kept hg (by simpa using nb.symm), h2⟩
  · have q := h.procs x hx
    exact ⟨q.blk.grown hg (bk_ne q.blk hk (fun e => ht.2.1 e.symm)), q.cs.far hg hk ht.2.2, q.len⟩
theorem Bk.c8 {V : World} {b : Nat} {x : Pr} (h : Bk V b 93 x.cells) : V.cell? ⟨b, 0, none⟩ = some (.int .i64 x.pid) ∧ V.cell? ⟨b, 1, none⟩ = some (.int .i64 x.j) ∧ V.cell? ⟨b, 2, none⟩ = some (.int .i64 x.e) ∧ V.cell? ⟨b, 3, none⟩ = some (.int .i64 x.s) ∧ V.cell? ⟨b, 4, none⟩ = some (.int .i64 x.r) ∧ V.cell? ⟨b, 5, none⟩ = some (.slice x.A x.cs.length x.cap) ∧ V.cell? ⟨b, 6, none⟩ = some (.int .i64 x.st) ∧ V.cell? ⟨b, 7, none⟩ = some (.int .i64 x.code) :=
  ⟨h.cell 0 _ rfl, h.cell 1 _ rfl, h.cell 2 _ rfl, h.cell 3 _ rfl, h.cell 4 _ rfl, h.cell 5 _ rfl, h.cell 6 _ rfl, h.cell 7 _ rfl⟩
theorem Bk.z8 {V : World} {g t : Nat} {x0 x1 x2 x3 x4 x5 x6 x7 : Value} (h : Bk V g t #[x0, x1, x2, x3, x4, x5, x6, x7]) : (V.cell? ⟨g, 0, none⟩ = some x0 ∧ V.cell? ⟨g, 1, none⟩ = some x1 ∧ V.cell? ⟨g, 2, none⟩ = some x2 ∧ V.cell? ⟨g, 3, none⟩ = some x3 ∧ V.cell? ⟨g, 4, none⟩ = some x4 ∧ V.cell? ⟨g, 5, none⟩ = some x5 ∧ V.cell? ⟨g, 6, none⟩ = some x6 ∧ V.cell? ⟨g, 7, none⟩ = some x7) ∧ (V.frozen? ⟨g, 0, none⟩ = false ∧ V.frozen? ⟨g, 1, none⟩ = false ∧ V.frozen? ⟨g, 2, none⟩ = false ∧ V.frozen? ⟨g, 3, none⟩ = false ∧ V.frozen? ⟨g, 4, none⟩ = false ∧ V.frozen? ⟨g, 5, none⟩ = false ∧ V.frozen? ⟨g, 6, none⟩ = false ∧ V.frozen? ⟨g, 7, none⟩ = false) :=
  ⟨⟨h.cell 0 _ rfl, h.cell 1 _ rfl, h.cell 2 _ rfl, h.cell 3 _ rfl, h.cell 4 _ rfl, h.cell 5 _ rfl, h.cell 6 _ rfl, h.cell 7 _ rfl⟩, h.frozen 0, h.frozen 1, h.frozen 2, h.frozen 3, h.frozen 4, h.frozen 5, h.frozen 6, h.frozen 7⟩
set_option maxRecDepth 100000 in
set_option maxHeartbeats 2000000 in
theorem reap_any (h : TbAt w p m k N T) {n : Int} (hn : wf n) : Calls Try.prog 39 #[.pointer (some ⟨p, 0, none⟩), .int .i64 n] w fun e w' => e = .returned (.tuple #[rpV T n, .int .i64 (rpE T n)]) ∧ TbAt w' p m k N (rpT T n) ∧ Tt w w' p m T ∧ (∀ x, lookP T n = some x → Cs w' x.A x.cs) := by
  have kz0 := Bk.new w 61 (tkC 0 0 0 0 0 (.slice none 0 0) 0 0)
  have la := below_alloc w (.cells (tkC 0 0 0 0 0 (.slice none 0 0) 0 0) 61)
  have h1 := h.next la
  have H := Lib.hid h1
  cases hf : lookP T n with
  | none =>
    have K := Lib.hid (find_none h1 hn hf)
    have e0 := Lib.hid (show rpE T n = 1 ∧ rpT T n = T ∧ rpV T n = tkV 0 0 0 0 0 (.slice none 0 0) 0 0 from by simp [rpE, rpT, rpV, hf])
    have d0 := kz0.cell 0 _ rfl
    have d1 := kz0.cell 1 _ rfl
    have d2 := kz0.cell 2 _ rfl
    have d3 := kz0.cell 3 _ rfl
    have d4 := kz0.cell 4 _ rfl
    have d5 := kz0.cell 5 _ rfl
    have d6 := kz0.cell 6 _ rfl
    have d7 := kz0.cell 7 _ rfl
    have f0 := kz0.frozen 0
    have f1 := kz0.frozen 1
    have f2 := kz0.frozen 2
    have f3 := kz0.frozen 3
    have f4 := kz0.frozen 4
    have f5 := kz0.frozen 5
    have f6 := kz0.frozen 6
    have f7 := kz0.frozen 7
    clear hf h hn h1 kz0
    go_enter Try.func39, Try.ntmps39
    go_wp2_with fail
    refine K.out.mono ?_
    rintro y w1 ⟨rfl, rfl⟩
    go_wp2_with fail
    refine bodyPost_ret (v := .tuple #[tkV 0 0 0 0 0 (.slice none 0 0) 0 0, .int .i64 1]) (by simp [results, Try.results39, go_sem, d0, d1, d2, d3, d4, d5, d6, d7]) rfl ⟨by rw [e0.out.1, e0.out.2.2], by rw [e0.out.2.1]; exact H.out, Tt.of_below la, ?_⟩
    intro x hx
    cases hx
  | some x =>
    have K := Lib.hid (find_some h1 hn hf)
    obtain ⟨hm, hp⟩ := lookP_mem hf
    have hb := (h1.procs x hm).blk
    have hcs := (h1.procs x hm).cs
    have x6 := hb.cell 6 _ rfl
    have d0 := kz0.cell 0 _ rfl
    have d1 := kz0.cell 1 _ rfl
    have d2 := kz0.cell 2 _ rfl
    have d3 := kz0.cell 3 _ rfl
    have d4 := kz0.cell 4 _ rfl
    have d5 := kz0.cell 5 _ rfl
    have d6 := kz0.cell 6 _ rfl
    have d7 := kz0.cell 7 _ rfl
    have f0 := kz0.frozen 0
    have f1 := kz0.frozen 1
    have f2 := kz0.frozen 2
    have f3 := kz0.frozen 3
    have f4 := kz0.frozen 4
    have f5 := kz0.frozen 5
    have f6 := kz0.frozen 6
    have f7 := kz0.frozen 7
    by_cases hs : x.st = 2
    · have e0 := Lib.hid (show rpE T n = 0 ∧ rpT T n = delP T n ∧ rpV T n = x.v from by simp [rpE, rpT, rpV, hf, hs])
      have t0 : (x.st != 2) = false := by simp [hs]
      cases m with
      | none => rw [h1.none_ rfl] at hm; cases hm
      | some b =>
        obtain ⟨D, ho, hS⟩ := h1.own b rfl
        have c1 := h1.blk.cell 1 _ rfl
        have HN := Lib.hid hn
        have nb := h1.ne kz0
        have nx := h1.ne hb
        clear hf h hm hp hs hn
        go_enter Try.func39, Try.ntmps39
        go_wp2_with fail
        refine K.out.mono ?_
        rintro y w1 ⟨rfl, rfl⟩
        go_wp2_with (at_delete; refine wpList_delete_own _ rfl _ _ 83 3 rfl 90 law3 Try.underlying83 _ b k D rfl ho _ _ rfl (key_of HN.out) ?_; intro w2 ho2 ht2; have kx2 := hb.grown ht2.grown (fun e => nx (by rw [e])); have kz2 := kz0.grown ht2.grown (fun e => nb (by rw [e])); obtain ⟨y0, y1, y2, y3, y4, y5, y6, y7⟩ := kx2.c8; obtain ⟨⟨q0, q1, q2, q3, q4, q5, q6, q7⟩, g0, g1, g2, g3, g4, g5, g6, g7⟩ := kz2.z8)
        have kz := kz2.put8 (a := .int .i64 x.pid) (b := .int .i64 x.j) (c := .int .i64 x.e) (d := .int .i64 x.s) (e := .int .i64 x.r) (f := .slice x.A x.cs.length x.cap) (h := .int .i64 x.st) (i := .int .i64 x.code)
        obtain ⟨⟨z0, z1, z2, z3, z4, z5, z6, z7⟩, -⟩ := kz.z8
        obtain ⟨hT, hTt⟩ := h1.del hS ht2.grown ho2
        have hcp : Cs w2 x.A x.cs := by
          refine ⟨?_, fun ad e => ?_⟩
          · rcases hcs.ints with e | ⟨ad, e, i1, i2⟩
            · exact .inl e
            · obtain ⟨cur, hc⟩ := hcs.cells ad e
              have hk : Bk (w.alloc (.cells (tkC 0 0 0 0 0 (.slice none 0 0) 0 0) 61)) ad.block 3 cur := hc
              have hk2 := hk.grown ht2.grown (fun e => h1.ne hk (by rw [e]))
              refine .inr ⟨ad, e, Nat.lt_of_lt_of_le i1 ht2.grown.size, fun j hj => ?_⟩
              rw [← i2 j hj]
              unfold Bk at hk hk2
              simp only [World.cell?, block_add, hk, hk2]
          · obtain ⟨cur, hc⟩ := hcs.cells ad e
            have hk : Bk (w.alloc (.cells (tkC 0 0 0 0 0 (.slice none 0 0) 0 0) 61)) ad.block 3 cur := hc
            exact ⟨cur, hk.grown ht2.grown (fun e => h1.ne hk (by rw [e]))⟩
        have hg8 := gput8 w2 w.heap.size (.int .i64 x.pid) (.int .i64 x.j) (.int .i64 x.e) (.int .i64 x.s) (.int .i64 x.r) (.slice x.A x.cs.length x.cap) (.int .i64 x.st) (.int .i64 x.code)
        refine bodyPost_ret (v := .tuple #[x.v, .int .i64 0]) (by simp [results, Try.results39, go_sem, z0, z1, z2, z3, z4, z5, z6, z7]) rfl ⟨by rw [e0.out.1, e0.out.2.2], by rw [e0.out.2.1]; exact hT.far hg8 kz2 (by decide), ?_, ?_⟩
        · have s1 := la.size
          have s2 := hTt.size
          have s3 := hg8.size
          refine ⟨hg8.os.trans (hTt.os.trans la.os), hg8.tape.trans (hTt.tape.trans la.tape), hg8.output.trans (hTt.output.trans la.output), Nat.le_trans s1 (Nat.le_trans s2 s3), fun i hi a1 a2 a3 => ?_⟩
          refine (hg8.block i (by omega) (fun e => by injection e with e; omega)).trans ((hTt.block i (by omega) a1 a2 a3).trans (la.block i hi))
        · intro x' hx'
          cases hx'
          exact hcp.far hg8 kz2 (by decide)
    · have e0 := Lib.hid (show rpE T n = 14 ∧ rpT T n = T ∧ rpV T n = tkV 0 0 0 0 0 (.slice none 0 0) 0 0 from by simp [rpE, rpT, rpV, hf, hs])
      have t0 : (x.st != 2) = true := by simpa using hs
      clear h hm hp hs hn h1 kz0 hb hf
      go_enter Try.func39, Try.ntmps39
      go_wp2_with fail
      refine K.out.mono ?_
      rintro y w1 ⟨rfl, rfl⟩
      go_wp2_with fail
      refine bodyPost_ret (v := .tuple #[tkV 0 0 0 0 0 (.slice none 0 0) 0 0, .int .i64 14]) (by simp [results, Try.results39, go_sem, d0, d1, d2, d3, d4, d5, d6, d7]) rfl ⟨by rw [e0.out.1, e0.out.2.2], by rw [e0.out.2.1]; exact H.out, Tt.of_below la, ?_⟩
      intro x' hx'
      cases hx'
      exact hcs
end
end Go.Proofs.Ytjolkcomlindhaa
/- A table: Spawn. -/
namespace Go.Proofs.Ytjolkcomlindhaa
open Go.RowKit Go.Shelf Go.Maps Go.Sort

theorem undrew2 {B : Nat} {a w : World} (h : Below B a.drew w) : Below B a w := ⟨h.os, h.tape, h.output, h.size, h.block⟩
theorem eqm83 (w : World) (r : Option Nat) : (binOp .eql 83 (.map r) (.map none)).run Try.prog w = .ok (.bool r.isNone) w := run_eql_map_nil w _ _ _ r Try.underlying83
attribute [local go_sem] eqm83
/-- A table whose process is about to be laid. -/
structure Sw (W : World) (p bx b k : Nat) (N1 : Int) (T : List Pr) (j e s r : Int) (A : Option Addr) (n cap : Nat) (zs : List Int) : Prop where
  blk : Bk W p 85 #[.int .i64 N1, .map (some b)]
  box : Bk W bx 61 (tkC N1 j e s r (.slice A n cap) 0 0)
  own : ∃ D, W.ownsMap Try.prog 3 ptE b k D ∧ Says D rdP (fun n => (lookP T n).map (fun x => some x.b))
  procs : ∀ x ∈ T, PAt W x
  ints : IntsAt W A zs
section
variable {w W W' : World} {p bx b k : Nat} {N1 : Int} {T : List Pr} {j e s r : Int} {A : Option Addr} {n cap : Nat} {zs : List Int} {m : Option Nat}
theorem Sw.next (h : Sw W p bx b k N1 T j e s r A n cap zs) (hb : Below W.heap.size W W') : Sw W' p bx b k N1 T j e s r A n cap zs := by
  obtain ⟨D, h1, h2⟩ := h.own
  exact ⟨h.blk.next hb, h.box.next hb, ⟨D, h1.kept (only_of_below hb) (by simp), h2⟩, fun x hx => (h.procs x hx).next hb, h.ints.next hb⟩
theorem Sw.cells (h : Sw W p bx b k N1 T j e s r A n cap zs) : W.cell? ⟨p, 1, none⟩ = some (.map (some b)) ∧ W.cell? ⟨bx, 0, none⟩ = some (.int .i64 N1) ∧ W.cell? ⟨bx, 1, none⟩ = some (.int .i64 j) ∧ W.cell? ⟨bx, 2, none⟩ = some (.int .i64 e) ∧ W.cell? ⟨bx, 3, none⟩ = some (.int .i64 s) ∧ W.cell? ⟨bx, 4, none⟩ = some (.int .i64 r) ∧ W.cell? ⟨bx, 5, none⟩ = some (.slice A n cap) ∧ W.cell? ⟨bx, 6, none⟩ = some (.int .i64 0) ∧ W.cell? ⟨bx, 7, none⟩ = some (.int .i64 0) :=
  ⟨h.blk.cell 1 _ rfl, h.box.cell 0 _ rfl, h.box.cell 1 _ rfl, h.box.cell 2 _ rfl, h.box.cell 3 _ rfl, h.box.cell 4 _ rfl, h.box.cell 5 _ rfl, h.box.cell 6 _ rfl, h.box.cell 7 _ rfl⟩
theorem lookP_snoc {T : List Pr} {x : Pr} (h : ∀ y ∈ T, y.pid ≠ x.pid) (n : Int) : lookP (T ++ [x]) n = if n = x.pid then some x else lookP T n := by
  induction T with
  | nil =>
    simp only [List.nil_append, lookP]
    by_cases e : n = x.pid
    · rw [if_pos e.symm, if_pos e]
    · rw [if_neg (fun q => e q.symm), if_neg e]
  | cons y t ih =>
    rw [List.cons_append]
    unfold lookP
    have hy := h y List.mem_cons_self
    rw [ih fun z hz => h z (List.mem_cons_of_mem _ hz)]
    by_cases e : n = x.pid
    · rw [if_neg (by omega), if_pos e, if_pos e]
    · rw [if_neg e, if_neg e]
/-- The process is laid. -/
theorem Sw.laid {w7 w8 : World} {A' : Option Addr} {cap' : Nat} {D : DataW Unit} {N : Int} {x : Pr} (h : Sw w7 p bx b k N1 T j e s r A n cap zs) (hn : zs.length = n) (hl : n ≤ 1000) (hcs : Cs w7 A' zs)
    (hS : Says D rdP (fun n => (lookP T n).map (fun x => some x.b))) (hx : x = ⟨N1, j, e, s, r, 0, 0, 0, A', cap', zs, w7.heap.size⟩)
    (ho : w8.ownsMap Try.prog 3 ptE b (k + 1) (D.put (ky N1) (rdP (some w7.heap.size)))) (hg0 : (w7.alloc (.cells #[.int .i64 N1, .int .i64 j, .int .i64 e, .int .i64 s, .int .i64 r, .slice A' n cap', .int .i64 0, .int .i64 0, .int .i64 0] 93)).grownBy w8 (some b))
    (up : T.Pairwise fun a b => a.pid < b.pid) (ap : T.Pairwise fun a b => a.b ≠ b.b) (pids : ∀ x ∈ T, 1 ≤ x.pid ∧ x.pid ≤ N) (e1 : N1 = N + 1) (few : 0 ≤ N ∧ N < 1000) :
    TbAt w8 p (some b) (k + 1) N1 (T ++ [x]) := by
  have hg : (w7.alloc (.cells x.cells 93)).grownBy w8 (some b) := by rw [hx]; subst hn; exact hg0
  have hb := below_alloc w7 (.cells x.cells 93)
  have h1 := h.next hb
  obtain ⟨D1, o1, _⟩ := h1.own
  have kp : ∀ {g : Nat} {t : TypeId} {cs : Array Value}, Bk (w7.alloc (.cells x.cells 93)) g t cs → Bk w8 g t cs := fun {g t cs} q => q.grown hg (not_map q o1)
  have kx : Bk (w7.alloc (.cells x.cells 93)) w7.heap.size 93 x.cells := Bk.new _ _ _
  have csk : ∀ {B : Option Addr} {ys : List Int}, Cs w7 B ys → Cs w8 B ys := fun {B ys} q => by
    have q1 := q.next hb
    have hblk : ∀ ad, B = some ad → w8.heap[ad.block]? = (w7.alloc (.cells x.cells 93)).heap[ad.block]? := fun ad e => by
      obtain ⟨cur, hc⟩ := q1.cells ad e
      have hk : Bk (w7.alloc (.cells x.cells 93)) ad.block 3 cur := hc
      rw [hc]; exact kp hk
    refine ⟨?_, fun ad e => ?_⟩
    · rcases q1.ints with e | ⟨ad, e, h1, h2⟩
      · exact .inl e
      · refine .inr ⟨ad, e, Nat.lt_of_lt_of_le h1 hg.size, fun j hj => ?_⟩
        rw [← h2 j hj]
        simp only [World.cell?, block_add, hblk ad e]
    · obtain ⟨cur, hc⟩ := q1.cells ad e
      exact ⟨cur, (hblk ad e).trans hc⟩
  have hpx : x.pid = N1 := by rw [hx]
  have hbx : x.b = w7.heap.size := by rw [hx]
  refine ⟨kp h1.blk, (fun q => by cases q), fun b' q => ?_, fun y hy => ?_, ?_, ?_, fun y hy => ?_, by omega⟩
  · cases q
    refine ⟨_, ho, (hS.put N1 _ ho.isMap).congr fun q => ?_⟩
    rw [lookP_snoc (fun y hy => by have := pids y hy; omega), hpx]
    by_cases eq : q = N1
    · rw [if_pos eq, if_pos eq, ← hbx]; rfl
    · rw [if_neg eq, if_neg eq]
  · rcases List.mem_append.1 hy with q | q
    · have q := h.procs y q
      exact ⟨kp (q.blk.next hb), csk q.cs, q.len⟩
    · have q : y = x := by simpa using q
      subst q
      refine ⟨by rw [hbx]; exact kp kx, ?_, ?_⟩
      · rw [hx]; exact csk hcs
      · rw [hx]; show zs.length ≤ 1000; omega
  · rw [List.pairwise_append]
    refine ⟨up, List.pairwise_singleton _ _, fun a ha c hc => ?_⟩
    have q : c = x := by simpa using hc
    have := pids a ha
    rw [q, hpx]; omega
  · rw [List.pairwise_append]
    refine ⟨ap, List.pairwise_singleton _ _, fun a ha c hc => ?_⟩
    have q : c = x := by simpa using hc
    have := (h.procs a ha).blk.lt
    rw [q, hbx]; omega
  · rcases List.mem_append.1 hy with q | q
    · have := pids y q; omega
    · have q : y = x := by simpa using q
      rw [q, hpx]; omega
end
end Go.Proofs.Ytjolkcomlindhaa
