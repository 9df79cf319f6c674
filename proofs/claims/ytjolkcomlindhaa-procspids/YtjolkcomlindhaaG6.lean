/- A table: Signal, Signalled. -/
import Derived.Test.YtjolkcomlindhaaG5
namespace Go.Proofs.Ytjolkcomlindhaa
open Go.RowKit Go.Shelf Go.Maps Go.Sort

/-- A process that is signalled. -/
def sgP (x : Pr) (g : Int) : Pr := { x with st := if g = 9 ∧ x.st = 0 then 2 else x.st, code := if g = 9 ∧ x.st = 0 then 137 else x.code, sig := if x.sig = 9 then 9 else g }
def sgE (T : List Pr) (n g : Int) : Int := match lookP T n with | none => 1 | some x => if g = 15 ∨ g = 9 then (if x.st = 2 then 14 else 0) else 1
def sgT (T : List Pr) (n g : Int) : List Pr := match lookP T n with | none => T | some x => if g = 15 ∨ g = 9 then (if x.st = 2 then T else updP T (sgP x g)) else T
section
variable {w : World} {p k : Nat} {m : Option Nat} {N : Int} {T : List Pr}
set_option maxRecDepth 100000 in
set_option maxHeartbeats 1000000 in
theorem signal_any (h : TbAt w p m k N T) {n : Int} (g : Int) (hn : wf n) : Calls Try.prog 41 #[.pointer (some ⟨p, 0, none⟩), .int .i64 n, .int .i64 g] w fun e w' => e = .returned (.int .i64 (sgE T n g)) ∧ TbAt w' p m k N (sgT T n g) ∧ Tt w w' p m T := by
  have H := Lib.hid h
  cases hf : lookP T n with
  | none =>
    have K := Lib.hid (find_none h hn hf)
    have e0 := Lib.hid (show sgE T n g = 1 ∧ sgT T n g = T from by simp [sgE, sgT, hf])
    clear hf h hn
    go_enter Try.func41, Try.ntmps41
    go_wp2_with fail
    refine K.out.mono ?_
    rintro y w1 ⟨rfl, rfl⟩
    go_wp2_with fail
    go_ret
    exact ⟨by rw [e0.out.1]; rfl, by rw [e0.out.2]; exact H.out, Tt.of_below (Below.refl _ _)⟩
  | some x =>
    have K := Lib.hid (find_some h hn hf)
    obtain ⟨hm, hp⟩ := lookP_mem hf
    have hb := (h.procs x hm).blk
    have hfx : lookP T x.pid = some x := by rw [hp]; exact hf
    obtain ⟨⟨c6, c7, c8⟩, f6, f7, f8⟩ := hb.c9
    by_cases hg : g = 15 ∨ g = 9
    · by_cases hs : x.st = 2
      · have e0 := Lib.hid (show sgE T n g = 14 ∧ sgT T n g = T from by simp [sgE, sgT, hf, hs, hg])
        have t0 : (x.st == 2) = true := by simp [hs]
        clear h hm hp hb hs hn hfx
        rcases hg with rfl | rfl
        · clear hf
          go_enter Try.func41, Try.ntmps41
          go_wp2_with fail
          refine K.out.mono ?_
          rintro y w1 ⟨rfl, rfl⟩
          go_wp2_with fail
          go_ret
          exact ⟨by rw [e0.out.1]; rfl, by rw [e0.out.2]; exact H.out, Tt.of_below (Below.refl _ _)⟩
        · clear hf
          go_enter Try.func41, Try.ntmps41
          go_wp2_with fail
          refine K.out.mono ?_
          rintro y w1 ⟨rfl, rfl⟩
          go_wp2_with fail
          go_ret
          exact ⟨by rw [e0.out.1]; rfl, by rw [e0.out.2]; exact H.out, Tt.of_below (Below.refl _ _)⟩
      · have e0 := Lib.hid (show sgE T n g = 0 ∧ sgT T n g = updP T (sgP x g) from by simp [sgE, sgT, hf, hs, hg])
        have t0 : (x.st == 2) = false := by simpa using hs
        rcases hg with rfl | rfl
        · by_cases h9 : x.sig = 9
          · have t1 : (x.sig != 9) = false := by simp [h9]
            have ex : sgP x 15 = x := by simp [sgP, h9]; cases x; simp_all
            have U := Lib.hid (h.upd (x' := sgP x 15) (x := x) (by rw [ex]; exact hfx) (by rw [ex]) (by rw [ex]) (by rw [ex]) (w' := w) (only_of_below (Below.refl _ w) |>.but _) (by rw [ex]; exact hb))
            clear hf h hm hp hb hs hn hfx h9 ex
            go_enter Try.func41, Try.ntmps41
            go_wp2_with fail
            refine K.out.mono ?_
            rintro y w1 ⟨rfl, rfl⟩
            go_wp2_with fail
            go_ret
            exact ⟨by rw [e0.out.1]; rfl, by rw [e0.out.2]; exact U.out.1, U.out.2⟩
          · have t1 : (x.sig != 9) = true := by simpa using h9
            have U := Lib.hid (h.upd (x' := sgP x 15) (x := x) hfx rfl rfl rfl (gset w x.b 8 (.int .i64 15)) (by have q := hb.set 8 (.int .i64 15); simpa [sgP, h9, Pr.cells] using q))
            clear hf h hm hp hb hs hn hfx h9
            go_enter Try.func41, Try.ntmps41
            go_wp2_with fail
            refine K.out.mono ?_
            rintro y w1 ⟨rfl, rfl⟩
            go_wp2_with fail
            go_ret
            exact ⟨by rw [e0.out.1]; rfl, by rw [e0.out.2]; exact U.out.1, U.out.2⟩
        · by_cases h0 : x.st = 0
          · have t2 : (x.st == 0) = true := by simp [h0]
            have KE := Lib.hid (exit_any x.b x 137 w hb)
            have hb2 : Bk ((w.setCell ⟨x.b, 6, none⟩ (.int .i64 2)).setCell ⟨x.b, 7, none⟩ (.int .i64 137)) x.b 93 ({ x with st := 2, code := 137 } : Pr).cells := (hb.set 6 (.int .i64 2)).set 7 (.int .i64 137)
            obtain ⟨⟨d6, d7, d8⟩, g6, g7, g8⟩ := hb2.c9
            by_cases h9 : x.sig = 9
            · have t1 : (x.sig != 9) = false := by simp [h9]
              have U := Lib.hid (h.upd (x' := sgP x 9) (x := x) hfx rfl rfl rfl (gtrans (gset w x.b 6 (.int .i64 2)) (gset _ x.b 7 (.int .i64 137))) (by have q := hb2; simpa [sgP, h9, h0, Pr.cells] using q))
              clear hf h hm hp hb hs hn hfx h9 h0 hb2
              go_enter Try.func41, Try.ntmps41
              go_wp2_with fail
              refine K.out.mono ?_
              rintro y w1 ⟨rfl, rfl⟩
              go_wp2_with fail
              refine KE.out.mono ?_
              rintro y w2 ⟨⟨v, rfl⟩, rfl⟩
              go_wp2_with fail
              go_ret
              exact ⟨by rw [e0.out.1]; rfl, by rw [e0.out.2]; exact U.out.1, U.out.2⟩
            · have t1 : (x.sig != 9) = true := by simpa using h9
              have U := Lib.hid (h.upd (x' := sgP x 9) (x := x) hfx rfl rfl rfl (gtrans (gtrans (gset w x.b 6 (.int .i64 2)) (gset _ x.b 7 (.int .i64 137))) (gset _ x.b 8 (.int .i64 9))) (by have q := hb2.set 8 (.int .i64 9); simpa [sgP, h9, h0, Pr.cells] using q))
              clear hf h hm hp hb hs hn hfx h9 h0 hb2
              go_enter Try.func41, Try.ntmps41
              go_wp2_with fail
              refine K.out.mono ?_
              rintro y w1 ⟨rfl, rfl⟩
              go_wp2_with fail
              refine KE.out.mono ?_
              rintro y w2 ⟨⟨v, rfl⟩, rfl⟩
              go_wp2_with fail
              go_ret
              exact ⟨by rw [e0.out.1]; rfl, by rw [e0.out.2]; exact U.out.1, U.out.2⟩
          · have t2 : (x.st == 0) = false := by simpa using h0
            by_cases h9 : x.sig = 9
            · have t1 : (x.sig != 9) = false := by simp [h9]
              have ex : sgP x 9 = x := by simp [sgP, h9, h0]; cases x; simp_all
              have U := Lib.hid (h.upd (x' := sgP x 9) (x := x) (by rw [ex]; exact hfx) (by rw [ex]) (by rw [ex]) (by rw [ex]) (w' := w) (only_of_below (Below.refl _ w) |>.but _) (by rw [ex]; exact hb))
              clear hf h hm hp hb hs hn hfx h9 h0 ex
              go_enter Try.func41, Try.ntmps41
              go_wp2_with fail
              refine K.out.mono ?_
              rintro y w1 ⟨rfl, rfl⟩
              go_wp2_with fail
              go_ret
              exact ⟨by rw [e0.out.1]; rfl, by rw [e0.out.2]; exact U.out.1, U.out.2⟩
            · have t1 : (x.sig != 9) = true := by simpa using h9
              have U := Lib.hid (h.upd (x' := sgP x 9) (x := x) hfx rfl rfl rfl (gset w x.b 8 (.int .i64 9)) (by have q := hb.set 8 (.int .i64 9); simpa [sgP, h9, h0, Pr.cells] using q))
              clear hf h hm hp hb hs hn hfx h9 h0
              go_enter Try.func41, Try.ntmps41
              go_wp2_with fail
              refine K.out.mono ?_
              rintro y w1 ⟨rfl, rfl⟩
              go_wp2_with fail
              go_ret
              exact ⟨by rw [e0.out.1]; rfl, by rw [e0.out.2]; exact U.out.1, U.out.2⟩
    · have e0 := Lib.hid (show sgE T n g = 1 ∧ sgT T n g = T from by simp [sgE, sgT, hf, hg])
      have t1 : (g != 15) = true := by simp; omega
      have t2 : (g != 9) = true := by simp; omega
      clear hf h hm hp hb hn hfx hg
      go_enter Try.func41, Try.ntmps41
      go_wp2_with fail
      refine K.out.mono ?_
      rintro y w1 ⟨rfl, rfl⟩
      go_wp2_with fail
      go_ret
      exact ⟨by rw [e0.out.1]; rfl, by rw [e0.out.2]; exact H.out, Tt.of_below (Below.refl _ _)⟩
def sgnd (T : List Pr) (n : Int) : Int := match lookP T n with | none => 0 | some x => x.sig
set_option maxRecDepth 100000 in
set_option maxHeartbeats 1000000 in
theorem signalled_any (h : TbAt w p m k N T) {n : Int} (hn : wf n) : Calls Try.prog 43 #[.pointer (some ⟨p, 0, none⟩), .int .i64 n] w fun e w' => e = .returned (.int .i64 (sgnd T n)) ∧ w = w' := by
  cases hf : lookP T n with
  | none =>
    have K := Lib.hid (find_none h hn hf)
    have e0 := Lib.hid (show sgnd T n = 0 from by simp [sgnd, hf])
    clear hf h hn
    go_enter Try.func43, Try.ntmps43
    go_wp2_with fail
    refine K.out.mono ?_
    rintro y w1 ⟨rfl, rfl⟩
    go_wp2_with fail
    go_ret
    exact ⟨by rw [e0.out]; rfl, rfl⟩
  | some x =>
    have K := Lib.hid (find_some h hn hf)
    obtain ⟨hm, hp⟩ := lookP_mem hf
    obtain ⟨⟨c6, c7, c8⟩, f6, f7, f8⟩ := (h.procs x hm).blk.c9
    have e0 := Lib.hid (show sgnd T n = x.sig from by simp [sgnd, hf])
    clear hf h hn hm hp
    go_enter Try.func43, Try.ntmps43
    go_wp2_with fail
    refine K.out.mono ?_
    rintro y w1 ⟨rfl, rfl⟩
    go_wp2_with fail
    go_ret
    exact ⟨by rw [e0.out]; rfl, rfl⟩
end
end Go.Proofs.Ytjolkcomlindhaa
