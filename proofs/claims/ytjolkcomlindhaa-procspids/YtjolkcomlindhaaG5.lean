/- A table: Release, Exit, Signal, Signalled, walked. -/
import Derived.Test.YtjolkcomlindhaaG4
namespace Go.Proofs.Ytjolkcomlindhaa
open Go.RowKit Go.Shelf Go.Maps Go.Sort

def relE (T : List Pr) (n : Int) : Int := match lookP T n with | none => 1 | some x => if x.st = 0 then 0 else 14
def relT (T : List Pr) (n : Int) : List Pr := match lookP T n with | none => T | some x => if x.st = 0 then updP T { x with st := 1 } else T
theorem gset (w : World) (b i : Nat) (v : Value) : w.grownBy (w.setCell ⟨b, i, none⟩ v) (some b) := by
  have hb := (Below.refl 0 w).setCell (p := ⟨b, i, none⟩) (Nat.zero_le _) v
  exact ⟨hb.os, hb.tape, hb.output, hb.size, fun q _ hne => heap_setCell_other w ⟨b, i, none⟩ q v (fun e => hne (by rw [e]))⟩
theorem gtrans {w w1 w2 : World} {b : Nat} (h : w.grownBy w1 (some b)) (k : w1.grownBy w2 (some b)) : w.grownBy w2 (some b) :=
  ⟨k.os.trans h.os, k.tape.trans h.tape, k.output.trans h.output, Nat.le_trans h.size k.size, fun i hi hne => (k.block i (Nat.lt_of_lt_of_le hi h.size) hne).trans (h.block i hi hne)⟩
section
variable {w : World} {p k : Nat} {m : Option Nat} {N : Int} {T : List Pr}
/-- What lies in a process. -/
theorem Bk.c9 {w : World} {b : Nat} {x : Pr} (h : Bk w b 93 x.cells) : (w.cell? ⟨b, 6, none⟩ = some (.int .i64 x.st) ∧ w.cell? ⟨b, 7, none⟩ = some (.int .i64 x.code) ∧ w.cell? ⟨b, 8, none⟩ = some (.int .i64 x.sig)) ∧ (w.frozen? ⟨b, 6, none⟩ = false ∧ w.frozen? ⟨b, 7, none⟩ = false ∧ w.frozen? ⟨b, 8, none⟩ = false) :=
  ⟨⟨h.cell 6 _ rfl, h.cell 7 _ rfl, h.cell 8 _ rfl⟩, h.frozen 6, h.frozen 7, h.frozen 8⟩
theorem find_none (h : TbAt w p m k N T) {n : Int} (hn : wf n) (hf : lookP T n = none) : Calls Try.prog 58 #[.pointer (some ⟨p, 0, none⟩), .int .i64 n] w fun e w' => e = .returned (.pointer none) ∧ w = w' := by
  have := find_any h hn
  rw [hf] at this
  exact this
theorem find_some (h : TbAt w p m k N T) {n : Int} {x : Pr} (hn : wf n) (hf : lookP T n = some x) : Calls Try.prog 58 #[.pointer (some ⟨p, 0, none⟩), .int .i64 n] w fun e w' => e = .returned (.pointer (some ⟨x.b, 0, none⟩)) ∧ w = w' := by
  have := find_any h hn
  rw [hf] at this
  exact this
set_option maxRecDepth 100000 in
set_option maxHeartbeats 1000000 in
theorem release_any (h : TbAt w p m k N T) {n : Int} (hn : wf n) : Calls Try.prog 40 #[.pointer (some ⟨p, 0, none⟩), .int .i64 n] w fun e w' => e = .returned (.int .i64 (relE T n)) ∧ TbAt w' p m k N (relT T n) ∧ Tt w w' p m T := by
  have H := Lib.hid h
  cases hf : lookP T n with
  | none =>
    have K := Lib.hid (find_none h hn hf)
    have e0 := Lib.hid (show relE T n = 1 ∧ relT T n = T from by simp [relE, relT, hf])
    clear hf h hn
    go_enter Try.func40, Try.ntmps40
    go_wp2_with fail
    refine K.out.mono ?_
    rintro y w1 ⟨rfl, rfl⟩
    go_wp2_with fail
    go_ret
    exact ⟨by rw [e0.out.1]; rfl, by rw [e0.out.2]; exact H.out, Tt.of_below (Below.refl _ _)⟩
  | some x =>
    have K := Lib.hid (find_some h hn hf)
    obtain ⟨hm, hp⟩ := lookP_mem hf
    have hb := (h.procs x hm).blk
    obtain ⟨⟨c6, c7, c8⟩, f6, f7, f8⟩ := hb.c9
    by_cases hs : x.st = 0
    · have e0 := Lib.hid (show relE T n = 0 ∧ relT T n = updP T { x with st := 1 } from by simp [relE, relT, hf, hs])
      have t0 : (x.st != 0) = false := by simp [hs]
      have U := Lib.hid (h.upd (x' := { x with st := 1 }) (x := x) (by show lookP T x.pid = _; rw [hp]; exact hf) rfl rfl rfl (gset w x.b 6 (.int .i64 1)) (hb.set 6 (.int .i64 1)))
      clear hf h hm hp hb hs hn
      go_enter Try.func40, Try.ntmps40
      go_wp2_with fail
      refine K.out.mono ?_
      rintro y w1 ⟨rfl, rfl⟩
      go_wp2_with fail
      go_ret
      exact ⟨by rw [e0.out.1]; rfl, by rw [e0.out.2]; exact U.out.1, U.out.2⟩
    · have e0 := Lib.hid (show relE T n = 14 ∧ relT T n = T from by simp [relE, relT, hf, hs])
      have t0 : (x.st != 0) = true := by simpa using hs
      clear hf h hm hp hb hs hn
      go_enter Try.func40, Try.ntmps40
      go_wp2_with fail
      refine K.out.mono ?_
      rintro y w1 ⟨rfl, rfl⟩
      go_wp2_with fail
      go_ret
      exact ⟨by rw [e0.out.1]; rfl, by rw [e0.out.2]; exact H.out, Tt.of_below (Below.refl _ _)⟩
set_option maxRecDepth 100000 in
set_option maxHeartbeats 1000000 in
theorem exit_any (b : Nat) (x : Pr) (code : Int) (V : World) (hb : Bk V b 93 x.cells) : Calls Try.prog 59 #[.pointer (some ⟨b, 0, none⟩), .int .i64 code] V fun e w' => (∃ v, e = .returned v) ∧ w' = (V.setCell ⟨b, 6, none⟩ (.int .i64 2)).setCell ⟨b, 7, none⟩ (.int .i64 code) := by
  obtain ⟨⟨c6, c7, c8⟩, f6, f7, f8⟩ := hb.c9
  have h2 : Bk (V.setCell ⟨b, 6, none⟩ (.int .i64 2)) b 93 ({ x with st := 2 } : Pr).cells := hb.set 6 _
  obtain ⟨⟨d6, d7, d8⟩, g6, g7, g8⟩ := h2.c9
  clear hb h2
  go_enter Try.func59, Try.ntmps59
  go_wp2_with fail
  go_end0
  exact ⟨⟨_, rfl⟩, rfl⟩
def exE (T : List Pr) (n c : Int) : Int := match lookP T n with | none => 1 | some x => if c < 0 ∨ 255 < c then 1 else if x.st = 1 then 0 else 14
def exT (T : List Pr) (n c : Int) : List Pr := match lookP T n with | none => T | some x => if c < 0 ∨ 255 < c then T else if x.st = 1 then updP T { x with st := 2, code := c } else T
set_option maxRecDepth 100000 in
set_option maxHeartbeats 1000000 in
theorem exitT_any (h : TbAt w p m k N T) {n : Int} (c : Int) (hn : wf n) : Calls Try.prog 42 #[.pointer (some ⟨p, 0, none⟩), .int .i64 n, .int .i64 c] w fun e w' => e = .returned (.int .i64 (exE T n c)) ∧ TbAt w' p m k N (exT T n c) ∧ Tt w w' p m T := by
  have H := Lib.hid h
  cases hf : lookP T n with
  | none =>
    have K := Lib.hid (find_none h hn hf)
    have e0 := Lib.hid (show exE T n c = 1 ∧ exT T n c = T from by simp [exE, exT, hf])
    clear hf h hn
    go_enter Try.func42, Try.ntmps42
    go_wp2_with fail
    refine K.out.mono ?_
    rintro y w1 ⟨rfl, rfl⟩
    go_wp2_with fail
    go_ret
    exact ⟨by rw [e0.out.1]; rfl, by rw [e0.out.2]; exact H.out, Tt.of_below (Below.refl _ _)⟩
  | some x =>
    have K := Lib.hid (find_some h hn hf)
    obtain ⟨hm, hp⟩ := lookP_mem hf
    have hb := (h.procs x hm).blk
    obtain ⟨⟨c6, c7, c8⟩, f6, f7, f8⟩ := hb.c9
    by_cases hc : c < 0
    · have e0 := Lib.hid (show exE T n c = 1 ∧ exT T n c = T from by simp [exE, exT, hf, hc])
      clear hf h hm hp hb hn
      go_enter Try.func42, Try.ntmps42
      go_wp2_with fail
      refine K.out.mono ?_
      rintro y w1 ⟨rfl, rfl⟩
      go_wp2_with fail
      go_ret
      exact ⟨by rw [e0.out.1]; rfl, by rw [e0.out.2]; exact H.out, Tt.of_below (Below.refl _ _)⟩
    by_cases hc2 : 255 < c
    · have e0 := Lib.hid (show exE T n c = 1 ∧ exT T n c = T from by simp [exE, exT, hf, hc2])
      clear hf h hm hp hb hn
      go_enter Try.func42, Try.ntmps42
      go_wp2_with fail
      refine K.out.mono ?_
      rintro y w1 ⟨rfl, rfl⟩
      go_wp2_with fail
      go_ret
      exact ⟨by rw [e0.out.1]; rfl, by rw [e0.out.2]; exact H.out, Tt.of_below (Below.refl _ _)⟩
    by_cases hs : x.st = 1
    · have e0 := Lib.hid (show exE T n c = 0 ∧ exT T n c = updP T { x with st := 2, code := c } from by simp [exE, exT, hf, hs, hc, hc2])
      have t0 : (x.st != 1) = false := by simp [hs]
      have KE := Lib.hid (exit_any x.b x c w hb)
      have U := Lib.hid (h.upd (x' := { x with st := 2, code := c }) (x := x) (by show lookP T x.pid = _; rw [hp]; exact hf) rfl rfl rfl (gtrans (gset w x.b 6 (.int .i64 2)) (gset _ x.b 7 (.int .i64 c))) ((hb.set 6 (.int .i64 2)).set 7 (.int .i64 c)))
      clear hf h hm hp hb hs hn
      go_enter Try.func42, Try.ntmps42
      go_wp2_with fail
      refine K.out.mono ?_
      rintro y w1 ⟨rfl, rfl⟩
      go_wp2_with fail
      refine KE.out.mono ?_
      rintro y w2 ⟨⟨v, rfl⟩, rfl⟩
      go_wp2_with fail
      go_ret
      exact ⟨by rw [e0.out.1]; rfl, by rw [e0.out.2]; exact U.out.1, U.out.2⟩
    · have e0 := Lib.hid (show exE T n c = 14 ∧ exT T n c = T from by simp [exE, exT, hf, hs, hc, hc2])
      have t0 : (x.st != 1) = true := by simpa using hs
      clear hf h hm hp hb hs hn
      go_enter Try.func42, Try.ntmps42
      go_wp2_with fail
      refine K.out.mono ?_
      rintro y w1 ⟨rfl, rfl⟩
      go_wp2_with fail
      go_ret
      exact ⟨by rw [e0.out.1]; rfl, by rw [e0.out.2]; exact H.out, Tt.of_below (Below.refl _ _)⟩
end
end Go.Proofs.Ytjolkcomlindhaa
