/- does. -/
import Derived.Test.YtjolkcomlindhaaP8
import Derived.Test.YtjolkcomlindhaaP9
import Derived.Test.YtjolkcomlindhaaGG12xMR4xG13
namespace Go.Proofs.Ytjolkcomlindhaa
open Go.RowKit Go.Shelf Go.Maps Go.Sort

abbrev Oq.v (o : Oq) : Value := .agg #[.int .i64 o.d, .int .i64 o.pid, .int .i64 o.n, .int .i64 o.p0, .int .i64 o.j, .int .i64 o.e, .int .i64 o.s, .int .i64 o.r, .slice o.A o.len o.cap, .int .i64 o.st, .int .i64 o.c]
abbrev dt0 : Array Value := #[.slice none 0 0, .slice none 0 0, .int .i64 0]
/-- What a call on both leaves. -/
def DoesR (w V : World) (p k : Nat) (m : Option Nat) (N : Int) (T : List Pr) (o : Oq) (e : Ending) (V' : World) : Prop :=
  (∃ b, e = .returned (.bool b)) ∧ ∃ m' N' T', Lt w V' p m' (k + 1) N' T' ∧ Dd N T o N' T' ∧ Tt V V' p m T
theorem Lt.few {w V : World} {p k k' : Nat} {m : Option Nat} {N : Int} {T : List Pr} (h : Lt w V p m k N T) (hk : k ≤ k') : Lt w V p m k' N T :=
  ⟨⟨h.tab.blk, h.tab.none_, fun b e => by obtain ⟨D, ⟨es, cl, q1, q2, q3, q4⟩, h2⟩ := h.tab.own b e; exact ⟨D, ⟨es, cl, q1, q2, by omega, q4⟩, h2⟩, h.tab.procs, h.tab.up, h.tab.apart, h.tab.pids, h.tab.few⟩, h.low, h.hp, h.hm, h.hb⟩
section
variable {w V : World} {p k : Nat} {m : Option Nat} {N : Int} {T : List Pr}
set_option maxRecDepth 100000 in
set_option maxHeartbeats 4000000 in
theorem does1 (h : Lt w V p m k N T) (o : Oq) (ho : OqOk w o) (hd : o.d = 1) :
    Calls Try.prog 35 #[.pointer (some ⟨p, 0, none⟩), .pointer (some ⟨V.heap.size, 0, none⟩), o.v] (V.alloc (.cells dt0 58)) (DoesR w V p k m N T o) := by
  obtain ⟨od, opid, on, op0, oj, oe, os, or, oA, olen, ocap, ozs, ost, oc⟩ := o
  dsimp only at hd
  subst hd
  have low := (below_alloc V (.cells dt0 58)).alloc (by simp) (.cells #[.int .i64 1, .int .i64 opid, .int .i64 on, .int .i64 op0, .int .i64 oj, .int .i64 oe, .int .i64 os, .int .i64 or, .slice oA olen ocap, .int .i64 ost, .int .i64 oc] 63)
  have kq := (Bk.new V 58 dt0).alloc (.cells #[.int .i64 1, .int .i64 opid, .int .i64 on, .int .i64 op0, .int .i64 oj, .int .i64 oe, .int .i64 os, .int .i64 or, .slice oA olen ocap, .int .i64 ost, .int .i64 oc] 63)
  have kb := Bk.new (V.alloc (.cells dt0 58)) 63 #[.int .i64 1, .int .i64 opid, .int .i64 on, .int .i64 op0, .int .i64 oj, .int .i64 oe, .int .i64 os, .int .i64 or, .slice oA olen ocap, .int .i64 ost, .int .i64 oc]
  rw [size_alloc] at kb
  have L := Lib.hid (h.next low)
  have HL := Lib.hid low
  have K1 := Lib.hid (fun W => at40 (W := W) L.out kq kb ho.wp)
  have K2 := Lib.hid (fun (V3 : World) (hq : Bk V3 V.heap.size 58 dt0) => rrel0 (w := V3) (q := V.heap.size) hq opid)
  have c0 := kb.cell 0 _ rfl
  have c1 := kb.cell 1 _ rfl
  have c2 := kb.cell 2 _ rfl
  clear h low kq kb ho
  go_enter Try.func35, Try.ntmps35
  go_wp2_with fail
  go_region_held3 (fun W => W.cell? ⟨V.heap.size + 1, 1, none⟩ = some (.int .i64 opid))
    (first | exact c1)
    (first
      | (go_at_call 40; (with_reducible refine (K1.out _ (by first | exact (Below.refl _ _).drew | exact Below.refl _ _)).mono ?_); rintro _ V3 ⟨⟨er, rfl⟩, hL, hT, hq, hx⟩; have d1 := hx.cell 1 _ rfl; have d2 := hx.cell 2 _ rfl; replace c1 := d1; replace c2 := d2; clear d1 d2)
      | (go_at_call 50; (with_reducible refine (K2.out _ hq).mono ?_); rintro _ V4 ⟨rfl, rfl⟩))
  all_goals
    clear c0 c1 c2
    go_wp2_with fail
    go_ret
    exact ⟨⟨_, rfl⟩, m, N, _, hL.few (by omega), .rel rfl, tt_low HL.out hT⟩
set_option maxRecDepth 100000 in
set_option maxHeartbeats 4000000 in
theorem does2 (h : Lt w V p m k N T) (o : Oq) (ho : OqOk w o) (hd : o.d = 2) :
    Calls Try.prog 35 #[.pointer (some ⟨p, 0, none⟩), .pointer (some ⟨V.heap.size, 0, none⟩), o.v] (V.alloc (.cells dt0 58)) (DoesR w V p k m N T o) := by
  obtain ⟨od, opid, on, op0, oj, oe, os, or, oA, olen, ocap, ozs, ost, oc⟩ := o
  dsimp only at hd
  subst hd
  have low := (below_alloc V (.cells dt0 58)).alloc (by simp) (.cells #[.int .i64 2, .int .i64 opid, .int .i64 on, .int .i64 op0, .int .i64 oj, .int .i64 oe, .int .i64 os, .int .i64 or, .slice oA olen ocap, .int .i64 ost, .int .i64 oc] 63)
  have kq := (Bk.new V 58 dt0).alloc (.cells #[.int .i64 2, .int .i64 opid, .int .i64 on, .int .i64 op0, .int .i64 oj, .int .i64 oe, .int .i64 os, .int .i64 or, .slice oA olen ocap, .int .i64 ost, .int .i64 oc] 63)
  have kb := Bk.new (V.alloc (.cells dt0 58)) 63 #[.int .i64 2, .int .i64 opid, .int .i64 on, .int .i64 op0, .int .i64 oj, .int .i64 oe, .int .i64 os, .int .i64 or, .slice oA olen ocap, .int .i64 ost, .int .i64 oc]
  rw [size_alloc] at kb
  have L := Lib.hid (h.next low)
  have HL := Lib.hid low
  have K1 := Lib.hid (fun W => at41 (W := W) L.out kq kb ho.wp (g := on))
  have K2 := Lib.hid (fun (V3 : World) (hq : Bk V3 V.heap.size 58 dt0) => rsig0 (w := V3) (q := V.heap.size) hq opid on)
  have c0 := kb.cell 0 _ rfl
  have c1 := kb.cell 1 _ rfl
  have c2 := kb.cell 2 _ rfl
  clear h low kq kb ho
  go_enter Try.func35, Try.ntmps35
  go_wp2_with fail
  go_region_held3 (fun W => W.cell? ⟨V.heap.size + 1, 1, none⟩ = some (.int .i64 opid) ∧ W.cell? ⟨V.heap.size + 1, 2, none⟩ = some (.int .i64 on))
    (first | exact ⟨c1, c2⟩)
    (first
      | (go_at_call 41; (with_reducible refine (K1.out _ (by first | exact (Below.refl _ _).drew | exact Below.refl _ _)).mono ?_); rintro _ V3 ⟨⟨er, rfl⟩, hL, hT, hq, hx⟩; have d1 := hx.cell 1 _ rfl; have d2 := hx.cell 2 _ rfl; replace c1 := d1; replace c2 := d2; clear d1 d2)
      | (go_at_call 51; (with_reducible refine (K2.out _ hq).mono ?_); rintro _ V4 ⟨rfl, rfl⟩))
  all_goals
    clear c0 c1 c2
    go_wp2_with fail
    go_ret
    exact ⟨⟨_, rfl⟩, m, N, _, hL.few (by omega), .sig rfl, tt_low HL.out hT⟩
set_option maxRecDepth 100000 in
set_option maxHeartbeats 4000000 in
theorem does3 (h : Lt w V p m k N T) (o : Oq) (ho : OqOk w o) (hd : o.d = 3) :
    Calls Try.prog 35 #[.pointer (some ⟨p, 0, none⟩), .pointer (some ⟨V.heap.size, 0, none⟩), o.v] (V.alloc (.cells dt0 58)) (DoesR w V p k m N T o) := by
  obtain ⟨od, opid, on, op0, oj, oe, os, or, oA, olen, ocap, ozs, ost, oc⟩ := o
  dsimp only at hd
  subst hd
  have low := (below_alloc V (.cells dt0 58)).alloc (by simp) (.cells #[.int .i64 3, .int .i64 opid, .int .i64 on, .int .i64 op0, .int .i64 oj, .int .i64 oe, .int .i64 os, .int .i64 or, .slice oA olen ocap, .int .i64 ost, .int .i64 oc] 63)
  have kq := (Bk.new V 58 dt0).alloc (.cells #[.int .i64 3, .int .i64 opid, .int .i64 on, .int .i64 op0, .int .i64 oj, .int .i64 oe, .int .i64 os, .int .i64 or, .slice oA olen ocap, .int .i64 ost, .int .i64 oc] 63)
  have kb := Bk.new (V.alloc (.cells dt0 58)) 63 #[.int .i64 3, .int .i64 opid, .int .i64 on, .int .i64 op0, .int .i64 oj, .int .i64 oe, .int .i64 os, .int .i64 or, .slice oA olen ocap, .int .i64 ost, .int .i64 oc]
  rw [size_alloc] at kb
  have L := Lib.hid (h.next low)
  have HL := Lib.hid low
  have K1 := Lib.hid (fun W => at42 (W := W) L.out kq kb ho.wp (c := on))
  have K2 := Lib.hid (fun (V3 : World) (hq : Bk V3 V.heap.size 58 dt0) => rexi0 (w := V3) (q := V.heap.size) hq opid on)
  have c0 := kb.cell 0 _ rfl
  have c1 := kb.cell 1 _ rfl
  have c2 := kb.cell 2 _ rfl
  clear h low kq kb ho
  go_enter Try.func35, Try.ntmps35
  go_wp2_with fail
  go_region_held3 (fun W => W.cell? ⟨V.heap.size + 1, 1, none⟩ = some (.int .i64 opid) ∧ W.cell? ⟨V.heap.size + 1, 2, none⟩ = some (.int .i64 on))
    (first | exact ⟨c1, c2⟩)
    (first
      | (go_at_call 42; (with_reducible refine (K1.out _ (by first | exact (Below.refl _ _).drew | exact Below.refl _ _)).mono ?_); rintro _ V3 ⟨⟨er, rfl⟩, hL, hT, hq, hx⟩; have d1 := hx.cell 1 _ rfl; have d2 := hx.cell 2 _ rfl; replace c1 := d1; replace c2 := d2; clear d1 d2)
      | (go_at_call 52; (with_reducible refine (K2.out _ hq).mono ?_); rintro _ V4 ⟨rfl, rfl⟩))
  all_goals
    clear c0 c1 c2
    go_wp2_with fail
    go_ret
    exact ⟨⟨_, rfl⟩, m, N, _, hL.few (by omega), .exi rfl, tt_low HL.out hT⟩
end
end Go.Proofs.Ytjolkcomlindhaa
/- A table that is none; ProcsNil, walked. -/
namespace Go.Proofs.Ytjolkcomlindhaa
open Go.RowKit Go.Shelf Go.Maps Go.Sort

set_option maxRecDepth 100000 in
set_option maxHeartbeats 1000000 in
theorem find_nilv (n : Value) (w : World) : Calls Try.prog 58 #[.pointer none, n] w fun e w' => e = .returned (.pointer none) ∧ w = w' := by
  go_enter Try.func58, Try.ntmps58
  go_wp2_with fail
  go_ret
  exact ⟨rfl, rfl⟩
set_option maxRecDepth 100000 in
set_option maxHeartbeats 1000000 in
theorem spawn_nil (a b c d e f g h : Value) (w : World) : Calls Try.prog 37 #[.pointer none, .agg #[a, b, c, d, e, f, g, h]] w fun x w' => x = .returned (.tuple #[.int .i64 0, .int .i64 1]) ∧ Below w.heap.size w w' := by
  have low := below_alloc w (.cells #[a, b, c, d, e, f, g, h] 61)
  go_enter Try.func37, Try.ntmps37
  go_wp2_with fail
  go_ret2
  exact ⟨rfl, low⟩
set_option maxRecDepth 100000 in
set_option maxHeartbeats 1000000 in
theorem release_nil (n : Value) (w : World) : Calls Try.prog 40 #[.pointer none, n] w fun x w' => x = .returned (.int .i64 1) ∧ w = w' := by
  go_enter Try.func40, Try.ntmps40
  go_wp2_with fail
  refine (find_nilv n _).mono ?_
  rintro x w1 ⟨rfl, rfl⟩
  go_wp2_with fail
  go_ret
  exact ⟨rfl, rfl⟩
set_option maxRecDepth 100000 in
set_option maxHeartbeats 1000000 in
theorem signal_nil (n : Value) (w : World) : Calls Try.prog 41 #[.pointer none, n, .int .i64 9] w fun x w' => x = .returned (.int .i64 1) ∧ w = w' := by
  go_enter Try.func41, Try.ntmps41
  go_wp2_with fail
  refine (find_nilv n _).mono ?_
  rintro x w1 ⟨rfl, rfl⟩
  go_wp2_with fail
  go_ret
  exact ⟨rfl, rfl⟩
set_option maxRecDepth 100000 in
set_option maxHeartbeats 1000000 in
theorem exit_nil (n : Value) (w : World) : Calls Try.prog 42 #[.pointer none, n, .int .i64 0] w fun x w' => x = .returned (.int .i64 1) ∧ w = w' := by
  go_enter Try.func42, Try.ntmps42
  go_wp2_with fail
  refine (find_nilv n _).mono ?_
  rintro x w1 ⟨rfl, rfl⟩
  go_wp2_with fail
  go_ret
  exact ⟨rfl, rfl⟩
set_option maxRecDepth 100000 in
set_option maxHeartbeats 1000000 in
theorem signalled_nil (n : Value) (w : World) : Calls Try.prog 43 #[.pointer none, n] w fun x w' => x = .returned (.int .i64 0) ∧ w = w' := by
  go_enter Try.func43, Try.ntmps43
  go_wp2_with fail
  refine (find_nilv n _).mono ?_
  rintro x w1 ⟨rfl, rfl⟩
  go_wp2_with fail
  go_ret
  exact ⟨rfl, rfl⟩
set_option maxRecDepth 100000 in
set_option maxHeartbeats 1000000 in
theorem copy_nil (w : World) : Calls Try.prog 44 #[.pointer none] w fun x w' => x = .returned (.pointer none) ∧ w = w' := by
  go_enter Try.func44, Try.ntmps44
  go_wp2_with fail
  go_ret
  exact ⟨rfl, rfl⟩
set_option maxRecDepth 100000 in
set_option maxHeartbeats 1000000 in
theorem reap_nil (n : Value) (w : World) : Calls Try.prog 39 #[.pointer none, n] w fun x w' => x = .returned (.tuple #[tkV 0 0 0 0 0 (.slice none 0 0) 0 0, .int .i64 1]) ∧ Below w.heap.size w w' := by
  have kz0 := Bk.new w 61 (tkC 0 0 0 0 0 (.slice none 0 0) 0 0)
  have la := below_alloc w (.cells (tkC 0 0 0 0 0 (.slice none 0 0) 0 0) 61)
  obtain ⟨⟨d0, d1, d2, d3, d4, d5, d6, d7⟩, f0, f1, f2, f3, f4, f5, f6, f7⟩ := kz0.z8
  clear kz0
  go_enter Try.func39, Try.ntmps39
  go_wp2_with fail
  refine (find_nilv n _).mono ?_
  rintro x w1 ⟨rfl, rfl⟩
  go_wp2_with fail
  exact bodyPost_ret (v := .tuple #[tkV 0 0 0 0 0 (.slice none 0 0) 0 0, .int .i64 1]) (by simp [results, Try.results39, go_sem, d0, d1, d2, d3, d4, d5, d6, d7]) rfl ⟨rfl, la⟩
set_option maxRecDepth 100000 in
set_option maxHeartbeats 1000000 in
theorem one_zero (w : World) : Calls Try.prog 38 #[tkV 0 0 0 0 0 (.slice none 0 0) 0 0, tkV 0 0 0 0 0 (.slice none 0 0) 0 0] w fun x w' => x = .returned (.bool true) ∧ Below w.heap.size w w' := by
  have low := (below_alloc w (.cells (tkC 0 0 0 0 0 (.slice none 0 0) 0 0) 61)).alloc (by simp) (.cells (tkC 0 0 0 0 0 (.slice none 0 0) 0 0) 61)
  have KS := Lib.hid (same_eq none none 0 0 0 [] ((w.alloc (.cells (tkC 0 0 0 0 0 (.slice none 0 0) 0 0) 61)).alloc (.cells (tkC 0 0 0 0 0 (.slice none 0 0) 0 0) 61)) (.inl rfl) (.inl rfl) rfl (by unfold maxLen; omega))
  go_enter Try.func38, Try.ntmps38
  go_wp2_with fail
  refine KS.out.mono ?_
  rintro x w1 ⟨rfl, hb⟩
  go_wp2_with fail
  go_ret
  exact ⟨rfl, bmore low hb⟩
set_option maxRecDepth 100000 in
set_option maxHeartbeats 1000000 in
theorem procsNil_any (c0 c1 c2 c3 c4 c5 c6 c7 c8 c9 c10 : Value) (w : World) : Calls Try.prog 11 #[.agg #[c0, c1, c2, c3, c4, c5, c6, c7, c8, c9, c10]] w fun x w' => x = .returned (.bool true) ∧ Below w.heap.size w w' := by
  have kb := Bk.new w 63 #[c0, c1, c2, c3, c4, c5, c6, c7, c8, c9, c10]
  have low := below_alloc w (.cells #[c0, c1, c2, c3, c4, c5, c6, c7, c8, c9, c10] 63)
  go_enter Try.func11, Try.ntmps11
  have b0 := kb.cell 0 _ rfl
  have b1 := kb.cell 1 _ rfl
  have b2 := kb.cell 2 _ rfl
  have b3 := kb.cell 3 _ rfl
  have b4 := kb.cell 4 _ rfl
  have b5 := kb.cell 5 _ rfl
  have b6 := kb.cell 6 _ rfl
  have b7 := kb.cell 7 _ rfl
  have b8 := kb.cell 8 _ rfl
  have b9 := kb.cell 9 _ rfl
  have b10 := kb.cell 10 _ rfl
  go_wp2_with fail
  refine (spawn_nil _ _ _ _ _ _ _ _ _).mono ?_
  rintro x w1 ⟨rfl, hb⟩
  replace kb := kb.next hb
  replace low := bmore low hb
  clear hb
  clear b0 b1 b2 b3 b4 b5 b6 b7 b8 b9 b10
  have b0 := kb.cell 0 _ rfl
  have b1 := kb.cell 1 _ rfl
  have b2 := kb.cell 2 _ rfl
  have b3 := kb.cell 3 _ rfl
  have b4 := kb.cell 4 _ rfl
  have b5 := kb.cell 5 _ rfl
  have b6 := kb.cell 6 _ rfl
  have b7 := kb.cell 7 _ rfl
  have b8 := kb.cell 8 _ rfl
  have b9 := kb.cell 9 _ rfl
  have b10 := kb.cell 10 _ rfl
  go_wp2_with fail
  refine (reap_nil _ _).mono ?_
  rintro x w1 ⟨rfl, hb⟩
  replace kb := kb.next hb
  replace low := bmore low hb
  clear hb
  clear b0 b1 b2 b3 b4 b5 b6 b7 b8 b9 b10
  have kx := Bk.new w1 61 (tkC 0 0 0 0 0 (.slice none 0 0) 0 0)
  have lx := below_alloc w1 (.cells (tkC 0 0 0 0 0 (.slice none 0 0) 0 0) 61)
  replace kb := kb.next lx
  replace low := bmore low lx
  clear lx
  obtain ⟨⟨x0, x1, x2, x3, x4, x5, x6, x7⟩, -⟩ := kx.z8
  have b0 := kb.cell 0 _ rfl
  have b1 := kb.cell 1 _ rfl
  have b2 := kb.cell 2 _ rfl
  have b3 := kb.cell 3 _ rfl
  have b4 := kb.cell 4 _ rfl
  have b5 := kb.cell 5 _ rfl
  have b6 := kb.cell 6 _ rfl
  have b7 := kb.cell 7 _ rfl
  have b8 := kb.cell 8 _ rfl
  have b9 := kb.cell 9 _ rfl
  have b10 := kb.cell 10 _ rfl
  go_wp2_with fail
  refine (one_zero _).mono ?_
  rintro x w2 ⟨rfl, hb⟩
  replace kb := kb.next hb
  replace low := bmore low hb
  clear hb
  clear b0 b1 b2 b3 b4 b5 b6 b7 b8 b9 b10
  clear x0 x1 x2 x3 x4 x5 x6 x7 kx
  have b0 := kb.cell 0 _ rfl
  have b1 := kb.cell 1 _ rfl
  have b2 := kb.cell 2 _ rfl
  have b3 := kb.cell 3 _ rfl
  have b4 := kb.cell 4 _ rfl
  have b5 := kb.cell 5 _ rfl
  have b6 := kb.cell 6 _ rfl
  have b7 := kb.cell 7 _ rfl
  have b8 := kb.cell 8 _ rfl
  have b9 := kb.cell 9 _ rfl
  have b10 := kb.cell 10 _ rfl
  go_wp2_with fail
  refine (release_nil _ _).mono ?_
  rintro x w3 ⟨rfl, rfl⟩
  go_wp2_with fail
  refine (signal_nil _ _).mono ?_
  rintro x w3 ⟨rfl, rfl⟩
  go_wp2_with fail
  refine (exit_nil _ _).mono ?_
  rintro x w3 ⟨rfl, rfl⟩
  go_wp2_with fail
  refine (list_nil _).mono ?_
  rintro x w3 ⟨rfl, rfl⟩
  go_wp2_with fail
  refine (signalled_nil _ _).mono ?_
  rintro x w3 ⟨rfl, rfl⟩
  go_wp2_with fail
  refine (copy_nil _).mono ?_
  rintro x w3 ⟨rfl, rfl⟩
  go_wp2_with fail
  refine (plive_any _).mono ?_
  rintro x w3 ⟨rfl, hb⟩
  go_wp2_with fail
  go_ret
  exact ⟨rfl, bmore low hb⟩
end Go.Proofs.Ytjolkcomlindhaa
/- does: Reap; nothing. -/
namespace Go.Proofs.Ytjolkcomlindhaa
open Go.RowKit Go.Shelf Go.Maps Go.Sort

section
variable {w V : World} {p k : Nat} {m : Option Nat} {N : Int} {T : List Pr}
set_option maxRecDepth 100000 in
set_option maxHeartbeats 4000000 in
theorem does4' (h : Lt w V p m k N T) (o : Oq) (ho : OqOk w o) (hd : o.d = 4) (vp vj ve vs vr vst vc : Int) (vA : Option Addr) (vn vcap : Nat) (b1 : Bool) (hv : rpV T o.pid = tkV vp vj ve vs vr (.slice vA vn vcap) vst vc)
    (KO : ∀ W, Calls Try.prog 38 #[tkV vp vj ve vs vr (.slice vA vn vcap) vst vc, tkV 0 0 0 0 0 (.slice none 0 0) 0 0] W fun x w' => x = .returned (.bool b1) ∧ Below W.heap.size W w') :
    Calls Try.prog 35 #[.pointer (some ⟨p, 0, none⟩), .pointer (some ⟨V.heap.size, 0, none⟩), o.v] (V.alloc (.cells dt0 58)) (DoesR w V p k m N T o) := by
  obtain ⟨od, opid, on, op0, oj, oe, os, or, oA, olen, ocap, ozs, ost, oc⟩ := o
  dsimp only at hd hv
  subst hd
  have low := (below_alloc V (.cells dt0 58)).alloc (by simp) (.cells #[.int .i64 4, .int .i64 opid, .int .i64 on, .int .i64 op0, .int .i64 oj, .int .i64 oe, .int .i64 os, .int .i64 or, .slice oA olen ocap, .int .i64 ost, .int .i64 oc] 63)
  have kq := (Bk.new V 58 dt0).alloc (.cells #[.int .i64 4, .int .i64 opid, .int .i64 on, .int .i64 op0, .int .i64 oj, .int .i64 oe, .int .i64 os, .int .i64 or, .slice oA olen ocap, .int .i64 ost, .int .i64 oc] 63)
  have kb := Bk.new (V.alloc (.cells dt0 58)) 63 #[.int .i64 4, .int .i64 opid, .int .i64 on, .int .i64 op0, .int .i64 oj, .int .i64 oe, .int .i64 os, .int .i64 or, .slice oA olen ocap, .int .i64 ost, .int .i64 oc]
  rw [size_alloc] at kb
  have L := Lib.hid (h.next low)
  have HL := Lib.hid low
  have K1 := Lib.hid (at39 L.out kq kb ho.wp (Below.refl _ _))
  rw [hv] at K1
  have KO2 := Lib.hid KO
  have c0 := kb.cell 0 _ rfl
  have c1 := kb.cell 1 _ rfl
  clear h low kq kb ho hv KO
  generalize rpE T opid = er at *
  go_enter Try.func35, Try.ntmps35
  go_wp2_with fail
  refine K1.out.mono ?_
  rintro _ V3 ⟨rfl, hL, hT, hq, hx⟩
  have la := below_alloc V3 (.cells (tkC vp vj ve vs vr (.slice vA vn vcap) vst vc) 61)
  have H3 := Lib.hid (And.intro (hL.next la) (tt_next hT la))
  have k3 := Lib.hid (Bk.new V3 61 (tkC vp vj ve vs vr (.slice vA vn vcap) vst vc))
  have hx3 := Lib.hid (hx.next la)
  have KR := Lib.hid (rreap0 (show DT0 _ _ from hq.next la) opid)
  clear hL hT hq hx la K1 c0 c1
  have c1 := hx3.out.cell 1 _ rfl
  go_wp2_with fail
  refine KR.out.mono ?_
  rintro _ V4 ⟨rfl, hb⟩
  have la := below_alloc V4 (.cells (tkC 0 0 0 0 0 (.slice none 0 0) 0 0) 61)
  have H5 := Lib.hid (And.intro ((H3.out.1.next hb).next la) (tt_next (tt_next H3.out.2 hb) la))
  have k5 := (k3.out.next hb).next la
  have k6 := Bk.new V4 61 (tkC 0 0 0 0 0 (.slice none 0 0) 0 0)
  obtain ⟨⟨d0, d1, d2, d3, d4, d5, d6, d7⟩, _⟩ := k5.z8
  obtain ⟨⟨e0, e1, e2, e3, e4, e5, e6, e7⟩, _⟩ := k6.z8
  clear hb la k5 k6 k3 hx3 KR c1 H3
  go_wp2_with fail
  refine (KO2.out _).mono ?_
  rintro _ V6 ⟨rfl, hb⟩
  have H6 := Lib.hid (And.intro (H5.out.1.next hb) (tt_next H5.out.2 hb))
  clear hb H5
  cases b1
  all_goals
    go_wp2_with fail
    go_ret
    exact ⟨⟨_, rfl⟩, m, N, _, H6.out.1.few (by omega), .rp rfl, tt_low HL.out H6.out.2⟩
theorem does4 (h : Lt w V p m k N T) (o : Oq) (ho : OqOk w o) (hd : o.d = 4) :
    Calls Try.prog 35 #[.pointer (some ⟨p, 0, none⟩), .pointer (some ⟨V.heap.size, 0, none⟩), o.v] (V.alloc (.cells dt0 58)) (DoesR w V p k m N T o) := by
  cases hl : lookP T o.pid with
  | none => exact does4' h o ho hd 0 0 0 0 0 0 0 none 0 0 true (by unfold rpV; rw [hl]) one_zero
  | some x =>
    by_cases hs : x.st = 2
    · have hp := h.tab.pids x (lookP_mem hl).1
      exact does4' h o ho hd x.pid x.j x.e x.s x.r x.st x.code x.A x.cs.length x.cap false (by unfold rpV; simp only [hl]; rw [if_pos hs]) (fun W => one_ne _ _ _ _ _ _ _ _ _ (by omega) W)
    · exact does4' h o ho hd 0 0 0 0 0 0 0 none 0 0 true (by unfold rpV; simp only [hl]; rw [if_neg hs]) one_zero
set_option maxRecDepth 100000 in
set_option maxHeartbeats 1000000 in
theorem does5 (h : Lt w V p m k N T) (o : Oq) (h0 : o.d ≠ 0) (h1 : o.d ≠ 1) (h2 : o.d ≠ 2) (h3 : o.d ≠ 3) (h4 : o.d ≠ 4) :
    Calls Try.prog 35 #[.pointer (some ⟨p, 0, none⟩), .pointer (some ⟨V.heap.size, 0, none⟩), o.v] (V.alloc (.cells dt0 58)) (DoesR w V p k m N T o) := by
  obtain ⟨od, opid, on, op0, oj, oe, os, or, oA, olen, ocap, ozs, ost, oc⟩ := o
  dsimp only at h0 h1 h2 h3 h4
  have low := (below_alloc V (.cells dt0 58)).alloc (by simp) (.cells #[.int .i64 od, .int .i64 opid, .int .i64 on, .int .i64 op0, .int .i64 oj, .int .i64 oe, .int .i64 os, .int .i64 or, .slice oA olen ocap, .int .i64 ost, .int .i64 oc] 63)
  have kb := Bk.new (V.alloc (.cells dt0 58)) 63 #[.int .i64 od, .int .i64 opid, .int .i64 on, .int .i64 op0, .int .i64 oj, .int .i64 oe, .int .i64 os, .int .i64 or, .slice oA olen ocap, .int .i64 ost, .int .i64 oc]
  rw [size_alloc] at kb
  have L := Lib.hid (h.next low)
  have HL := Lib.hid low
  have c0 := kb.cell 0 _ rfl
  have t0 : (od == 0) = false := by simpa using h0
  have t1 : (od == 1) = false := by simpa using h1
  have t2 : (od == 2) = false := by simpa using h2
  have t3 : (od == 3) = false := by simpa using h3
  have t4 : (od == 4) = false := by simpa using h4
  clear h low kb h0 h1 h2 h3 h4
  go_enter Try.func35, Try.ntmps35
  go_wp2_with fail
  go_ret
  exact ⟨⟨_, rfl⟩, m, N, _, L.out.few (by omega), .same, Tt.of_below HL.out⟩
end
end Go.Proofs.Ytjolkcomlindhaa
