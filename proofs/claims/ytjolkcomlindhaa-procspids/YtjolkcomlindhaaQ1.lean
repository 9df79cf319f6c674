/- does. -/
import Derived.Test.YtjolkcomlindhaaP8
import Derived.Test.YtjolkcomlindhaaP9
namespace Go.Proofs.Ytjolkcomlindhaa
open Go.RowKit Go.Shelf Go.Maps Go.Sort

abbrev Oq.v (o : Oq) : Value := .agg #[.int .i64 o.d, .int .i64 o.pid, .int .i64 o.n, .int .i64 o.p0, .int .i64 o.j, .int .i64 o.e, .int .i64 o.s, .int .i64 o.r, .slice o.A o.len o.cap, .int .i64 o.st, .int .i64 o.c]
abbrev dt0 : Array Value := #[.slice none 0 0, .slice none 0 0, .int .i64 0]
/-- What a call on both leaves. -/
def DoesR (w V : World) (p k : Nat) (m : Option Nat) (N : Int) (T : List Pr) (o : Oq) (e : Ending) (V' : World) : Prop :=
  (∃ b, e = .returned (.bool b)) ∧ ∃ m' N' T', Lt w V' p m' (k + 1) N' T' ∧ Dd N T o N' T' ∧ Tt V V' p m T
theorem Lt.few {w V : World} {p k k' : Nat} {m : Option Nat} {N : Int} {T : List Pr} (h : Lt w V p m k N T) (hk : k ≤ k') : Lt w V p m k' N T :=
  ⟨⟨h.tab.blk, h.tab.none_, fun b e => by obtain ⟨D, ⟨es, cl, q1, q2, q3, q4⟩, h2⟩ := h.tab.own b e; exact ⟨D, ⟨es, cl, q1, q2, by omega, q4⟩, h2⟩, h.tab.procs, h.tab.up, h.tab.apart, h.tab.pids, h.tab.few⟩, h.low, h.hp, h.hm, h.hb⟩
section
variable {w V : World} {p k : Nat} {m : Option Nat} {N : Int} {T : List Pr}
set_option maxRecDepth 100000 in
set_option maxHeartbeats 4000000 in
theorem does1 (h : Lt w V p m k N T) (o : Oq) (ho : OqOk w o) (hd : o.d = 1) :
    Calls Try.prog 35 #[.pointer (some ⟨p, 0, none⟩), .pointer (some ⟨V.heap.size, 0, none⟩), o.v] (V.alloc (.cells dt0 58)) (DoesR w V p k m N T o) := by
  obtain ⟨od, opid, on, op0, oj, oe, os, or, oA, olen, ocap, ozs, ost, oc⟩ := o
  dsimp only at hd
  subst hd
  have low := (below_alloc V (.cells dt0 58)).alloc (by simp) (.cells #[.int .i64 1, .int .i64 opid, .int .i64 on, .int .i64 op0, .int .i64 oj, .int .i64 oe, .int .i64 os, .int .i64 or, .slice oA olen ocap, .int .i64 ost, .int .i64 oc] 63)
  have kq := (Bk.new V 58 dt0).alloc (.cells #[.int .i64 1, .int .i64 opid, .int .i64 on, .int .i64 op0, .int .i64 oj, .int .i64 oe, .int .i64 os, .int .i64 or, .slice oA olen ocap, .int .i64 ost, .int .i64 oc] 63)
  have kb := Bk.new (V.alloc (.cells dt0 58)) 63 #[.int .i64 1, .int .i64 opid, .int .i64 on, .int .i64 op0, .int .i64 oj, .int .i64 oe, .int .i64 os, .int .i64 or, .slice oA olen ocap, .int .i64 ost, .int .i64 oc]
  rw [size_alloc] at kb
  have L := Lib.hid (h.next low)
  have HL := Lib.hid low
  have K1 := Lib.hid (fun W => at40 (W := W) L.out kq kb ho.wp)
  have K2 := Lib.hid (fun (V3 : World) (hq : Bk V3 V.heap.size 58 dt0) => rrel0 (w := V3) (q := V.heap.size) hq opid)
  have c0 := kb.cell 0 _ rfl
  have c1 := kb.cell 1 _ rfl
  have c2 := kb.cell 2 _ rfl
  clear h low kq kb ho
  go_enter Try.func35, Try.ntmps35
  go_wp2_with fail
  go_region_held3 (fun W => W.cell? ⟨V.heap.size + 1, 1, none⟩ = some (.int .i64 opid))
    (first | exact c1)
    (first
      | (go_at_call 40; (with_reducible refine (K1.out _ (by first | exact (Below.refl _ _).drew | exact Below.refl _ _)).mono ?_); rintro _ V3 ⟨⟨er, rfl⟩, hL, hT, hq, hx⟩; have d1 := hx.cell 1 _ rfl; have d2 := hx.cell 2 _ rfl; replace c1 := d1; replace c2 := d2; clear d1 d2)
      | (go_at_call 50; (with_reducible refine (K2.out _ hq).mono ?_); rintro _ V4 ⟨rfl, rfl⟩))
  all_goals
    clear c0 c1 c2
    go_wp2_with fail
    go_ret
    exact ⟨⟨_, rfl⟩, m, N, _, hL.few (by omega), .rel rfl, tt_low HL.out hT⟩
set_option maxRecDepth 100000 in
set_option maxHeartbeats 4000000 in
theorem does2 (h : Lt w V p m k N T) (o : Oq) (ho : OqOk w o) (hd : o.d = 2) :
    Calls Try.prog 35 #[.pointer (some ⟨p, 0, none⟩), .pointer (some ⟨V.heap.size, 0, none⟩), o.v] (V.alloc (.cells dt0 58)) (DoesR w V p k m N T o) := by
  obtain ⟨od, opid, on, op0, oj, oe, os, or, oA, olen, ocap, ozs, ost, oc⟩ := o
  dsimp only at hd
  subst hd
  have low := (below_alloc V (.cells dt0 58)).alloc (by simp) (.cells #[.int .i64 2, .int .i64 opid, .int .i64 on, .int .i64 op0, .int .i64 oj, .int .i64 oe, .int .i64 os, .int .i64 or, .slice oA olen ocap, .int .i64 ost, .int .i64 oc] 63)
  have kq := (Bk.new V 58 dt0).alloc (.cells #[.int .i64 2, .int .i64 opid, .int .i64 on, .int .i64 op0, .int .i64 oj, .int .i64 oe, .int .i64 os, .int .i64 or, .slice oA olen ocap, .int .i64 ost, .int .i64 oc] 63)
  have kb := Bk.new (V.alloc (.cells dt0 58)) 63 #[.int .i64 2, .int .i64 opid, .int .i64 on, .int .i64 op0, .int .i64 oj, .int .i64 oe, .int .i64 os, .int .i64 or, .slice oA olen ocap, .int .i64 ost, .int .i64 oc]
  rw [size_alloc] at kb
  have L := Lib.hid (h.next low)
  have HL := Lib.hid low
  have K1 := Lib.hid (fun W => at41 (W := W) L.out kq kb ho.wp (g := on))
  have K2 := Lib.hid (fun (V3 : World) (hq : Bk V3 V.heap.size 58 dt0) => rsig0 (w := V3) (q := V.heap.size) hq opid on)
  have c0 := kb.cell 0 _ rfl
  have c1 := kb.cell 1 _ rfl
  have c2 := kb.cell 2 _ rfl
  clear h low kq kb ho
  go_enter Try.func35, Try.ntmps35
  go_wp2_with fail
  go_region_held3 (fun W => W.cell? ⟨V.heap.size + 1, 1, none⟩ = some (.int .i64 opid) ∧ W.cell? ⟨V.heap.size + 1, 2, none⟩ = some (.int .i64 on))
    (first | exact ⟨c1, c2⟩)
    (first
      | (go_at_call 41; (with_reducible refine (K1.out _ (by first | exact (Below.refl _ _).drew | exact Below.refl _ _)).mono ?_); rintro _ V3 ⟨⟨er, rfl⟩, hL, hT, hq, hx⟩; have d1 := hx.cell 1 _ rfl; have d2 := hx.cell 2 _ rfl; replace c1 := d1; replace c2 := d2; clear d1 d2)
      | (go_at_call 51; (with_reducible refine (K2.out _ hq).mono ?_); rintro _ V4 ⟨rfl, rfl⟩))
  all_goals
    clear c0 c1 c2
    go_wp2_with fail
    go_ret
    exact ⟨⟨_, rfl⟩, m, N, _, hL.few (by omega), .sig rfl, tt_low HL.out hT⟩
set_option maxRecDepth 100000 in
set_option maxHeartbeats 4000000 in
theorem does3 (h : Lt w V p m k N T) (o : Oq) (ho : OqOk w o) (hd : o.d = 3) :
    Calls Try.prog 35 #[.pointer (some ⟨p, 0, none⟩), .pointer (some ⟨V.heap.size, 0, none⟩), o.v] (V.alloc (.cells dt0 58)) (DoesR w V p k m N T o) := by
  obtain ⟨od, opid, on, op0, oj, oe, os, or, oA, olen, ocap, ozs, ost, oc⟩ := o
  dsimp only at hd
  subst hd
  have low := (below_alloc V (.cells dt0 58)).alloc (by simp) (.cells #[.int .i64 3, .int .i64 opid, .int .i64 on, .int .i64 op0, .int .i64 oj, .int .i64 oe, .int .i64 os, .int .i64 or, .slice oA olen ocap, .int .i64 ost, .int .i64 oc] 63)
  have kq := (Bk.new V 58 dt0).alloc (.cells #[.int .i64 3, .int .i64 opid, .int .i64 on, .int .i64 op0, .int .i64 oj, .int .i64 oe, .int .i64 os, .int .i64 or, .slice oA olen ocap, .int .i64 ost, .int .i64 oc] 63)
  have kb := Bk.new (V.alloc (.cells dt0 58)) 63 #[.int .i64 3, .int .i64 opid, .int .i64 on, .int .i64 op0, .int .i64 oj, .int .i64 oe, .int .i64 os, .int .i64 or, .slice oA olen ocap, .int .i64 ost, .int .i64 oc]
  rw [size_alloc] at kb
  have L := Lib.hid (h.next low)
  have HL := Lib.hid low
  have K1 := Lib.hid (fun W => at42 (W := W) L.out kq kb ho.wp (c := on))
  have K2 := Lib.hid (fun (V3 : World) (hq : Bk V3 V.heap.size 58 dt0) => rexi0 (w := V3) (q := V.heap.size) hq opid on)
  have c0 := kb.cell 0 _ rfl
  have c1 := kb.cell 1 _ rfl
  have c2 := kb.cell 2 _ rfl
  clear h low kq kb ho
  go_enter Try.func35, Try.ntmps35
  go_wp2_with fail
  go_region_held3 (fun W => W.cell? ⟨V.heap.size + 1, 1, none⟩ = some (.int .i64 opid) ∧ W.cell? ⟨V.heap.size + 1, 2, none⟩ = some (.int .i64 on))
    (first | exact ⟨c1, c2⟩)
    (first
      | (go_at_call 42; (with_reducible refine (K1.out _ (by first | exact (Below.refl _ _).drew | exact Below.refl _ _)).mono ?_); rintro _ V3 ⟨⟨er, rfl⟩, hL, hT, hq, hx⟩; have d1 := hx.cell 1 _ rfl; have d2 := hx.cell 2 _ rfl; replace c1 := d1; replace c2 := d2; clear d1 d2)
      | (go_at_call 52; (with_reducible refine (K2.out _ hq).mono ?_); rintro _ V4 ⟨rfl, rfl⟩))
  all_goals
    clear c0 c1 c2
    go_wp2_with fail
    go_ret
    exact ⟨⟨_, rfl⟩, m, N, _, hL.few (by omega), .exi rfl, tt_low HL.out hT⟩
end
end Go.Proofs.Ytjolkcomlindhaa
