/- does: Reap; nothing. -/
import Derived.Test.YtjolkcomlindhaaQ1
import Derived.Test.YtjolkcomlindhaaH1
namespace Go.Proofs.Ytjolkcomlindhaa
open Go.RowKit Go.Shelf Go.Maps Go.Sort

section
variable {w V : World} {p k : Nat} {m : Option Nat} {N : Int} {T : List Pr}
set_option maxRecDepth 100000 in
set_option maxHeartbeats 4000000 in
theorem does4' (h : Lt w V p m k N T) (o : Oq) (ho : OqOk w o) (hd : o.d = 4) (vp vj ve vs vr vst vc : Int) (vA : Option Addr) (vn vcap : Nat) (b1 : Bool) (hv : rpV T o.pid = tkV vp vj ve vs vr (.slice vA vn vcap) vst vc)
    (KO : ∀ W, Calls Try.prog 38 #[tkV vp vj ve vs vr (.slice vA vn vcap) vst vc, tkV 0 0 0 0 0 (.slice none 0 0) 0 0] W fun x w' => x = .returned (.bool b1) ∧ Below W.heap.size W w') :
    Calls Try.prog 35 #[.pointer (some ⟨p, 0, none⟩), .pointer (some ⟨V.heap.size, 0, none⟩), o.v] (V.alloc (.cells dt0 58)) (DoesR w V p k m N T o) := by
  obtain ⟨od, opid, on, op0, oj, oe, os, or, oA, olen, ocap, ozs, ost, oc⟩ := o
  dsimp only at hd hv
  subst hd
  have low := (below_alloc V (.cells dt0 58)).alloc (by simp) (.cells #[.int .i64 4, .int .i64 opid, .int .i64 on, .int .i64 op0, .int .i64 oj, .int .i64 oe, .int .i64 os, .int .i64 or, .slice oA olen ocap, .int .i64 ost, .int .i64 oc] 63)
  have kq := (Bk.new V 58 dt0).alloc (.cells #[.int .i64 4, .int .i64 opid, .int .i64 on, .int .i64 op0, .int .i64 oj, .int .i64 oe, .int .i64 os, .int .i64 or, .slice oA olen ocap, .int .i64 ost, .int .i64 oc] 63)
  have kb := Bk.new (V.alloc (.cells dt0 58)) 63 #[.int .i64 4, .int .i64 opid, .int .i64 on, .int .i64 op0, .int .i64 oj, .int .i64 oe, .int .i64 os, .int .i64 or, .slice oA olen ocap, .int .i64 ost, .int .i64 oc]
  rw [size_alloc] at kb
  have L := Lib.hid (h.next low)
  have HL := Lib.hid low
  have K1 := Lib.hid (at39 L.out kq kb ho.wp (Below.refl _ _))
  rw [hv] at K1
  have KO2 := Lib.hid KO
  have c0 := kb.cell 0 _ rfl
  have c1 := kb.cell 1 _ rfl
  clear h low kq kb ho hv KO
  generalize rpE T opid = er at *
  go_enter Try.func35, Try.ntmps35
  go_wp2_with fail
  refine K1.out.mono ?_
  rintro _ V3 ⟨rfl, hL, hT, hq, hx⟩
  have la := below_alloc V3 (.cells (tkC vp vj ve vs vr (.slice vA vn vcap) vst vc) 61)
  have H3 := Lib.hid (And.intro (hL.next la) (tt_next hT la))
  have k3 := Lib.hid (Bk.new V3 61 (tkC vp vj ve vs vr (.slice vA vn vcap) vst vc))
  have hx3 := Lib.hid (hx.next la)
  have KR := Lib.hid (rreap0 (show DT0 _ _ from hq.next la) opid)
  clear hL hT hq hx la K1 c0 c1
  have c1 := hx3.out.cell 1 _ rfl
  go_wp2_with fail
  refine KR.out.mono ?_
  rintro _ V4 ⟨rfl, hb⟩
  have la := below_alloc V4 (.cells (tkC 0 0 0 0 0 (.slice none 0 0) 0 0) 61)
  have H5 := Lib.hid (And.intro ((H3.out.1.next hb).next la) (tt_next (tt_next H3.out.2 hb) la))
  have k5 := (k3.out.next hb).next la
  have k6 := Bk.new V4 61 (tkC 0 0 0 0 0 (.slice none 0 0) 0 0)
  obtain ⟨⟨d0, d1, d2, d3, d4, d5, d6, d7⟩, _⟩ := k5.z8
  obtain ⟨⟨e0, e1, e2, e3, e4, e5, e6, e7⟩, _⟩ := k6.z8
  clear hb la k5 k6 k3 hx3 KR c1 H3
  go_wp2_with fail
  refine (KO2.out _).mono ?_
  rintro _ V6 ⟨rfl, hb⟩
  have H6 := Lib.hid (And.intro (H5.out.1.next hb) (tt_next H5.out.2 hb))
  clear hb H5
  cases b1
  all_goals
    go_wp2_with fail
    go_ret
    exact ⟨⟨_, rfl⟩, m, N, _, H6.out.1.few (by omega), .rp rfl, tt_low HL.out H6.out.2⟩
theorem does4 (h : Lt w V p m k N T) (o : Oq) (ho : OqOk w o) (hd : o.d = 4) :
    Calls Try.prog 35 #[.pointer (some ⟨p, 0, none⟩), .pointer (some ⟨V.heap.size, 0, none⟩), o.v] (V.alloc (.cells dt0 58)) (DoesR w V p k m N T o) := by
  cases hl : lookP T o.pid with
  | none => exact does4' h o ho hd 0 0 0 0 0 0 0 none 0 0 true (by unfold rpV; rw [hl]) one_zero
  | some x =>
    by_cases hs : x.st = 2
    · have hp := h.tab.pids x (lookP_mem hl).1
      exact does4' h o ho hd x.pid x.j x.e x.s x.r x.st x.code x.A x.cs.length x.cap false (by unfold rpV; simp only [hl]; rw [if_pos hs]) (fun W => one_ne _ _ _ _ _ _ _ _ _ (by omega) W)
    · exact does4' h o ho hd 0 0 0 0 0 0 0 none 0 0 true (by unfold rpV; simp only [hl]; rw [if_neg hs]) one_zero
set_option maxRecDepth 100000 in
set_option maxHeartbeats 1000000 in
theorem does5 (h : Lt w V p m k N T) (o : Oq) (h0 : o.d ≠ 0) (h1 : o.d ≠ 1) (h2 : o.d ≠ 2) (h3 : o.d ≠ 3) (h4 : o.d ≠ 4) :
    Calls Try.prog 35 #[.pointer (some ⟨p, 0, none⟩), .pointer (some ⟨V.heap.size, 0, none⟩), o.v] (V.alloc (.cells dt0 58)) (DoesR w V p k m N T o) := by
  obtain ⟨od, opid, on, op0, oj, oe, os, or, oA, olen, ocap, ozs, ost, oc⟩ := o
  dsimp only at h0 h1 h2 h3 h4
  have low := (below_alloc V (.cells dt0 58)).alloc (by simp) (.cells #[.int .i64 od, .int .i64 opid, .int .i64 on, .int .i64 op0, .int .i64 oj, .int .i64 oe, .int .i64 os, .int .i64 or, .slice oA olen ocap, .int .i64 ost, .int .i64 oc] 63)
  have kb := Bk.new (V.alloc (.cells dt0 58)) 63 #[.int .i64 od, .int .i64 opid, .int .i64 on, .int .i64 op0, .int .i64 oj, .int .i64 oe, .int .i64 os, .int .i64 or, .slice oA olen ocap, .int .i64 ost, .int .i64 oc]
  rw [size_alloc] at kb
  have L := Lib.hid (h.next low)
  have HL := Lib.hid low
  have c0 := kb.cell 0 _ rfl
  have t0 : (od == 0) = false := by simpa using h0
  have t1 : (od == 1) = false := by simpa using h1
  have t2 : (od == 2) = false := by simpa using h2
  have t3 : (od == 3) = false := by simpa using h3
  have t4 : (od == 4) = false := by simpa using h4
  clear h low kb h0 h1 h2 h3 h4
  go_enter Try.func35, Try.ntmps35
  go_wp2_with fail
  go_ret
  exact ⟨⟨_, rfl⟩, m, N, _, L.out.few (by omega), .same, Tt.of_below HL.out⟩
end
end Go.Proofs.Ytjolkcomlindhaa
