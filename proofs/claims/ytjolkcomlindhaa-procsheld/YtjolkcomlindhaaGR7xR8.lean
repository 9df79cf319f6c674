/- does, with the document's table as it lasts. -/
import Derived.Test.YtjolkcomlindhaaGQ5xQ3xR6
import Derived.Laws.OwnMore
namespace Go.Proofs.Ytjolkcomlindhaa
open Go.RowKit Go.Shelf Go.Maps Go.Sort

/-- What a call on both leaves. -/
def DoesH (w V : World) (p k : Nat) (N : Int) (T : List Pr) (r n : Nat) (o : Oq) (e : Ending) (V' : World) : Prop :=
  (∃ b, e = .returned (.bool b)) ∧ ∃ m' N' T' vL' vS' ND' Q' S', Hd w V' p m' (k + 1) N' T' r vL' vS' ND' Q' S' ∧ Dd N T o N' T' ∧ Q'.length ≤ n + 1 ∧ KeepB V V'
section
variable {w V V' : World} {p k r : Nat} {m : Option Nat} {N ND : Int} {T Q : List Pr} {S : List Int} {vL vS : Value}
theorem Hd.few {k' : Nat} (h : Hd w V p m k N T r vL vS ND Q S) (hk : k ≤ k') : Hd w V p m k' N T r vL vS ND Q S := ⟨h.lt.few hk, h.rt, h.hr, h.pt⟩
set_option maxRecDepth 100000 in
set_option maxHeartbeats 4000000 in
theorem doesh1 (h : Hd w V p m k N T r vL vS ND Q S) (hl : Q.length ≤ 255) (o : Oq) (ho : OqOk w o) (hd : o.d = 1) :
    Calls Try.prog 35 #[.pointer (some ⟨p, 0, none⟩), .pointer (some ⟨r, 0, none⟩), o.v] V (DoesH w V p k N T r Q.length o) := by
  obtain ⟨od, opid, on, op0, oj, oe, os, or, oA, olen, ocap, ozs, ost, oc⟩ := o
  dsimp only at hd
  subst hd
  have low := below_alloc V (.cells #[.int .i64 1, .int .i64 opid, .int .i64 on, .int .i64 op0, .int .i64 oj, .int .i64 oe, .int .i64 os, .int .i64 or, .slice oA olen ocap, .int .i64 ost, .int .i64 oc] 63)
  have kb := Bk.new V 63 #[.int .i64 1, .int .i64 opid, .int .i64 on, .int .i64 op0, .int .i64 oj, .int .i64 oe, .int .i64 os, .int .i64 or, .slice oA olen ocap, .int .i64 ost, .int .i64 oc]
  have L := Lib.hid (h.next low)
  have HL := Lib.hid low
  have KB := Lib.hid kb
  have K1 := Lib.hid (fun W => hd40 (W := W) L.out ho.wp)
  have K2 := Lib.hid (fun (V3 : World) (hH : Hd w V3 p m k N (relT T opid) r vL vS ND Q S) => rf50 hH hl opid)
  have c0 := kb.cell 0 _ rfl
  have c1 := kb.cell 1 _ rfl
  have c2 := kb.cell 2 _ rfl
  clear h low kb ho
  go_enter Try.func35, Try.ntmps35
  go_wp2_with fail
  go_region_held3 (fun W => W.cell? ⟨V.heap.size, 1, none⟩ = some (.int .i64 opid))
    (first | exact c1)
    (first
      | (go_at_call 40; (with_reducible refine (K1.out _ (by first | exact (Below.refl _ _).drew | exact Below.refl _ _)).mono ?_); rintro _ V3 ⟨⟨er, rfl⟩, hH, hk3⟩; have hx := hk3 _ _ _ KB.out (by decide) (by decide) (by decide) (by decide) (by decide); have d1 := hx.cell 1 _ rfl; have d2 := hx.cell 2 _ rfl; replace c1 := d1; replace c2 := d2; clear d1 d2)
      | (go_at_call 50; (with_reducible refine (K2.out _ hH).mono ?_); rintro _ V4 ⟨⟨er2, rfl⟩, vL', vS', ND', Q', S', hH4, hQ4, hk4, ht4⟩; have hx4 := hk4 _ _ _ hx (by decide) (by decide) (by decide) (by decide) (by decide); have d1 := hx4.cell 1 _ rfl; have d2 := hx4.cell 2 _ rfl; replace c1 := d1; replace c2 := d2; clear d1 d2))
  all_goals
    clear c0 c1 c2
    go_wp2_with fail
    go_ret
    exact ⟨⟨_, rfl⟩, m, N, _, vL', vS', ND', Q', S', hH4.few (by omega), .rel rfl, hQ4, (KeepB.of_below HL.out).trans (hk3.trans hk4)⟩
set_option maxRecDepth 100000 in
set_option maxHeartbeats 4000000 in
theorem doesh2 (h : Hd w V p m k N T r vL vS ND Q S) (hl : Q.length ≤ 255) (o : Oq) (ho : OqOk w o) (hd : o.d = 2) :
    Calls Try.prog 35 #[.pointer (some ⟨p, 0, none⟩), .pointer (some ⟨r, 0, none⟩), o.v] V (DoesH w V p k N T r Q.length o) := by
  obtain ⟨od, opid, on, op0, oj, oe, os, or, oA, olen, ocap, ozs, ost, oc⟩ := o
  dsimp only at hd
  subst hd
  have low := below_alloc V (.cells #[.int .i64 2, .int .i64 opid, .int .i64 on, .int .i64 op0, .int .i64 oj, .int .i64 oe, .int .i64 os, .int .i64 or, .slice oA olen ocap, .int .i64 ost, .int .i64 oc] 63)
  have kb := Bk.new V 63 #[.int .i64 2, .int .i64 opid, .int .i64 on, .int .i64 op0, .int .i64 oj, .int .i64 oe, .int .i64 os, .int .i64 or, .slice oA olen ocap, .int .i64 ost, .int .i64 oc]
  have L := Lib.hid (h.next low)
  have HL := Lib.hid low
  have KB := Lib.hid kb
  have K1 := Lib.hid (fun W => hd41 (W := W) L.out ho.wp (g := on))
  have K2 := Lib.hid (fun (V3 : World) (hH : Hd w V3 p m k N (sgT T opid on) r vL vS ND Q S) => rf51 hH hl opid on)
  have c0 := kb.cell 0 _ rfl
  have c1 := kb.cell 1 _ rfl
  have c2 := kb.cell 2 _ rfl
  clear h low kb ho
  go_enter Try.func35, Try.ntmps35
  go_wp2_with fail
  go_region_held3 (fun W => W.cell? ⟨V.heap.size, 1, none⟩ = some (.int .i64 opid) ∧ W.cell? ⟨V.heap.size, 2, none⟩ = some (.int .i64 on))
    (first | exact ⟨c1, c2⟩)
    (first
      | (go_at_call 41; (with_reducible refine (K1.out _ (by first | exact (Below.refl _ _).drew | exact Below.refl _ _)).mono ?_); rintro _ V3 ⟨⟨er, rfl⟩, hH, hk3⟩; have hx := hk3 _ _ _ KB.out (by decide) (by decide) (by decide) (by decide) (by decide); have d1 := hx.cell 1 _ rfl; have d2 := hx.cell 2 _ rfl; replace c1 := d1; replace c2 := d2; clear d1 d2)
      | (go_at_call 51; (with_reducible refine (K2.out _ hH).mono ?_); rintro _ V4 ⟨⟨er2, rfl⟩, vL', vS', ND', Q', S', hH4, hQ4, hk4, ht4⟩; have hx4 := hk4 _ _ _ hx (by decide) (by decide) (by decide) (by decide) (by decide); have d1 := hx4.cell 1 _ rfl; have d2 := hx4.cell 2 _ rfl; replace c1 := d1; replace c2 := d2; clear d1 d2))
  all_goals
    clear c0 c1 c2
    go_wp2_with fail
    go_ret
    exact ⟨⟨_, rfl⟩, m, N, _, vL', vS', ND', Q', S', hH4.few (by omega), .sig rfl, hQ4, (KeepB.of_below HL.out).trans (hk3.trans hk4)⟩
set_option maxRecDepth 100000 in
set_option maxHeartbeats 4000000 in
theorem doesh3 (h : Hd w V p m k N T r vL vS ND Q S) (hl : Q.length ≤ 255) (o : Oq) (ho : OqOk w o) (hd : o.d = 3) :
    Calls Try.prog 35 #[.pointer (some ⟨p, 0, none⟩), .pointer (some ⟨r, 0, none⟩), o.v] V (DoesH w V p k N T r Q.length o) := by
  obtain ⟨od, opid, on, op0, oj, oe, os, or, oA, olen, ocap, ozs, ost, oc⟩ := o
  dsimp only at hd
  subst hd
  have low := below_alloc V (.cells #[.int .i64 3, .int .i64 opid, .int .i64 on, .int .i64 op0, .int .i64 oj, .int .i64 oe, .int .i64 os, .int .i64 or, .slice oA olen ocap, .int .i64 ost, .int .i64 oc] 63)
  have kb := Bk.new V 63 #[.int .i64 3, .int .i64 opid, .int .i64 on, .int .i64 op0, .int .i64 oj, .int .i64 oe, .int .i64 os, .int .i64 or, .slice oA olen ocap, .int .i64 ost, .int .i64 oc]
  have L := Lib.hid (h.next low)
  have HL := Lib.hid low
  have KB := Lib.hid kb
  have K1 := Lib.hid (fun W => hd42 (W := W) L.out ho.wp (c := on))
  have K2 := Lib.hid (fun (V3 : World) (hH : Hd w V3 p m k N (exT T opid on) r vL vS ND Q S) => rf52 hH hl opid on)
  have c0 := kb.cell 0 _ rfl
  have c1 := kb.cell 1 _ rfl
  have c2 := kb.cell 2 _ rfl
  clear h low kb ho
  go_enter Try.func35, Try.ntmps35
  go_wp2_with fail
  go_region_held3 (fun W => W.cell? ⟨V.heap.size, 1, none⟩ = some (.int .i64 opid) ∧ W.cell? ⟨V.heap.size, 2, none⟩ = some (.int .i64 on))
    (first | exact ⟨c1, c2⟩)
    (first
      | (go_at_call 42; (with_reducible refine (K1.out _ (by first | exact (Below.refl _ _).drew | exact Below.refl _ _)).mono ?_); rintro _ V3 ⟨⟨er, rfl⟩, hH, hk3⟩; have hx := hk3 _ _ _ KB.out (by decide) (by decide) (by decide) (by decide) (by decide); have d1 := hx.cell 1 _ rfl; have d2 := hx.cell 2 _ rfl; replace c1 := d1; replace c2 := d2; clear d1 d2)
      | (go_at_call 52; (with_reducible refine (K2.out _ hH).mono ?_); rintro _ V4 ⟨⟨er2, rfl⟩, vL', vS', ND', Q', S', hH4, hQ4, hk4, ht4⟩; have hx4 := hk4 _ _ _ hx (by decide) (by decide) (by decide) (by decide) (by decide); have d1 := hx4.cell 1 _ rfl; have d2 := hx4.cell 2 _ rfl; replace c1 := d1; replace c2 := d2; clear d1 d2))
  all_goals
    clear c0 c1 c2
    go_wp2_with fail
    go_ret
    exact ⟨⟨_, rfl⟩, m, N, _, vL', vS', ND', Q', S', hH4.few (by omega), .exi rfl, hQ4, (KeepB.of_below HL.out).trans (hk3.trans hk4)⟩
set_option maxRecDepth 100000 in
set_option maxHeartbeats 4000000 in
theorem doesh4 (h : Hd w V p m k N T r vL vS ND Q S) (hl : Q.length ≤ 255) (o : Oq) (ho : OqOk w o) (hd : o.d = 4) :
    Calls Try.prog 35 #[.pointer (some ⟨p, 0, none⟩), .pointer (some ⟨r, 0, none⟩), o.v] V (DoesH w V p k N T r Q.length o) := by
  obtain ⟨od, opid, on, op0, oj, oe, os, or, oA, olen, ocap, ozs, ost, oc⟩ := o
  dsimp only at hd
  subst hd
  have low := below_alloc V (.cells #[.int .i64 4, .int .i64 opid, .int .i64 on, .int .i64 op0, .int .i64 oj, .int .i64 oe, .int .i64 os, .int .i64 or, .slice oA olen ocap, .int .i64 ost, .int .i64 oc] 63)
  have kb := Bk.new V 63 #[.int .i64 4, .int .i64 opid, .int .i64 on, .int .i64 op0, .int .i64 oj, .int .i64 oe, .int .i64 os, .int .i64 or, .slice oA olen ocap, .int .i64 ost, .int .i64 oc]
  have HL := Lib.hid low
  have KB := Lib.hid kb
  have K1 := Lib.hid (hd39 (h.next low) ho.wp)
  have c0 := kb.cell 0 _ rfl
  have c1 := kb.cell 1 _ rfl
  clear h low kb ho
  go_enter Try.func35, Try.ntmps35
  go_wp2_with fail
  refine K1.out.mono ?_
  rintro _ V3 ⟨⟨⟨vp, vj, ve, vs, vr, vst, vc, v7, vA, vcap, vcs, v8⟩, er, rfl, hy, hyl, hyA⟩, hH, hk3⟩
  have la := below_alloc V3 (.cells (tkC vp vj ve vs vr (.slice vA vcs.length vcap) vst vc) 61)
  have hx := (hk3 _ _ _ KB.out (by decide) (by decide) (by decide) (by decide) (by decide)).next la
  have ky := Lib.hid (Bk.new V3 61 (tkC vp vj ve vs vr (.slice vA vcs.length vcap) vst vc))
  have H3 := Lib.hid (And.intro (hH.next la) (And.intro (hy.next la) (And.intro hyl (And.intro hyA (And.intro (hk3.trans (KeepB.of_below la)) (fun e => Nat.lt_irrefl _ (hH.rt.lt V3.heap.size e)))))))
  have KR := Lib.hid (rf53 (hH.next la) hl opid)
  clear hy hyl hyA hH hk3 la K1 c0 c1
  have c1 := hx.cell 1 _ rfl
  go_wp2_with fail
  refine KR.out.mono ?_
  rintro _ V4 ⟨⟨⟨up, uj, ue, us, ur, ust, uc, u7, uA, ucap, ucs, u8⟩, er2, rfl, hz, hzl⟩, vL', vS', ND', Q', S', hH4, hQ4, hk4, ht4⟩
  have la := below_alloc V4 (.cells (tkC up uj ue us ur (.slice uA ucs.length ucap) ust uc) 61)
  have k5 := ((show Bk V4 _ 61 _ from ht4.bk ky.out H3.out.2.2.2.2.2)).next la
  have k6 := Bk.new V4 61 (tkC up uj ue us ur (.slice uA ucs.length ucap) ust uc)
  have hyc := (cs_kept H3.out.2.1 ht4.size (fun ad e => by obtain ⟨cur, hk⟩ := H3.out.2.1.bk e; exact ht4.block ad.block hk.lt (H3.out.1.rt.not hk (by decide) (by decide) (.inr (H3.out.2.2.2.1 ad e))))).next la
  have KO := Lib.hid (one_ends ⟨vp, vj, ve, vs, vr, vst, vc, v7, vA, vcap, vcs, v8⟩ ⟨up, uj, ue, us, ur, ust, uc, u7, uA, ucap, ucs, u8⟩ _ hyc.ints (hz.next la).ints H3.out.2.2.1)
  have H4 := Lib.hid (And.intro (hH4.next la) (And.intro hQ4 (H3.out.2.2.2.2.1.trans (hk4.trans (KeepB.of_below la)))))
  obtain ⟨⟨d0, d1, d2, d3, d4, d5, d6, d7⟩, _⟩ := k5.z8
  obtain ⟨⟨e0, e1, e2, e3, e4, e5, e6, e7⟩, _⟩ := k6.z8
  clear la k5 k6 hyc hH4 hQ4 hk4 ht4 hz hzl c1 hx KR H3 ky
  go_wp2_with fail
  refine KO.out.mono ?_
  rintro _ V6 ⟨⟨b1, rfl⟩, hb⟩
  have H6 := Lib.hid (And.intro (H4.out.1.next hb) (H4.out.2.2.trans (KeepB.of_below hb)))
  clear hb
  cases b1
  all_goals
    go_wp2_with fail
    go_ret
    exact ⟨⟨_, rfl⟩, m, N, _, vL', vS', ND', Q', S', H6.out.1.few (by omega), .rp rfl, H4.out.2.1, (KeepB.of_below HL.out).trans H6.out.2⟩
set_option maxRecDepth 100000 in
set_option maxHeartbeats 1000000 in
theorem doesh5 (h : Hd w V p m k N T r vL vS ND Q S) (o : Oq) (h0 : o.d ≠ 0) (h1 : o.d ≠ 1) (h2 : o.d ≠ 2) (h3 : o.d ≠ 3) (h4 : o.d ≠ 4) :
    Calls Try.prog 35 #[.pointer (some ⟨p, 0, none⟩), .pointer (some ⟨r, 0, none⟩), o.v] V (DoesH w V p k N T r Q.length o) := by
  obtain ⟨od, opid, on, op0, oj, oe, os, or, oA, olen, ocap, ozs, ost, oc⟩ := o
  dsimp only at h0 h1 h2 h3 h4
  have low := below_alloc V (.cells #[.int .i64 od, .int .i64 opid, .int .i64 on, .int .i64 op0, .int .i64 oj, .int .i64 oe, .int .i64 os, .int .i64 or, .slice oA olen ocap, .int .i64 ost, .int .i64 oc] 63)
  have kb := Bk.new V 63 #[.int .i64 od, .int .i64 opid, .int .i64 on, .int .i64 op0, .int .i64 oj, .int .i64 oe, .int .i64 os, .int .i64 or, .slice oA olen ocap, .int .i64 ost, .int .i64 oc]
  have L := Lib.hid (h.next low)
  have HL := Lib.hid low
  have c0 := kb.cell 0 _ rfl
  have t0 : (od == 0) = false := by simpa using h0
  have t1 : (od == 1) = false := by simpa using h1
  have t2 : (od == 2) = false := by simpa using h2
  have t3 : (od == 3) = false := by simpa using h3
  have t4 : (od == 4) = false := by simpa using h4
  clear h low kb h0 h1 h2 h3 h4
  go_enter Try.func35, Try.ntmps35
  go_wp2_with fail
  go_ret
  exact ⟨⟨_, rfl⟩, m, N, _, vL, vS, ND, Q, S, L.out.few (by omega), .same, by omega, KeepB.of_below HL.out⟩
theorem spawn_h (h : Hd w V p m k N T r vL vS ND Q S) {o : Oq} (ho : OqOk w o) (hd : o.d = 0) (hl : o.len ≤ 300) (hk : k < 900) (hN : N < 200) (hT : T.length < 256) :
    Calls Try.prog 37 #[.pointer (some ⟨p, 0, none⟩), tkV o.p0 o.j o.e o.s o.r (.slice o.A o.len o.cap) o.st o.c] V fun x V' => (∃ a er : Int, x = .returned (.tuple #[.int .i64 a, .int .i64 er])) ∧ ∃ m' N' T', Hd w V' p m' (k + 1) N' T' r vL vS ND Q S ∧ Dd N T o N' T' ∧ KeepB V V' := by
  have hz := ho.ints.next h.lt.low
  by_cases hn : o.len = 0
  · refine (spawn_no h.lt.tab o.p0 o.j o.e o.s o.r o.st o.c (cE o.zs) o.A o.len o.cap (of_says hz ho.len (by omega)) (by omega) (by unfold mayT; rw [hn]; simp)).mono ?_
    rintro x V' ⟨rfl, hb⟩
    exact ⟨⟨_, _, rfl⟩, m, N, T, (h.next hb).few (by omega), .same, KeepB.of_below hb⟩
  · refine (spawn_any h.lt.tab (by omega) hN hT o.p0 o.j o.e o.s o.r o.st o.c o.A o.len o.cap o.zs hz ho.len (fun ad e => by have := ho.blk (by omega) e; have := h.lt.hp; omega) (by omega)).mono ?_
    rintro x V' (⟨_, rfl, hb⟩ | ⟨_, A', cap', b', m', rfl, r1, r2, r3, r5, r4⟩)
    · exact ⟨⟨_, _, rfl⟩, m, N, T, (h.next hb).few (by omega), .same, KeepB.of_below hb⟩
    · refine ⟨⟨_, _, rfl⟩, m', N + 1, _, h.prog (h.lt.turn r1 r2 (fun b e => ?_) (fun x hx => ?_)) r2 (fun x hx ad e e2 => ?_), .new A' cap' b' hd, KeepB.of_tt h.lt.tab r2⟩
      · rcases r3 with rfl | ⟨_, b2, e2, e3⟩
        · exact h.lt.hm b e
        · rw [e] at e2
          cases e2
          exact Nat.le_trans h.lt.low.size e3
      · rcases List.mem_append.1 hx with q | q
        · exact h.lt.hb x q
        · rw [List.mem_singleton.1 q]
          exact Nat.le_trans h.lt.low.size r4
      · rcases List.mem_append.1 hx with q | q
        · exact h.pt x q ad e e2
        · rw [List.mem_singleton.1 q] at e
          have := r5 ad e
          have := h.rt.lt ad.block (.inr (.inr e2))
          omega
set_option maxRecDepth 100000 in
set_option maxHeartbeats 4000000 in
theorem doesh0 (h : Hd w V p m k N T r vL vS ND Q S) (hlq : Q.length ≤ 255) (o : Oq) (ho : OqOk w o) (hd : o.d = 0) (hl : o.len ≤ 300) (hk : k < 900) (hN : N < 200) (hT : T.length < 256) :
    Calls Try.prog 35 #[.pointer (some ⟨p, 0, none⟩), .pointer (some ⟨r, 0, none⟩), o.v] V (DoesH w V p k N T r Q.length o) := by
  have hb0 := fun (hn : 0 < o.len) ad (e : o.A = some ad) => ho.blk hn e
  have hr := h.hr
  obtain ⟨od, opid, on, op0, oj, oe, os, or, oA, olen, ocap, ozs, ost, oc⟩ := o
  dsimp only at hd hl hb0
  subst hd
  have low := below_alloc V (.cells #[.int .i64 0, .int .i64 opid, .int .i64 on, .int .i64 op0, .int .i64 oj, .int .i64 oe, .int .i64 os, .int .i64 or, .slice oA olen ocap, .int .i64 ost, .int .i64 oc] 63)
  have kb := Bk.new V 63 #[.int .i64 0, .int .i64 opid, .int .i64 on, .int .i64 op0, .int .i64 oj, .int .i64 oe, .int .i64 os, .int .i64 or, .slice oA olen ocap, .int .i64 ost, .int .i64 oc]
  have HL := Lib.hid low
  have HO := Lib.hid ho
  have HB := Lib.hid hb0
  have KB := Lib.hid kb
  have K1 := Lib.hid (spawn_h (h.next low) ho rfl hl hk hN hT)
  have c0 := kb.cell 0 _ rfl
  have c3 := kb.cell 3 _ rfl
  have c4 := kb.cell 4 _ rfl
  have c5 := kb.cell 5 _ rfl
  have c6 := kb.cell 6 _ rfl
  have c7 := kb.cell 7 _ rfl
  have c8 := kb.cell 8 _ rfl
  have c9 := kb.cell 9 _ rfl
  have c10 := kb.cell 10 _ rfl
  clear h low kb ho hb0
  go_enter Try.func35, Try.ntmps35
  go_wp2_with fail
  refine K1.out.mono ?_
  rintro _ V3 ⟨⟨a, er, rfl⟩, m', N', T', hH, hD, hk3⟩
  have hx := hk3 _ _ _ KB.out (by decide) (by decide) (by decide) (by decide) (by decide)
  have H3 := Lib.hid (And.intro hH (And.intro hD hk3))
  have KR := Lib.hid (rspawn_any hH.rt hlq op0 oj oe os or ost oc oA olen ocap ozs (HO.out.ints.next hH.lt.low) HO.out.len hl HO.out.room (fun ad e hn => by have := HB.out hn ad e; omega))
  clear hH hD hk3 K1 c0 c3 c4 c5 c6 c7 c8 c9 c10
  have c3 := hx.cell 3 _ rfl
  have c4 := hx.cell 4 _ rfl
  have c5 := hx.cell 5 _ rfl
  have c6 := hx.cell 6 _ rfl
  have c7 := hx.cell 7 _ rfl
  have c8 := hx.cell 8 _ rfl
  have c9 := hx.cell 9 _ rfl
  have c10 := hx.cell 10 _ rfl
  clear hx
  go_wp2_with fail
  refine KR.out.mono ?_
  rintro _ V4 ⟨⟨a2, er2, rfl⟩, hO⟩
  obtain ⟨vL', vS', ND', Q', S', hH4, hQ4, hk4, _⟩ := H3.out.1.out hO
  have R := Lib.hid (And.intro hH4 (And.intro hQ4 ((KeepB.of_below HL.out).trans (H3.out.2.2.trans hk4))))
  have HD := Lib.hid H3.out.2.1
  clear hH4 hQ4 hk4 hO H3 KR c3 c4 c5 c6 c7 c8 c9 c10
  cases t0 : a == a2
  all_goals
    go_wp2_with fail
    go_ret
    exact ⟨⟨_, rfl⟩, m', N', T', vL', vS', ND', Q', S', R.out.1, HD.out, R.out.2.1, R.out.2.2⟩
theorem doesh_any (h : Hd w V p m k N T r vL vS ND Q S) (hlq : Q.length ≤ 255) (o : Oq) (ho : OqOk w o) (hl : o.len ≤ 300) (hk : k < 900) (hN : N < 200) (hT : T.length < 256) :
    Calls Try.prog 35 #[.pointer (some ⟨p, 0, none⟩), .pointer (some ⟨r, 0, none⟩), o.v] V (DoesH w V p k N T r Q.length o) := by
  by_cases h0 : o.d = 0
  · exact doesh0 h hlq o ho h0 hl hk hN hT
  by_cases h1 : o.d = 1
  · exact doesh1 h hlq o ho h1
  by_cases h2 : o.d = 2
  · exact doesh2 h hlq o ho h2
  by_cases h3 : o.d = 3
  · exact doesh3 h hlq o ho h3
  by_cases h4 : o.d = 4
  · exact doesh4 h hlq o ho h4
  exact doesh5 h o h0 h1 h2 h3 h4
end
end Go.Proofs.Ytjolkcomlindhaa
/- Who was released; the bools beside both tables. -/
namespace Go.Proofs.Ytjolkcomlindhaa
open Go.RowKit Go.Shelf Go.Maps Go.Sort

/-- Sixty-one bools. -/
def rbL (f : Nat → Bool) (n : Nat) : List Value := (List.range n).map fun j => Value.bool (f j)
theorem rbL_at {f : Nat → Bool} {n j : Nat} (h : j < n) : (rbL f n)[j]? = some (.bool (f j)) := by simp [rbL, h]
theorem rbL_set {f : Nat → Bool} {n q : Nat} : (rbL f n).set q (.bool true) = rbL (fun j => f j || j == q) n := by
  have hl : ∀ g, (rbL g n).length = n := fun g => by simp [rbL]
  apply List.ext_getElem?
  intro j
  rw [List.getElem?_set]
  by_cases hj : j < n
  · rw [rbL_at hj, rbL_at hj, hl]
    by_cases e : q = j
    · subst e; simp [hj]
    · rw [if_neg e]
      have : (j == q) = false := by simp; omega
      rw [this]
      simp
  · rw [List.getElem?_eq_none (l := rbL f n) (by rw [hl]; omega), List.getElem?_eq_none (l := rbL _ n) (by rw [hl]; omega), hl]
    split
    · split
      · omega
      · rfl
    · rfl
def rb (f : Nat → Bool) : Array Value := (rbL f 61).toArray
theorem rb_at {f : Nat → Bool} {j : Nat} (h : j < 61) : (rb f)[j]? = some (.bool (f j)) := by
  unfold rb
  rw [List.getElem?_toArray]
  exact rbL_at h
theorem rb_set (f : Nat → Bool) (q : Nat) : (rb f).set! q (.bool true) = rb (fun j => f j || j == q) := by
  apply Array.toList_inj.1
  unfold rb
  rw [← rbL_set]
  simp
theorem info4 : (Try.prog.info? 4).map (fun i => (i.zero, i.size, i.bytes)) = some (some (.bool false), 1, 1) := by kernel_rfl
theorem made_rb {w : World} {base g : Nat} (h : w.ownsRow base 4 1 (.slice (some ⟨g, 0, none⟩) 61 61) 61 (madeCells (Value.cells (.bool false)) (61 * 1)).toList) : Bk w g 4 (rb fun _ => false) := by
  rcases h.2 with ⟨e, _⟩ | ⟨g', cap, cur, e, _, hg, _, _, hsz, htk⟩
  · cases e
  · cases e
    have e2 : cur = rb fun _ => false := by
      apply Array.toList_inj.1
      rw [List.take_of_length_le (by rw [Array.length_toList, hsz]; exact Nat.le_refl _)] at htk
      rw [htk]
      show (madeCells #[Value.bool false] (61 * 1)).toList = _
      rw [toList_madeCells_one]
      rfl
    rw [← e2]
    exact hg
theorem mem_updP {T : List Pr} {x' y : Pr} (h : y ∈ updP T x') : y = x' ∨ y ∈ T := by
  obtain ⟨z, hz, e⟩ := List.mem_map.1 h
  by_cases q : z.pid = x'.pid
  · rw [if_pos q] at e; exact .inl e.symm
  · rw [if_neg q] at e; exact .inr (e ▸ hz)
/-- Whoever was not released was never run. -/
def NotRun (T : List Pr) (f : Nat → Bool) : Prop := ∀ x ∈ T, f x.pid.toNat = false → x.st = 0 ∨ (x.st = 2 ∧ x.code = 137)
theorem NotRun.mono {T : List Pr} {f g : Nat → Bool} (h : NotRun T f) (hg : ∀ q, g q = false → f q = false) : NotRun T g := fun x hx e => h x hx (hg _ e)
theorem NotRun.dd {N N' : Int} {T T' : List Pr} {o : Oq} {f g : Nat → Bool} (h : NotRun T f) (hD : Dd N T o N' T') (hg : ∀ q, g q = false → f q = false) (hr : o.d = 1 → ∀ x ∈ T, x.pid = o.pid → g x.pid.toNat = true) : NotRun T' g := by
  cases hD with
  | same => exact h.mono hg
  | new A cap b _ =>
    intro x hx e
    rcases List.mem_append.1 hx with q | q
    · exact h x q (hg _ e)
    · rw [List.mem_singleton.1 q]
      exact .inl rfl
  | rel hd =>
    rcases relT_cases T o.pid with q | ⟨z, hz, _, q⟩ <;> rw [q]
    · exact h.mono hg
    · intro x hx e
      rcases mem_updP hx with rfl | hx
      · have := hr hd z (lookP_mem hz).1 (lookP_mem hz).2
        rw [this] at e
        cases e
      · exact h x hx (hg _ e)
  | sig _ =>
    rcases sgT_cases T o.pid o.n with q | ⟨z, hz, _, h2, q⟩ <;> rw [q]
    · exact h.mono hg
    · intro x hx e
      rcases mem_updP hx with rfl | hx
      · rcases h z (lookP_mem hz).1 (hg _ e) with k | k
        · by_cases g9 : o.n = 9
          · exact .inr ⟨by show (if o.n = 9 ∧ z.st = 0 then 2 else z.st) = 2; rw [if_pos ⟨g9, k⟩], by show (if o.n = 9 ∧ z.st = 0 then 137 else z.code) = 137; rw [if_pos ⟨g9, k⟩]⟩
          · exact .inl (by show (if o.n = 9 ∧ z.st = 0 then 2 else z.st) = 0; rw [if_neg (fun q => g9 q.1)]; exact k)
        · exact absurd k.1 h2
      · exact h x hx (hg _ e)
  | exi _ =>
    rcases exT_cases T o.pid o.n with q | ⟨z, hz, h1, q⟩ <;> rw [q]
    · exact h.mono hg
    · intro x hx e
      rcases mem_updP hx with rfl | hx
      · rcases h z (lookP_mem hz).1 (hg _ e) with k | k <;> omega
      · exact h x hx (hg _ e)
  | rp _ =>
    rcases rpT_cases T o.pid with q | ⟨z, _, _, q⟩ <;> rw [q]
    · exact h.mono hg
    · exact fun x hx e => h x (List.mem_filter.1 hx).1 (hg _ e)
section
variable {w V V' : World} {p k r : Nat} {m : Option Nat} {N ND : Int} {T Q : List Pr} {S : List Int} {vL vS : Value}
theorem Hd.put4 (h : Hd w V p m k N T r vL vS ND Q S) {g : Nat} {cs : Array Value} (hk : Bk V g 4 cs) (hge : w.heap.size ≤ g) (i : Nat) (u : Value) : Hd w (V.setCell ⟨g, i, none⟩ u) p m k N T r vL vS ND Q S := by
  have hg := gset V g i u
  have hx : ¬ RX r vL vS g := h.rt.not hk (by decide) (by decide) (.inl (by decide))
  have ho : ∀ b, b < V.heap.size → b ≠ g → (V.setCell ⟨g, i, none⟩ u).heap[b]? = V.heap[b]? := fun b hb e => hg.block b hb (fun e2 => e (Option.some.inj e2))
  refine ⟨⟨h.lt.tab.far hg hk (by decide), h.lt.low.grown hg h.lt.low.size (fun j e => by cases e; exact hge), h.lt.hp, h.lt.hm, h.lt.hb⟩, ⟨(ho r h.rt.blk.lt (fun e => hx (.inl e.symm))).trans h.rt.blk, row_kept h.rt.rl fun b e => ?_, row_kept h.rt.rs fun b e => ?_, h.rt.ls, fun y hy => ?_, h.rt.few, h.rt.ap⟩, h.hr, h.pt⟩
  · exact ho b (h.rt.lt b (.inr (.inl e))) (fun e2 => hx (.inr (.inl (e2 ▸ e))))
  · exact ho b (h.rt.lt b (.inr (.inr e))) (fun e2 => hx (.inr (.inr (e2 ▸ e))))
  · refine cs_kept (h.rt.cs y hy) hg.size fun ad e => ?_
    obtain ⟨cur, hk'⟩ := (h.rt.cs y hy).bk e
    exact ho _ hk'.lt (bk_ne hk' hk (by decide))
end
end Go.Proofs.Ytjolkcomlindhaa
