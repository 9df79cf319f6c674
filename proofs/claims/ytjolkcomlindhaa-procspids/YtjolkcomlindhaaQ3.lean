/- does: Spawn; does whole. -/
import Derived.Test.YtjolkcomlindhaaP7
import Derived.Test.YtjolkcomlindhaaQ2
import Derived.Test.YtjolkcomlindhaaQ5
namespace Go.Proofs.Ytjolkcomlindhaa
open Go.RowKit Go.Shelf Go.Maps Go.Sort

section
variable {w V V2 V4 : World} {p k q bx : Nat} {m : Option Nat} {N : Int} {T : List Pr} {dq cb : Array Value} {o : Oq}
theorem OqOk.blk (ho : OqOk w o) (hn : 0 < o.len) {ad : Addr} (e : o.A = some ad) : ad.block < w.heap.size := by
  rcases ho.ints with q | ⟨ad', q, h1, _⟩
  · have := ho.len; rw [q] at this; simp at this; omega
  · rw [e] at q; cases q; exact h1
theorem Lt.far (h : Lt w V2 p m k N T) (hg : V2.grownBy V4 (some q)) (hk : Bk V2 q 58 dq) (hq : w.heap.size ≤ q) : Lt w V4 p m k N T :=
  ⟨h.tab.far hg hk (by decide), h.low.grown hg h.low.size (fun j e => by cases e; exact hq), h.hp, h.hm, h.hb⟩
theorem spawn_l (h : Lt w V2 p m k N T) (kq : Bk V2 q 58 dq) (kb : Bk V2 bx 63 cb) (ho : OqOk w o) (hd : o.d = 0) (hl : o.len ≤ 300) (hk : k < 900) (hN : N < 200) (hT : T.length < 256) :
    Calls Try.prog 37 #[.pointer (some ⟨p, 0, none⟩), tkV o.p0 o.j o.e o.s o.r (.slice o.A o.len o.cap) o.st o.c] V2 fun x V' => (∃ a er : Int, x = .returned (.tuple #[.int .i64 a, .int .i64 er])) ∧ (∃ m' N' T', Lt w V' p m' (k + 1) N' T' ∧ Dd N T o N' T' ∧ Tt V2 V' p m T) ∧ Bk V' q 58 dq ∧ Bk V' bx 63 cb := by
  have hz := ho.ints.next h.low
  by_cases hn : o.len = 0
  · refine (spawn_no h.tab o.p0 o.j o.e o.s o.r o.st o.c (cE o.zs) o.A o.len o.cap (of_says hz ho.len (by omega)) (by omega) (by unfold mayT; rw [hn]; simp)).mono ?_
    rintro x V' ⟨rfl, hb⟩
    exact ⟨⟨_, _, rfl⟩, ⟨m, N, T, (h.next hb).few (by omega), .same, Tt.of_below hb⟩, kq.next hb, kb.next hb⟩
  · refine (spawn_any h.tab (by omega) hN hT o.p0 o.j o.e o.s o.r o.st o.c o.A o.len o.cap o.zs hz ho.len (fun ad e => by have := ho.blk (by omega) e; have := h.hp; omega) (by omega)).mono ?_
    rintro x V' (⟨_, rfl, hb⟩ | ⟨_, A', cap', b', m', rfl, r1, r2, r3, r4⟩)
    · exact ⟨⟨_, _, rfl⟩, ⟨m, N, T, (h.next hb).few (by omega), .same, Tt.of_below hb⟩, kq.next hb, kb.next hb⟩
    · refine ⟨⟨_, _, rfl⟩, ⟨m', N + 1, _, h.turn r1 r2 (fun b e => ?_) (fun x hx => ?_), .new A' cap' b' hd, r2⟩, kq.tt h.tab r2 (by decide) (by decide), kb.tt h.tab r2 (by decide) (by decide)⟩
      · rcases r3 with rfl | ⟨_, b2, e2, e3⟩
        · exact h.hm b e
        · rw [e] at e2
          cases e2
          exact Nat.le_trans h.low.size e3
      · rcases List.mem_append.1 hx with q | q
        · exact h.hb x q
        · rw [List.mem_singleton.1 q]
          exact Nat.le_trans h.low.size r4
set_option maxRecDepth 100000 in
set_option maxHeartbeats 4000000 in
theorem does0 (h : Lt w V p m k N T) (o : Oq) (ho : OqOk w o) (hd : o.d = 0) (hl : o.len ≤ 300) (hk : k < 900) (hN : N < 200) (hT : T.length < 256) :
    Calls Try.prog 35 #[.pointer (some ⟨p, 0, none⟩), .pointer (some ⟨V.heap.size, 0, none⟩), o.v] (V.alloc (.cells dt0 58)) (DoesR w V p k m N T o) := by
  have hb0 := fun (hn : 0 < o.len) ad (e : o.A = some ad) => ho.blk hn e
  have hvl := h.low.size
  obtain ⟨od, opid, on, op0, oj, oe, os, or, oA, olen, ocap, ozs, ost, oc⟩ := o
  dsimp only at hd hl hb0
  subst hd
  have low := (below_alloc V (.cells dt0 58)).alloc (by simp) (.cells #[.int .i64 0, .int .i64 opid, .int .i64 on, .int .i64 op0, .int .i64 oj, .int .i64 oe, .int .i64 os, .int .i64 or, .slice oA olen ocap, .int .i64 ost, .int .i64 oc] 63)
  have kq := (Bk.new V 58 dt0).alloc (.cells #[.int .i64 0, .int .i64 opid, .int .i64 on, .int .i64 op0, .int .i64 oj, .int .i64 oe, .int .i64 os, .int .i64 or, .slice oA olen ocap, .int .i64 ost, .int .i64 oc] 63)
  have kb := Bk.new (V.alloc (.cells dt0 58)) 63 #[.int .i64 0, .int .i64 opid, .int .i64 on, .int .i64 op0, .int .i64 oj, .int .i64 oe, .int .i64 os, .int .i64 or, .slice oA olen ocap, .int .i64 ost, .int .i64 oc]
  rw [size_alloc] at kb
  have HL := Lib.hid low
  have HO := Lib.hid ho
  have HB := Lib.hid hb0
  have K1 := Lib.hid (spawn_l (h.next low) kq kb ho rfl hl hk hN hT)
  have c0 := kb.cell 0 _ rfl
  have c3 := kb.cell 3 _ rfl
  have c4 := kb.cell 4 _ rfl
  have c5 := kb.cell 5 _ rfl
  have c6 := kb.cell 6 _ rfl
  have c7 := kb.cell 7 _ rfl
  have c8 := kb.cell 8 _ rfl
  have c9 := kb.cell 9 _ rfl
  have c10 := kb.cell 10 _ rfl
  clear h low kq kb ho hb0
  go_enter Try.func35, Try.ntmps35
  go_wp2_with fail
  refine K1.out.mono ?_
  rintro _ V3 ⟨⟨a, er, rfl⟩, ⟨m', N', T', hL, hD, hT'⟩, hq, hx⟩
  have H3 := Lib.hid (And.intro hL (And.intro hD (And.intro hT' hq)))
  have KR := Lib.hid (rspawn0 (w := V3) (q := V.heap.size) hq op0 oj oe os or ost oc oA olen ocap ozs (HO.out.ints.next hL.low) HO.out.len hl HO.out.room (fun ad e hn => by have := HB.out hn ad e; omega))
  clear hL hD hT' hq K1 c0 c3 c4 c5 c6 c7 c8 c9 c10
  have c3 := hx.cell 3 _ rfl
  have c4 := hx.cell 4 _ rfl
  have c5 := hx.cell 5 _ rfl
  have c6 := hx.cell 6 _ rfl
  have c7 := hx.cell 7 _ rfl
  have c8 := hx.cell 8 _ rfl
  have c9 := hx.cell 9 _ rfl
  have c10 := hx.cell 10 _ rfl
  clear hx
  go_wp2_with fail
  refine KR.out.mono ?_
  rintro _ V4' ⟨⟨a2, er2, rfl⟩, hg⟩
  obtain ⟨hL, hD, hT', hq⟩ := H3.out
  have R := Lib.hid (show Lt w V4' p m' (k + 1) N' T' ∧ Tt V V4' p m T from ⟨hL.far hg hq hvl, tt_far (tt_low HL.out hT') hg (Nat.le_refl _)⟩)
  have HD := Lib.hid hD
  clear hL hD hT' hq hg H3 KR c3 c4 c5 c6 c7 c8 c9 c10
  cases t0 : a == a2
  all_goals
    go_wp2_with fail
    go_ret
    exact ⟨⟨_, rfl⟩, m', N', T', R.out.1, HD.out, R.out.2⟩
theorem does_any (h : Lt w V p m k N T) (o : Oq) (ho : OqOk w o) (hl : o.len ≤ 300) (hk : k < 900) (hN : N < 200) (hT : T.length < 256) :
    Calls Try.prog 35 #[.pointer (some ⟨p, 0, none⟩), .pointer (some ⟨V.heap.size, 0, none⟩), o.v] (V.alloc (.cells dt0 58)) (DoesR w V p k m N T o) := by
  by_cases h0 : o.d = 0
  · exact does0 h o ho h0 hl hk hN hT
  by_cases h1 : o.d = 1
  · exact does1 h o ho h1
  by_cases h2 : o.d = 2
  · exact does2 h o ho h2
  by_cases h3 : o.d = 3
  · exact does3 h o ho h3
  by_cases h4 : o.d = 4
  · exact does4 h o ho h4
  exact does5 h o h0 h1 h2 h3 h4
end
theorem does_all : DoesC := fun _ _ _ _ _ _ _ o h ho hl hk hN hT => does_any h o ho hl hk hN hT
end Go.Proofs.Ytjolkcomlindhaa
