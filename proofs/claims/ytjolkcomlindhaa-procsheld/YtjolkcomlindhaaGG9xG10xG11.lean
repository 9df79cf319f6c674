/- A table: Spawn, walked. -/
import Derived.Test.YtjolkcomlindhaaGG6xG7xG8
namespace Go.Proofs.Ytjolkcomlindhaa
open Go.RowKit Go.Shelf Go.Maps Go.Sort

attribute [local go_sem] eqm83
theorem PAt.far {V V' : World} {x : Pr} (q : PAt V x) {g t : Nat} {cs : Array Value} (hg : V.grownBy V' (some g)) (hk : Bk V g t cs) (h1 : t ≠ 93) (h2 : t ≠ 3) : PAt V' x :=
  ⟨q.blk.grown hg (bk_ne q.blk hk (fun e => h1 e.symm)), q.cs.far hg hk h2, q.len⟩
theorem IntsAt.far {V V' : World} {A : Option Addr} {zs : List Int} (h : IntsAt V A zs) {g : Nat} (hg : V.grownBy V' (some g)) (hA : ∀ ad, A = some ad → ad.block ≠ g) : IntsAt V' A zs := by
  rcases h with e | ⟨ad, e, h1, h2⟩
  · exact .inl e
  · refine .inr ⟨ad, e, Nat.lt_of_lt_of_le h1 hg.size, fun j hj => ?_⟩
    rw [← h2 j hj]
    simp only [World.cell?, block_add, hg.block ad.block h1 (fun q => hA ad e (by injection q))]
theorem spawn_frame {w W w7 w9 w8 : World} {p b : Nat} {T : List Pr} (TT : Tt w W p (some b) T) (hb7 : Below W.heap.size W w7) (la : Below w7.heap.size w7 w9) (hg : w9.grownBy w8 (some b)) : Tt w w8 p (some b) T := by
  have s1 := TT.size
  have s2 := hb7.size
  have s3 := la.size
  refine ⟨hg.os.trans (la.os.trans (hb7.os.trans TT.os)), hg.tape.trans (la.tape.trans (hb7.tape.trans TT.tape)), hg.output.trans (la.output.trans (hb7.output.trans TT.output)), Nat.le_trans s1 (Nat.le_trans s2 (Nat.le_trans s3 hg.size)), fun i hi a1 a2 a3 => ?_⟩
  exact (hg.block i (by omega) (fun q => a2 q.symm)).trans ((la.block i (by omega)).trans ((hb7.block i (by omega)).trans (TT.block i hi a1 a2 a3)))
section
variable {w : World} {p k : Nat} {m : Option Nat} {N : Int} {T : List Pr}
set_option maxRecDepth 100000 in
set_option maxHeartbeats 1000000 in
theorem spawn_no (_ : TbAt w p m k N T) (p0 j e s r st c er : Int) (A : Option Addr) (n cap : Nat) (hO : OfSays w A n cap er) (hl : n ≤ 1000) (hm : mayT j e s r er n = false) :
    Calls Try.prog 37 #[.pointer (some ⟨p, 0, none⟩), tkV p0 j e s r (.slice A n cap) st c] w fun x w' => x = .returned (.tuple #[.int .i64 0, .int .i64 1]) ∧ Below w.heap.size w w' := by
  have low := below_alloc w (.cells (tkC p0 j e s r (.slice A n cap) st c) 61)
  have K := Lib.hid (mayT_any p0 j e s r st c er A n cap _ (fun V hb => hO V (bmore low hb)) hl)
  rw [hm] at K
  clear hO hl hm
  go_enter Try.func37, Try.ntmps37
  go_wp2_with fail
  refine K.out.mono ?_
  rintro x w1 ⟨rfl, hb⟩
  go_wp2_with fail
  go_ret2
  exact ⟨rfl, bmore low hb⟩
set_option maxRecDepth 100000 in
set_option maxHeartbeats 4000000 in
theorem spawn_some {b : Nat} (h : TbAt w p (some b) k N T) (hk : k < 1000) (hN : N < 200) (hT : T.length < 256) (p0 j e s r st c : Int) (A : Option Addr) (n cap : Nat) (zs : List Int) (hz : IntsAt w A zs) (hn : zs.length = n) (hA : ∀ ad, A = some ad → ad.block ≠ p) (hO : OfSays w A n cap 0) (hl : n ≤ 1000) (hm : mayT j e s r 0 n = true) :
    Calls Try.prog 37 #[.pointer (some ⟨p, 0, none⟩), tkV p0 j e s r (.slice A n cap) st c] w fun x w' => ∃ A' cap' b', x = .returned (.tuple #[.int .i64 (N + 1), .int .i64 0]) ∧ TbAt w' p (some b) (k + 1) (N + 1) (T ++ [⟨N + 1, j, e, s, r, 0, 0, 0, A', cap', zs, b'⟩]) ∧ Tt w w' p (some b) T ∧ (∀ ad, A' = some ad → w.heap.size ≤ ad.block) ∧ w.heap.size ≤ b' := by
  have low := below_alloc w (.cells (tkC p0 j e s r (.slice A n cap) st c) 61)
  have kb := Bk.new w 61 (tkC p0 j e s r (.slice A n cap) st c)
  have K := Lib.hid (mayT_any p0 j e s r st c 0 A n cap _ (fun V hb => hO V (bmore low hb)) hl)
  rw [hm] at K
  have hpl := h.blk.lt
  have hbl := h.lt rfl
  have hnpb : p ≠ b := fun q => h.ne h.blk (by rw [q])
  have few := h.few
  have PF := Lib.hid (show (T.Pairwise fun a b => a.pid < b.pid) ∧ (T.Pairwise fun a b => a.b ≠ b.b) ∧ (∀ x ∈ T, 1 ≤ x.pid ∧ x.pid ≤ N) from ⟨h.up, h.apart, h.pids⟩)
  have h1 := h.next low
  have HZ := Lib.hid hz
  have HA := Lib.hid hA
  have HNn := Lib.hid hn
  clear hO hm h hz hA hn
  go_enter Try.func37, Try.ntmps37
  go_wp2_with fail
  refine K.out.mono ?_
  rintro x w1 ⟨rfl, hb⟩
  replace h1 := h1.next hb
  replace kb := kb.next hb
  replace low := bmore low hb
  clear hb K
  have hs1 := low.size
  have c0 := h1.blk.cell 0 _ rfl
  have c1 := h1.blk.cell 1 _ rfl
  have f0 := h1.blk.frozen 0
  have hlen := h1.size
  obtain ⟨⟨d0, d1, d2, d3, d4, d5, d6, d7⟩, g0, g1, g2, g3, g4, g5, g6, g7⟩ := kb.z8
  have npx : p ≠ w.heap.size := by omega
  have nbx : b ≠ w.heap.size := by omega
  have c1' := (h1.blk.set 0 (.int .i64 (N + 1))).cell 1 _ rfl
  have t256 : decide ((256 : Int) ≤ (T.length : Int)) = false := by simp; omega
  have ga := gset w1 p 0 (.int .i64 (N + 1))
  have kA := kb.put (i := 0) (v := .int .i64 (N + 1)) npx.symm
  have gb := gtrans (gtrans (gset (w1.setCell ⟨p, 0, none⟩ (.int .i64 (N + 1))) w.heap.size 0 (.int .i64 (N + 1))) (gset _ w.heap.size 6 (.int .i64 0))) (gset _ w.heap.size 7 (.int .i64 0))
  have st : Sw ((((w1.setCell ⟨p, 0, none⟩ (.int .i64 (N + 1))).setCell ⟨w.heap.size, 0, none⟩ (.int .i64 (N + 1))).setCell ⟨w.heap.size, 6, none⟩ (.int .i64 0)).setCell ⟨w.heap.size, 7, none⟩ (.int .i64 0)) p w.heap.size b k (N + 1) T j e s r A n cap zs := by
    refine ⟨(((h1.blk.set 0 (.int .i64 (N + 1))).put npx).put npx).put npx, ((kA.set 0 (.int .i64 (N + 1))).set 6 (.int .i64 0)).set 7 (.int .i64 0), ?_, fun x hx => ((h1.procs x hx).far ga h1.blk (by decide) (by decide)).far gb kA (by decide) (by decide), ?_⟩
    · obtain ⟨D, o1, hS⟩ := h1.own b rfl
      exact ⟨D, ((((o1.setCell hnpb.symm _).setCell nbx _).setCell nbx _).setCell nbx _), hS⟩
    · rcases HZ.out with q | ⟨ad, q, q1, q2⟩
      · exact .inl q
      · exact ((HZ.out.next low).far ga HA.out).far gb (fun ad' q' => by rw [q] at q'; cases q'; omega)
  have TT : Tt w ((((w1.setCell ⟨p, 0, none⟩ (.int .i64 (N + 1))).setCell ⟨w.heap.size, 0, none⟩ (.int .i64 (N + 1))).setCell ⟨w.heap.size, 6, none⟩ (.int .i64 0)).setCell ⟨w.heap.size, 7, none⟩ (.int .i64 0)) p (some b) T := by
    have s2 := ga.size
    have s3 := gb.size
    refine ⟨gb.os.trans (ga.os.trans low.os), gb.tape.trans (ga.tape.trans low.tape), gb.output.trans (ga.output.trans low.output), Nat.le_trans hs1 (Nat.le_trans s2 s3), fun i hi a1 _ _ => ?_⟩
    exact (gb.block i (by omega) (fun q => by injection q with q; omega)).trans ((ga.block i (by omega) (fun q => by injection q with q; exact a1 q)).trans (low.block i hi))
  clear ga gb kA
  go_wp2_with fail
  obtain ⟨W, hW⟩ : ∃ W, ((((w1.setCell ⟨p, 0, none⟩ (.int .i64 (N + 1))).setCell ⟨w.heap.size, 0, none⟩ (.int .i64 (N + 1))).setCell ⟨w.heap.size, 6, none⟩ (.int .i64 0)).setCell ⟨w.heap.size, 7, none⟩ (.int .i64 0)) = W := ⟨_, rfl⟩
  rw [hW] at st TT ⊢
  clear hW c0 c1 f0 hlen d0 d1 d2 d3 d4 d5 d6 d7 g0 g1 g2 g3 g4 g5 g6 g7 c1' kb h1 low hs1
  have KA := Lib.hid (fun V (h : Sw V p w.heap.size b k (N + 1) T j e s r A n cap zs) => apart_new (N + 1) j e s r 0 0 A n cap zs V h.ints HNn.out hl)
  obtain ⟨e1, e2, e3, e4, e5, e6, e7, e8, e9⟩ := st.cells
  have HK := Lib.hid (show k < maxLen by unfold maxLen; omega)
  have HW := Lib.hid (wf_of (n := N + 1) (by omega))
  go_region_law (first | (go_simp; go_at_call 56; refine (KA.out _ (by first | exact st | exact st.next (Below.refl _ _).drew)).mono ?_; rintro y w7 ⟨A', cap', rfl, hcs, hnw, hb7⟩; replace hb7 := undrew2 hb7; have st7 := st.next hb7; obtain ⟨i1, i2, i3, i4, i5, i6, i7, i8, i9⟩ := st7.cells; obtain ⟨l1, l2, l3, l4, l5, l6, l7, l8, l9⟩ := (st7.next (below_alloc w7 (.cells #[.int .i64 (N + 1), .int .i64 j, .int .i64 e, .int .i64 s, .int .i64 r, .slice A' n cap', .int .i64 0, .int .i64 0, .int .i64 0] 93))).cells; obtain ⟨D, ho, hS⟩ := st7.own; obtain ⟨w8, hrun, ho8, hg8⟩ := (ho.alloc (.cells #[.int .i64 (N + 1), .int .i64 j, .int .i64 e, .int .i64 s, .int .i64 r, .slice A' n cap', .int .i64 0, .int .i64 0, .int .i64 0] 93)).update law3 Try.underlying83 HK.out (key_of HW.out) (ptE_mk (some w7.heap.size)); simp only [ptV] at hrun))
  all_goals
    have la := below_alloc w7 (.cells #[.int .i64 (N + 1), .int .i64 j, .int .i64 e, .int .i64 s, .int .i64 r, .slice A' n cap', .int .i64 0, .int .i64 0, .int .i64 0] 93)
    have nb8 := not_map (st7.box.next la) (ho.alloc (.cells #[.int .i64 (N + 1), .int .i64 j, .int .i64 e, .int .i64 s, .int .i64 r, .slice A' n cap', .int .i64 0, .int .i64 0, .int .i64 0] 93))
    have x0 := ((st7.box.next la).grown hg8 nb8).cell 0 _ rfl
    go_wp2_with fail
    go_ret2
    refine ⟨A', cap', w7.heap.size, rfl, ?_, spawn_frame TT hb7 la hg8, fun ad e => Nat.le_trans TT.size (hnw ad e), ?_⟩
    · exact st7.laid HNn.out hl hcs hS rfl ho8 hg8 PF.out.1 PF.out.2.1 PF.out.2.2 rfl (by omega)
    · have := TT.size
      have := hb7.size
      omega
end
end Go.Proofs.Ytjolkcomlindhaa
/- A table: the first Spawn; Spawn whole. -/
namespace Go.Proofs.Ytjolkcomlindhaa
open Go.RowKit Go.Shelf Go.Maps Go.Sort

attribute [local go_sem] eqm83
theorem spawn_frame0 {w W w7 w9 w8 : World} {p b : Nat} {T : List Pr} (TT : Tt w W p none T) (hb7 : Below W.heap.size W w7) (la : Below w7.heap.size w7 w9) (hg : w9.grownBy w8 (some b)) (hb : w.heap.size ≤ b) : Tt w w8 p none T := by
  have s1 := TT.size
  have s2 := hb7.size
  have s3 := la.size
  refine ⟨hg.os.trans (la.os.trans (hb7.os.trans TT.os)), hg.tape.trans (la.tape.trans (hb7.tape.trans TT.tape)), hg.output.trans (la.output.trans (hb7.output.trans TT.output)), Nat.le_trans s1 (Nat.le_trans s2 (Nat.le_trans s3 hg.size)), fun i hi a1 a2 a3 => ?_⟩
  exact (hg.block i (by omega) (fun q => by injection q with q; omega)).trans ((la.block i (by omega)).trans ((hb7.block i (by omega)).trans (TT.block i hi a1 a2 a3)))
section
variable {w : World} {p k : Nat} {m : Option Nat} {N : Int} {T : List Pr}
set_option maxRecDepth 100000 in
set_option maxHeartbeats 4000000 in
theorem spawn_none (h : TbAt w p none k N T) (hk : k < 1000) (hN : N < 200) (hT : T.length < 256) (p0 j e s r st c : Int) (A : Option Addr) (n cap : Nat) (zs : List Int) (hz : IntsAt w A zs) (hn : zs.length = n) (hA : ∀ ad, A = some ad → ad.block ≠ p) (hO : OfSays w A n cap 0) (hl : n ≤ 1000) (hm : mayT j e s r 0 n = true) :
    Calls Try.prog 37 #[.pointer (some ⟨p, 0, none⟩), tkV p0 j e s r (.slice A n cap) st c] w fun x w' => ∃ A' cap' b' b, x = .returned (.tuple #[.int .i64 (N + 1), .int .i64 0]) ∧ TbAt w' p (some b) (k + 1) (N + 1) (T ++ [⟨N + 1, j, e, s, r, 0, 0, 0, A', cap', zs, b'⟩]) ∧ Tt w w' p none T ∧ (∀ ad, A' = some ad → w.heap.size ≤ ad.block) ∧ w.heap.size ≤ b' ∧ w.heap.size ≤ b := by
  have low := below_alloc w (.cells (tkC p0 j e s r (.slice A n cap) st c) 61)
  have kb := Bk.new w 61 (tkC p0 j e s r (.slice A n cap) st c)
  have K := Lib.hid (mayT_any p0 j e s r st c 0 A n cap _ (fun V hb => hO V (bmore low hb)) hl)
  rw [hm] at K
  have hpl := h.blk.lt
  have hmm := @run_makeMap Try.prog
  have hT0 := Lib.hid (h.none_ rfl)
  have few := h.few
  have PF := Lib.hid (show (T.Pairwise fun a b => a.pid < b.pid) ∧ (T.Pairwise fun a b => a.b ≠ b.b) ∧ (∀ x ∈ T, 1 ≤ x.pid ∧ x.pid ≤ N) from ⟨h.up, h.apart, h.pids⟩)
  have h1 := h.next low
  have HZ := Lib.hid hz
  have HA := Lib.hid hA
  have HNn := Lib.hid hn
  clear hO hm h hz hA hn
  go_enter Try.func37, Try.ntmps37
  go_wp2_with fail
  refine K.out.mono ?_
  rintro x w1 ⟨rfl, hb⟩
  replace h1 := h1.next hb
  replace kb := kb.next hb
  replace low := bmore low hb
  clear hb K
  have hs1 := low.size
  have c0 := h1.blk.cell 0 _ rfl
  have c1 := h1.blk.cell 1 _ rfl
  have f0 := h1.blk.frozen 0
  have hlen := h1.size
  obtain ⟨⟨d0, d1, d2, d3, d4, d5, d6, d7⟩, g0, g1, g2, g3, g4, g5, g6, g7⟩ := kb.z8
  have npx : p ≠ w.heap.size := by omega
  have f1 := h1.blk.frozen 1
  have hps := h1.blk.lt
  have hbs := kb.lt
  have t256 : decide ((256 : Int) ≤ (T.length : Int)) = false := by simp; omega
  have ga := gtrans (gset w1 p 1 (.map (some w1.heap.size))) (gset _ p 0 (.int .i64 (N + 1)))
  have kA := (kb.put (i := 1) (v := .map (some w1.heap.size)) npx.symm).put (i := 0) (v := .int .i64 (N + 1)) npx.symm
  have gb := gtrans (gtrans (gset ((w1.setCell ⟨p, 1, none⟩ (.map (some w1.heap.size))).setCell ⟨p, 0, none⟩ (.int .i64 (N + 1))) w.heap.size 0 (.int .i64 (N + 1))) (gset _ w.heap.size 6 (.int .i64 0))) (gset _ w.heap.size 7 (.int .i64 0))
  have hz : (((((w1.setCell ⟨p, 1, none⟩ (.map (some w1.heap.size))).setCell ⟨p, 0, none⟩ (.int .i64 (N + 1))).setCell ⟨w.heap.size, 0, none⟩ (.int .i64 (N + 1))).setCell ⟨w.heap.size, 6, none⟩ (.int .i64 0)).setCell ⟨w.heap.size, 7, none⟩ (.int .i64 0)).heap.size = w1.heap.size := by simp
  have lb := below_alloc (((((w1.setCell ⟨p, 1, none⟩ (.map (some w1.heap.size))).setCell ⟨p, 0, none⟩ (.int .i64 (N + 1))).setCell ⟨w.heap.size, 0, none⟩ (.int .i64 (N + 1))).setCell ⟨w.heap.size, 6, none⟩ (.int .i64 0)).setCell ⟨w.heap.size, 7, none⟩ (.int .i64 0)) (.map #[] 0)
  have st : Sw ((((((w1.setCell ⟨p, 1, none⟩ (.map (some w1.heap.size))).setCell ⟨p, 0, none⟩ (.int .i64 (N + 1))).setCell ⟨w.heap.size, 0, none⟩ (.int .i64 (N + 1))).setCell ⟨w.heap.size, 6, none⟩ (.int .i64 0)).setCell ⟨w.heap.size, 7, none⟩ (.int .i64 0)).alloc (.map #[] 0)) p w.heap.size w1.heap.size k (N + 1) T j e s r A n cap zs := by
    refine ⟨Bk.alloc (((((h1.blk.set 1 (.map (some w1.heap.size))).set 0 (.int .i64 (N + 1))).put npx).put npx).put npx) _, Bk.alloc (((kA.set 0 (.int .i64 (N + 1))).set 6 (.int .i64 0)).set 7 (.int .i64 0)) _, ?_, fun x hx => (((h1.procs x hx).far ga h1.blk (by decide) (by decide)).far gb kA (by decide) (by decide)).next lb, ?_⟩
    · obtain ⟨es, cl, q1, q2, q3, q4⟩ := World.ownsMap_made (H := Unit) (((((w1.setCell ⟨p, 1, none⟩ (.map (some w1.heap.size))).setCell ⟨p, 0, none⟩ (.int .i64 (N + 1))).setCell ⟨w.heap.size, 0, none⟩ (.int .i64 (N + 1))).setCell ⟨w.heap.size, 6, none⟩ (.int .i64 0)).setCell ⟨w.heap.size, 7, none⟩ (.int .i64 0)) Try.prog 3 ptE
      rw [hz] at q1
      refine ⟨.map [], ⟨es, cl, q1, q2, by omega, q4⟩, ?_⟩
      rw [hT0.out]
      exact says_none
    · rcases HZ.out with q | ⟨ad, q, q1, q2⟩
      · exact .inl q
      · exact (((HZ.out.next low).far ga HA.out).far gb (fun ad' q' => by rw [q] at q'; cases q'; omega)).next lb
  have TT : Tt w ((((((w1.setCell ⟨p, 1, none⟩ (.map (some w1.heap.size))).setCell ⟨p, 0, none⟩ (.int .i64 (N + 1))).setCell ⟨w.heap.size, 0, none⟩ (.int .i64 (N + 1))).setCell ⟨w.heap.size, 6, none⟩ (.int .i64 0)).setCell ⟨w.heap.size, 7, none⟩ (.int .i64 0)).alloc (.map #[] 0)) p none T := by
    have s2 := ga.size
    have s3 := gb.size
    refine ⟨lb.os.trans (gb.os.trans (ga.os.trans low.os)), lb.tape.trans (gb.tape.trans (ga.tape.trans low.tape)), lb.output.trans (gb.output.trans (ga.output.trans low.output)), Nat.le_trans hs1 (Nat.le_trans s2 (Nat.le_trans s3 lb.size)), fun i hi a1 _ _ => ?_⟩
    exact (lb.block i (by omega)).trans ((gb.block i (by omega) (fun q => by injection q with q; omega)).trans ((ga.block i (by omega) (fun q => by injection q with q; exact a1 q)).trans (low.block i hi)))
  clear ga gb kA hz lb
  go_wp2_with fail
  obtain ⟨W, hW⟩ : ∃ W, ((((((w1.setCell ⟨p, 1, none⟩ (.map (some w1.heap.size))).setCell ⟨p, 0, none⟩ (.int .i64 (N + 1))).setCell ⟨w.heap.size, 0, none⟩ (.int .i64 (N + 1))).setCell ⟨w.heap.size, 6, none⟩ (.int .i64 0)).setCell ⟨w.heap.size, 7, none⟩ (.int .i64 0)).alloc (.map #[] 0)) = W := ⟨_, rfl⟩
  rw [hW] at st TT ⊢
  clear hW c0 c1 f0 hlen d0 d1 d2 d3 d4 d5 d6 d7 g0 g1 g2 g3 g4 g5 g6 g7 f1 kb h1 low hps hbs hmm
  obtain ⟨b, hbq⟩ : ∃ b, b = w1.heap.size := ⟨_, rfl⟩
  rw [← hbq] at st ⊢
  have hbw : w.heap.size ≤ b := by omega
  clear hbq hs1
  have KA := Lib.hid (fun V (h : Sw V p w.heap.size b k (N + 1) T j e s r A n cap zs) => apart_new (N + 1) j e s r 0 0 A n cap zs V h.ints HNn.out hl)
  obtain ⟨e1, e2, e3, e4, e5, e6, e7, e8, e9⟩ := st.cells
  have HK := Lib.hid (show k < maxLen by unfold maxLen; omega)
  have HW := Lib.hid (wf_of (n := N + 1) (by omega))
  go_region_law (first | (go_simp; go_at_call 56; refine (KA.out _ (by first | exact st | exact st.next (Below.refl _ _).drew)).mono ?_; rintro y w7 ⟨A', cap', rfl, hcs, hnw, hb7⟩; replace hb7 := undrew2 hb7; have st7 := st.next hb7; obtain ⟨i1, i2, i3, i4, i5, i6, i7, i8, i9⟩ := st7.cells; obtain ⟨l1, l2, l3, l4, l5, l6, l7, l8, l9⟩ := (st7.next (below_alloc w7 (.cells #[.int .i64 (N + 1), .int .i64 j, .int .i64 e, .int .i64 s, .int .i64 r, .slice A' n cap', .int .i64 0, .int .i64 0, .int .i64 0] 93))).cells; obtain ⟨D, ho, hS⟩ := st7.own; obtain ⟨w8, hrun, ho8, hg8⟩ := (ho.alloc (.cells #[.int .i64 (N + 1), .int .i64 j, .int .i64 e, .int .i64 s, .int .i64 r, .slice A' n cap', .int .i64 0, .int .i64 0, .int .i64 0] 93)).update law3 Try.underlying83 HK.out (key_of HW.out) (ptE_mk (some w7.heap.size)); simp only [ptV] at hrun))
  all_goals
    have la := below_alloc w7 (.cells #[.int .i64 (N + 1), .int .i64 j, .int .i64 e, .int .i64 s, .int .i64 r, .slice A' n cap', .int .i64 0, .int .i64 0, .int .i64 0] 93)
    have nb8 := not_map (st7.box.next la) (ho.alloc (.cells #[.int .i64 (N + 1), .int .i64 j, .int .i64 e, .int .i64 s, .int .i64 r, .slice A' n cap', .int .i64 0, .int .i64 0, .int .i64 0] 93))
    have x0 := ((st7.box.next la).grown hg8 nb8).cell 0 _ rfl
    go_wp2_with fail
    go_ret2
    refine ⟨A', cap', w7.heap.size, b, rfl, ?_, spawn_frame0 TT hb7 la hg8 hbw, fun ad e => Nat.le_trans TT.size (hnw ad e), ?_, hbw⟩
    · exact st7.laid HNn.out hl hcs hS rfl ho8 hg8 PF.out.1 PF.out.2.1 PF.out.2.2 rfl (by omega)
    · have := TT.size
      have := hb7.size
      omega
end
end Go.Proofs.Ytjolkcomlindhaa
/- A table: its Pids, rising; List of none. -/
namespace Go.Proofs.Ytjolkcomlindhaa
open Go.RowKit Go.Shelf Go.Maps Go.Sort

theorem table_keys {w : World} {p k : Nat} {m : Option Nat} {N : Int} {T : List Pr} (h : TbAt w p m k N T) (hl : T.length ≤ 1000) (n : Nat) (hn : 5 ≤ n) :
    CallsIn Fence.wide n Try.prog 54 #[.func (.func 66) #[] #[.pointer (some ⟨w.heap.size, 0, none⟩)]] (w.alloc (.cells #[.map m] 83)) (Keys (w.alloc (.cells #[.map m] 83)) (T.map (·.pid))) := by
  cases m with
  | none =>
    have e := h.none_ rfl
    subst e
    exact sortedOf 66 (enters_of Try.func66 (by kernel_rfl) rfl) n hn _ _ [] List.Pairwise.nil (by simp) (fun ss => ss = []) (fun ss e => by rw [e]) 0 (by omega)
      (AnyZI.keys_gives_nil (ρ := Try.keysB_ren) { Try.keysB with } Fence.wide _ trivial rfl w.heap.size (w.alloc (.cells #[.map none] 83)) (by simp) (by simp))
  | some b =>
    obtain ⟨D, h1, h2⟩ := h.own b rfl
    have hp : (T.map (·.pid)).Perm (intKeys D) := keys_perm h1 h2 _ (List.pairwise_map.2 h.up) (fun n => by
      rw [List.mem_map]
      constructor
      · rintro ⟨x, hx, rfl⟩
        rw [lookP_of_mem h.up hx]; rfl
      · intro hs
        cases e : lookP T n with
        | none => rw [e] at hs; cases hs
        | some x => exact ⟨x, lookP_mem e⟩)
    have hsz : Maps.size D = T.length := by rw [size_keys h2.map, ← hp.length_eq, List.length_map]
    exact sortedOf 66 (enters_of Try.func66 (by kernel_rfl) rfl) n hn _ _ (T.map (·.pid)) (List.pairwise_map.2 h.up) (by rw [List.length_map]; omega) (fun ss => ss.Perm (intKeys D)) (fun ss e => e.trans hp.symm) (Maps.size D) (by rw [hsz]; omega)
      (AnyZI.keys_gives (ρ := Try.keysB_ren) { Try.keysB with } Fence.wide _ trivial rfl (by omega) w.heap.size b k D (w.alloc (.cells #[.map (some b)] 83)) (by simp) (by simp) (h1.alloc _))
set_option maxRecDepth 100000 in
set_option maxHeartbeats 1000000 in
theorem list_empty {w : World} {p k : Nat} {m : Option Nat} {N : Int} (h : TbAt w p m k N []) : Calls Try.prog 36 #[.pointer (some ⟨p, 0, none⟩)] w fun e w' => e = .returned (.slice none 0 0) ∧ Below w.heap.size w w' := by
  have K1 := Lib.hid (callsIn_wide.1 (keysB_in 5 m w))
  have K2 := Lib.hid (callsIn_wide.1 (table_keys h (by simp) 5 (by omega)))
  have c1 := h.blk.cell 1 _ rfl
  clear h
  go_enter Try.func36, Try.ntmps36
  go_wp2_with fail
  refine K1.out.mono ?_
  rintro x w1 ⟨rfl, rfl⟩
  go_wp2_with fail
  refine K2.out.mono ?_
  rintro x w2 ⟨v, rfl, hrow, hb⟩
  obtain ⟨A, cap, rfl⟩ := own_form hrow
  have low : Below w.heap.size w w2 := (below_alloc w _).trans (hb.mono (by simp))
  clear hrow hb c1
  go_wp2_with fail
  go_loopw [3, 15] (fun s iv wr => s = .slice none 0 0 ∧ iv = .int .i64 0 ∧ wr = w2) (fun _ _ _ => 0)
  case atStart => exact ⟨rfl, rfl, rfl⟩
  case round =>
    obtain ⟨rfl, rfl, rfl⟩ := hrel
    go_wp2_with fail
    go_ret
    exact ⟨rfl, low⟩
set_option maxRecDepth 100000 in
theorem list_nil (w : World) : Calls Try.prog 36 #[.pointer none] w fun e w' => e = .returned (.slice none 0 0) ∧ w = w' := by
  go_enter Try.func36, Try.ntmps36
  go_wp2_with fail
  go_ret
  exact ⟨rfl, rfl⟩
end Go.Proofs.Ytjolkcomlindhaa
