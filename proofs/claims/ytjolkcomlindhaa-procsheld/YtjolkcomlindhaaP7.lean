/- The document's table of none: Spawn. -/
import Derived.Test.YtjolkcomlindhaaP5
import Derived.Deep.DeepCutAuto
namespace Go.Proofs.Ytjolkcomlindhaa
open Go.RowKit Go.Shelf Go.Maps Go.Sort

theorem app0_56 (b : Nat) (w : World) : (Builtin.append_ #[56, 56] 56 #[.slice (some ⟨b, 0, none⟩) 0 0, .slice none 0 0]).run Try.prog w = .ok (.slice (some ⟨b, 0, none⟩) 0 0) w := by kernel_rfl
theorem app0_45 (b : Nat) (w : World) : (Builtin.append_ #[45, 45] 45 #[.slice (some ⟨b, 0, none⟩) 0 0, .slice none 0 0]).run Try.prog w = .ok (.slice (some ⟨b, 0, none⟩) 0 0) w := by kernel_rfl
attribute [local go_sem] app0_56 app0_45
abbrev tk8 (p j e s r : Int) (sl : Value) (st c : Int) : Array Value := #[.int .i64 p, .int .i64 j, .int .i64 e, .int .i64 s, .int .i64 r, sl, .int .i64 st, .int .i64 c]
/-- An append of one task onto nothing, inside a region that draws. -/
theorem app_t {ops : Array Oper} {o : Oper} {a : Act} {w : World} {K : Act → World → Prop} {Q : Exit → Act → World → Prop} {E : Prop} (hgd : o.guard = none) (s y : Operand)
    (ho : o.op = .call { callee := .builtin .append, args := #[s, y], argTypes := #[56, 56] }) (B : Nat) (v : Value) (hs : a.eval s = v) (hown : w.ownsRow B 61 8 v 0 [])
    (g1 c : Nat) (hx : a.eval y = .slice (some ⟨g1, 0, none⟩) 1 c) (p0 j e s' r st c' : Int) (A : Option Addr) (n cap : Nat) (hn : Bk w g1 61 (tk8 p0 j e s' r (.slice A n cap) st c')) (hB : B ≤ w.heap.size)
    (h : ∀ v' w', (∃ A cap, v' = .slice A 1 cap) → w.grownBy w' v.ownBlock → K (a.put o.dst v') w') : if Region.wanted o (yielded ops a.tmps) = true then Oper.wp Try.prog o a w K Q else E := by
  have hw : Region.wanted o (yielded ops a.tmps) = true := by simp [Region.wanted, hgd]
  rw [if_pos hw]
  obtain ⟨i, hi, hz0, hz1, hz2⟩ := info_parts info61
  obtain ⟨v', w', hr, h2, h3, _⟩ := run_append_own (P := Try.prog) w B 56 o.type 61 i _ 8 80 Try.underlying56 hi hz0 hz1 hz2 rfl (by decide) v 0 [] hown ⟨g1, 0, none⟩ 1 c (tk8 p0 j e s' r (.slice A n cap) st c').toList rfl (fun k u hj => by
    have hadd : (⟨g1, 0, none⟩ : Addr).add k = ⟨g1, k, none⟩ := by unfold Addr.add; split <;> simp_all
    rw [hadd]
    exact hn.cell k u (by simpa using hj)) (by simp [Value.oneCell']) (by unfold maxLen; omega) (by omega) hB
  unfold Oper.wp execOp
  simp only [ho, resolve, invoke, builtin, Sem.run_bind, Sem.run_pure, Result.andThen_ok, List.map_toArray, List.map_cons, List.map_nil, hs, hx, hr]
  obtain ⟨g6, cap6, rfl⟩ := ownsRow_succ h2
  exact h _ w' ⟨_, _, rfl⟩ h3
/-- In the middle of a Spawn. -/
structure S0 (w W : World) (q b0 : Nat) (p0 j e s r st c : Int) (A : Option Addr) (n cap : Nat) : Prop where
  kq : Bk W q 58 #[.slice none 0 0, .slice none 0 0, .int .i64 1]
  kx : Bk W b0 61 (tkC p0 j e s r (.slice A n cap) st c)
  ne : b0 ≠ q
  g : w.grownBy W (some q)
  le : w.heap.size ≤ b0
theorem S0.next {w W W' : World} {q b0 : Nat} {p0 j e s r st c : Int} {A : Option Addr} {n cap : Nat} (h : S0 w W q b0 p0 j e s r st c A n cap) (hb : Below W.heap.size W W') : S0 w W' q b0 p0 j e s r st c A n cap :=
  ⟨h.kq.next hb, h.kx.next hb, h.ne, gtrans h.g ⟨hb.os, hb.tape, hb.output, hb.size, fun i hi _ => hb.block i hi⟩, h.le⟩
theorem S0.c {w W : World} {q b0 : Nat} {p0 j e s r st c : Int} {A : Option Addr} {n cap : Nat} (h : S0 w W q b0 p0 j e s r st c A n cap) :
    W.cell? ⟨q, 0, none⟩ = some (.slice none 0 0) ∧ W.cell? ⟨q, 1, none⟩ = some (.slice none 0 0) ∧ W.cell? ⟨q, 2, none⟩ = some (.int .i64 1) ∧ W.cell? ⟨b0, 1, none⟩ = some (.int .i64 j) ∧ W.cell? ⟨b0, 2, none⟩ = some (.int .i64 e) ∧ W.cell? ⟨b0, 3, none⟩ = some (.int .i64 s) ∧ W.cell? ⟨b0, 4, none⟩ = some (.int .i64 r) ∧ W.cell? ⟨b0, 5, none⟩ = some (.slice A n cap) :=
  ⟨h.kq.cell 0 _ rfl, h.kq.cell 1 _ rfl, h.kq.cell 2 _ rfl, h.kx.cell 1 _ rfl, h.kx.cell 2 _ rfl, h.kx.cell 3 _ rfl, h.kx.cell 4 _ rfl, h.kx.cell 5 _ rfl⟩
theorem iv_cells {w : World} {a : Addr} {zs : List Int} (h : IntsAt w (some a) zs) : ∀ j u, (iv zs)[j]? = some u → w.cell? (a.add j) = some u := by
  intro j u hj
  have hjn : j < zs.length := by
    have := (List.getElem?_eq_some_iff.1 hj).1
    rwa [iv_len] at this
  rcases h with e | ⟨ad, e, h1, h2⟩
  · rw [e] at hjn; cases hjn
  · cases e
    rw [h2 j hjn, ← hj]
    simp [iv, List.getD, hjn]
theorem iv_ones (zs : List Int) : ∀ u ∈ iv zs, u.oneCell' = true := by
  intro u hu
  obtain ⟨x, _, rfl⟩ := List.mem_map.1 hu
  rfl
theorem one0 (W : World) : ∀ k u, [Value.int .i64 0][k]? = some u → ((W.alloc (.cells #[] 3)).alloc (.cells #[.int .i64 0] 3)).cell? ((⟨W.heap.size + 1, 0, none⟩ : Addr).add k) = some u := by
  intro k u hk
  rcases k with _ | k
  · have h := (Bk.new (W.alloc (.cells #[] 3)) 3 #[.int .i64 0]).cell 0 (.int .i64 0) rfl
    rw [size_alloc] at h
    have e : (⟨W.heap.size + 1, 0, none⟩ : Addr).add 0 = ⟨W.heap.size + 1, 0, none⟩ := by unfold Addr.add; simp
    rw [e, h, ← hk]
    rfl
  · simp at hk
theorem gnone {w W : World} {b : Nat} (h : Below w.heap.size w W) : w.grownBy W (some b) := ⟨h.os, h.tape, h.output, h.size, fun i hi _ => h.block i hi⟩
theorem gfar {w V V' : World} {q y : Nat} (h : w.grownBy V (some q)) (g : V.grownBy V' (some y)) (hy : w.heap.size ≤ y) : w.grownBy V' (some q) :=
  ⟨g.os.trans h.os, g.tape.trans h.tape, g.output.trans h.output, Nat.le_trans h.size g.size, fun i hi hne => (g.block i (Nat.lt_of_lt_of_le hi h.size) (by intro e; cases e; omega)).trans (h.block i hi hne)⟩
theorem S0.far {w W W' : World} {q b0 y : Nat} {p0 j e s r st c : Int} {A : Option Addr} {n cap : Nat} (h : S0 w W q b0 p0 j e s r st c A n cap) (hg : W.grownBy W' (some y)) (h1 : y ≠ q) (h2 : y ≠ b0) (h3 : w.heap.size ≤ y) : S0 w W' q b0 p0 j e s r st c A n cap :=
  ⟨h.kq.grown hg h1.symm, h.kx.grown hg h2.symm, h.ne, gfar h.g hg h3, h.le⟩
set_option maxRecDepth 100000 in
set_option maxHeartbeats 4000000 in
theorem rspawn0 {w : World} {q : Nat} (h : DT0 w q) (p0 j e s r st c : Int) (A : Option Addr) (n cap : Nat) (zs : List Int) (hz : IntsAt w A zs) (hn : zs.length = n) (hl : n ≤ 300) (hcap : n ≤ cap) (hA : ∀ ad, A = some ad → 0 < n → ad.block ≠ q) :
    Calls Try.prog 49 #[.pointer (some ⟨q, 0, none⟩), tkV p0 j e s r (.slice A n cap) st c] w fun x w' => (∃ N er : Int, x = .returned (.tuple #[.int .i64 N, .int .i64 er])) ∧ w.grownBy w' (some q) := by
  obtain ⟨i0, hi, hz0, hz1, hz2⟩ := info_parts info3
  have HA := Lib.hid hA
  have HN := Lib.hid hn
  have low := below_alloc w (.cells (tkC p0 j e s r (.slice A n cap) st c) 61)
  have kx := Bk.new w 61 (tkC p0 j e s r (.slice A n cap) st c)
  have H := Lib.hid (Bk.next h low)
  have HZ := Lib.hid (hz.next low)
  have KM := Lib.hid (rmay_ends p0 j e s r st c A n cap zs _ (hz.next low) hn hl hcap)
  have hq := Bk.lt h
  clear h hz hn hA
  obtain ⟨⟨d0, d1, d2, d3, d4, d5, d6, d7⟩, _⟩ := kx.z8
  go_enter Try.func49, Try.ntmps49
  go_wp2_with fail
  refine KM.out.mono ?_
  rintro _ w1 ⟨⟨b, rfl, hb0⟩, hb⟩
  replace low := bmore low hb
  replace H := Lib.hid (Bk.next H.out hb)
  replace HZ := Lib.hid (HZ.out.next hb)
  replace kx := kx.next hb
  clear d0 d1 d2 d3 d4 d5 d6 d7 hb KM
  cases b
  · go_wp2_with fail
    go_ret2
    exact ⟨⟨_, _, rfl⟩, low.os, low.tape, low.output, low.size, fun i hi _ => low.block i hi⟩
  have hn0 := hb0 rfl
  clear hb0
  have c0 := Bk.cell H.out 0 _ rfl
  have c2 := Bk.cell H.out 2 _ rfl
  have f2 := Bk.frozen H.out 2
  have S := Lib.hid (show S0 w (w1.setCell ⟨q, 2, none⟩ (.int .i64 1)) q w.heap.size p0 j e s r st c A n cap from ⟨Bk.set H.out 2 (.int .i64 1), kx.put (by omega), by omega, gtrans ⟨low.os, low.tape, low.output, low.size, fun i hi _ => low.block i hi⟩ (gset w1 q 2 (.int .i64 1)), Nat.le_refl _⟩)
  have HZ2 := Lib.hid (show IntsAt (w1.setCell ⟨q, 2, none⟩ (.int .i64 1)) A zs from HZ.out.far (gset w1 q 2 (.int .i64 1)) (fun ad e => HA.out ad e hn0))
  clear kx low H HZ
  go_upto_region 6 with fail
  clear c0 c2 f2
  generalize w1.setCell ⟨q, 2, none⟩ (.int .i64 1) = W at *
  obtain ⟨ad, rfl, _, _⟩ := HZ2.out.at_ (k := 0) (by rw [HN.out]; exact hn0)
  have hyq := S.out.kq.lt
  have hyb := S.out.kx.lt
  obtain ⟨a0, a1, a2, a3, a4, a5, a6, a7⟩ := S.out.c
  obtain ⟨b0, b1, b2, b3, b4, b5, b6, b7⟩ := (S.out.next (below_alloc W (.cells (tk8 0 0 0 0 0 (.slice none 0 0) 0 0) 61))).c
  have la2 := below_alloc W (.cells (tk8 1 j e s r (.slice none 0 0) 0 0) 61)
  have S2 := Lib.hid (S.out.next la2)
  have HZ3 := Lib.hid (HZ2.out.next la2)
  have ky := Lib.hid (Bk.new W 61 (tk8 1 j e s r (.slice none 0 0) 0 0))
  have hsy := la2.size
  obtain ⟨e0, e1, e2, e3, e4, e5, e6, e7⟩ := S2.out.c
  go_region_held3 (fun V => V.cell? ⟨q, 2, none⟩ = some (.int .i64 1) ∧ V.cell? ⟨w.heap.size, 1, none⟩ = some (.int .i64 j) ∧ V.cell? ⟨w.heap.size, 2, none⟩ = some (.int .i64 e) ∧ V.cell? ⟨w.heap.size, 3, none⟩ = some (.int .i64 s) ∧ V.cell? ⟨w.heap.size, 4, none⟩ = some (.int .i64 r))
    (first | exact ⟨a2, a3, a4, a5, a6⟩ | exact ⟨b2, b3, b4, b5, b6⟩ | exact ⟨e2, e3, e4, e5, e6⟩)
    (fail)
  clear a0 a1 a2 a3 a4 a5 a6 a7 b0 b1 b2 b3 b4 b5 b6 b7 e0 e1 e2 e3 e4 e6 la2 HZ2 S
  go_upto_region 7 with fail
  clear e5 e7
  have hwy : w.heap.size < W.heap.size := hyb
  have hlo := S2.out.g.size
  generalize W.heap.size = y at *
  generalize W.alloc (.cells (tk8 1 j e s r (.slice none 0 0) 0 0) 61) = W2 at *
  have y5 := ky.out.cell 5 _ rfl
  have e7 := S2.out.c.2.2.2.2.2.2.2
  go_upto_region 8 with (at_builtin; refine wpList_append_own _ rfl _ _ 45 rfl W2.heap.size 3 i0 (.int .i64 0) 1 8 Try.underlying45 hi hz0 hz1 hz2 rfl (by decide) _ _ _ rfl (World.ownsRow_nil _ _ _ _) ad n cap (iv zs) rfl (by rw [iv_len, HN.out]; simp) (iv_cells HZ3.out) (iv_ones zs) (by unfold maxLen; omega) (by omega) (by simp) ?_; intro v6 w6 hown6 hg6 _; obtain ⟨A6, cap6, rfl⟩ := own_form hown6; have hb6 : Below W2.heap.size W2 w6 := ⟨hg6.os, hg6.tape, hg6.output, hg6.size, fun i hi => hg6.block i hi (show some i ≠ none from by simp)⟩; have ky6 := Lib.hid (ky.out.next hb6); have S6 := Lib.hid (S2.out.next hb6); have d5 := ky6.out.cell 5 _ rfl; have f5 := ky6.out.frozen 5)
  have S3 := Lib.hid (S6.out.far (gset w6 y 5 (.slice A6 n cap6)) (by omega) (by omega) (by omega))
  have k3 := Lib.hid (ky6.out.set 5 (.slice A6 n cap6))
  clear d5 f5 e7 y5 ky6 S6 S2 ky HZ3
  clear hown6 hg6 hb6
  generalize w6.setCell ⟨y, 5, none⟩ (.slice A6 n cap6) = W3 at *
  have k4 : Bk W3 y 61 (tk8 1 j e s r (.slice A6 n cap6) 0 0) := k3.out
  have hy3 := k4.lt
  have hq3 := S3.out.kq.lt
  have lE := below_alloc W3 (.cells #[] 61)
  have lY := below_alloc W3 (.cells (tk8 1 j e s r (.slice A6 n cap6) 0 0) 61)
  have a0 := S3.out.c.1
  have b0 := (S3.out.next lE).c.1
  have e0 := (S3.out.next lY).c.1
  obtain ⟨⟨a1, a2, a3, a4, a5, a6, a7, a8⟩, _⟩ := k4.z8
  obtain ⟨⟨b1, b2, b3, b4, b5, b6, b7, b8⟩, _⟩ := (k4.next lE).z8
  have oEY := (World.ownsRow_made (base := W3.heap.size) (e := 61) (size := 8) W3 #[] 0 (Nat.le_refl _) (Nat.zero_le _) rfl).alloc (.cells (tk8 1 j e s r (.slice A6 n cap6) 0 0) 61)
  have oYE := World.ownsRow_made (base := W3.heap.size) (e := 61) (size := 8) (W3.alloc (.cells (tk8 1 j e s r (.slice A6 n cap6) 0 0) 61)) #[] 0 (by simp) (Nat.zero_le _) rfl
  have kEY := Bk.new (W3.alloc (.cells #[] 61)) 61 (tk8 1 j e s r (.slice A6 n cap6) 0 0)
  have kYE := (Bk.new W3 61 (tk8 1 j e s r (.slice A6 n cap6) 0 0)).alloc (.cells #[] 61)
  rw [size_alloc] at oYE kEY
  have SQ := Lib.hid S3.out.kq
  go_cut [] (fun wx => ∃ v0, Bk wx q 58 #[v0, .slice none 0 0, .int .i64 1] ∧ w.grownBy wx (some q))
  case first =>
    go_region_law (first
      | (refine app_t rfl (.tmp 48) (.tmp 50) rfl W3.heap.size _ rfl (by first | exact oEY | exact oYE) _ 1 rfl 1 j e s r 0 0 A6 n cap6 (by first | exact kEY | exact kYE) (by simp; omega) ?_; rintro v8 w8 ⟨A8, cap8, rfl⟩ hg8; have hb8 : Below W3.heap.size W3 w8 := (by first | exact ((lE.alloc (by simp) _).drew).grown hg8 (by simp; omega) (fun j ej => by cases ej; first | omega | simp) | exact ((lY.alloc (by simp) _).drew).grown hg8 (by simp; omega) (fun j ej => by cases ej; first | omega | simp)); have kq8 := SQ.out.next hb8; have d0 := kq8.cell 0 _ rfl; have df := kq8.frozen 0))
    all_goals
      have S4 := Lib.hid (kq8.set 0 (.slice A8 1 cap8))
      have G4 := Lib.hid (gtrans (gtrans S3.out.g (gnone hb8)) (gset w8 q 0 (.slice A8 1 cap8)))
      clear d0 df hb8 kq8 hg8 a0 b0 e0 a1 a2 a3 a4 a5 a6 a7 a8 b1 b2 b3 b4 b5 b6 b7 b8 oEY oYE kEY kYE lE lY SQ S3 k3 k4
      go_wp2
      go_meet
      exact ⟨_, S4.out, G4.out⟩
  case rest =>
    obtain ⟨v0, hS4, hG4⟩ := hcut
    have S4 := Lib.hid hS4
    have G4 := Lib.hid hG4
    clear a0 b0 e0 a1 a2 a3 a4 a5 a6 a7 a8 b1 b2 b3 b4 b5 b6 b7 b8 oEY oYE kEY kYE lE lY SQ S3 k3 k4 hS4 hG4
    obtain ⟨W4, hW4⟩ : ∃ x, x = wc := ⟨_, rfl⟩
    subst hW4
    have l1 := below_alloc W4 (.cells #[] 3)
    have q1 := (S4.out.next l1).cell 1 _ rfl
    have hs1 := l1.size
    have oE := (World.ownsRow_made (base := W4.heap.size) (e := 3) (size := 1) W4 #[] 0 (Nat.le_refl _) (Nat.zero_le _) rfl).alloc (.cells #[.int .i64 0] 3)
    have hq4 := S4.out.lt
    go_wp2_with (at_builtin; refine wpList_append_own _ rfl _ _ 45 rfl W4.heap.size 3 i0 (.int .i64 0) 1 8 Try.underlying45 hi hz0 hz1 hz2 rfl (by decide) _ _ _ rfl oE ⟨W4.heap.size + 1, 0, none⟩ 1 1 [.int .i64 0] rfl rfl (one0 W4) (by simp [Value.oneCell']) (by unfold maxLen; omega) (by omega) (by simp; omega) ?_; intro v10 w10 hown10 hg10 _; obtain ⟨g10, cap10, rfl⟩ := ownsRow_succ hown10; have hb10 : Below W4.heap.size W4 w10 := (l1.alloc (by simp) (.cells #[.int .i64 0] 3)).grown hg10 (by simp; omega) (fun j ej => by cases ej; exact Nat.le_refl _); have S10 := Lib.hid (S4.out.next hb10); have d1 := S10.out.cell 1 _ rfl; have f1 := S10.out.frozen 1; have d2 := (S10.out.set 1 (.slice (some ⟨g10, 0, none⟩) 1 cap10)).cell 2 _ rfl)
    go_ret2
    exact ⟨⟨_, _, rfl⟩, gtrans (gtrans G4.out (gnone hb10)) (gset w10 q 1 _)⟩
end Go.Proofs.Ytjolkcomlindhaa
