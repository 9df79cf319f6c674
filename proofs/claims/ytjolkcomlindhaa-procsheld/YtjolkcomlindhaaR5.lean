/- The document's table: Spawn. -/
import Derived.Test.YtjolkcomlindhaaGR3xR4
import Derived.Test.YtjolkcomlindhaaP7
namespace Go.Proofs.Ytjolkcomlindhaa
open Go.RowKit Go.Shelf Go.Maps Go.Sort

attribute [local go_sem] app0_56 app0_45
/-- An append of tasks, inside a region that draws. -/
theorem app_g {ops : Array Oper} {o : Oper} {a : Act} {w : World} {K : Act → World → Prop} {Q : Exit → Act → World → Prop} {E : Prop} (hgd : o.guard = none) (s y : Operand)
    (ho : o.op = .call { callee := .builtin .append, args := #[s, y], argTypes := #[56, 56] }) (B n : Nat) (v : Value) (xs : List Value) (hs : a.eval s = v) (hown : w.ownsRow B 61 8 v n xs)
    (src : Addr) (cnt c : Nat) (ys : List Value) (hx : a.eval y = .slice (some src) cnt c) (hlen : ys.length = cnt * 8) (hcells : ∀ k u, ys[k]? = some u → w.cell? (src.add k) = some u) (hone : ∀ u ∈ ys, u.oneCell' = true) (hm : n + cnt ≤ 1000) (hB : B ≤ w.heap.size)
    (h : ∀ v' w', w'.ownsRow B 61 8 v' (n + cnt) (xs ++ ys) → w.grownBy w' v.ownBlock → K (a.put o.dst v') w') : if Region.wanted o (yielded ops a.tmps) = true then Oper.wp Try.prog o a w K Q else E := by
  have hw : Region.wanted o (yielded ops a.tmps) = true := by simp [Region.wanted, hgd]
  rw [if_pos hw]
  obtain ⟨i, hi, hz0, hz1, hz2⟩ := info_parts info61
  obtain ⟨v', w', hr, h2, h3, _⟩ := run_append_own (P := Try.prog) w B 56 o.type 61 i _ 8 80 Try.underlying56 hi hz0 hz1 hz2 rfl (by decide) v n xs hown src cnt c ys hlen hcells hone (by unfold maxLen; omega) (by omega) hB
  unfold Oper.wp execOp
  simp only [ho, resolve, invoke, builtin, Sem.run_bind, Sem.run_pure, Result.andThen_ok, List.map_toArray, List.map_cons, List.map_nil, hs, hx, hr]
  exact h v' w' h2 h3
theorem kRow_ones : ∀ (Q : List Pr), ∀ u ∈ kRow Q, u.oneCell' = true := by
  intro Q u hu
  obtain ⟨x, _, hx⟩ := List.mem_flatMap.1 hu
  simp only [Pr.c8, List.mem_cons, List.not_mem_nil, or_false] at hx
  rcases hx with rfl | rfl | rfl | rfl | rfl | rfl | rfl | rfl <;> rfl
theorem tk8_ones (x : Pr) : ∀ u ∈ x.c8, u.oneCell' = true := fun u hu => kRow_ones [x] u (by simpa [kRow] using hu)
theorem bk_cells {w : World} {g : Nat} {cs : Array Value} (h : Bk w g 61 cs) : ∀ k u, cs.toList[k]? = some u → w.cell? ((⟨g, 0, none⟩ : Addr).add k) = some u := by
  intro k u hk
  have hadd : (⟨g, 0, none⟩ : Addr).add k = ⟨g, k, none⟩ := by unfold Addr.add; split <;> simp_all
  rw [hadd]
  exact h.cell k u (by simpa using hk)
section
variable {V W W' : World} {r bx y : Nat} {vL vS : Value} {ND N1 : Int} {Q : List Pr} {S : List Int} {p0 j e s r' st c' : Int} {A : Option Addr} {n cap : Nat}
theorem RT.setN (h : RT V r vL vS ND Q S) (N1 : Int) : RT (V.setCell ⟨r, 2, none⟩ (.int .i64 N1)) r vL vS N1 Q S := by
  have ho : ∀ b, b ≠ r → (V.setCell ⟨r, 2, none⟩ (.int .i64 N1)).heap[b]? = V.heap[b]? := fun b hb => Below.heap_setCell _ _ _ _ hb
  refine ⟨h.blk.set 2 (.int .i64 N1), row_kept h.rl fun b e => ho b ?_, row_kept h.rs fun b e => ho b ?_, h.ls, fun x hx => cs_kept (h.cs x hx) (by simp [World.setCell]) fun ad e => ho _ ?_, h.few, h.ap⟩
  · have := (row_bk h.rl e).1; omega
  · have := (row_bk h.rs e).1; omega
  · obtain ⟨cur, hk⟩ := (h.cs x hx).bk e
    exact bk_ne hk h.blk (by decide)
theorem RT.row (h : RT V r (.slice (some ⟨y, 0, none⟩) n cap) vS ND Q S) : ∀ k u, (kRow Q)[k]? = some u → V.cell? ((⟨y, 0, none⟩ : Addr).add k) = some u := h.rl.cells (g := y) rfl
/-- In the middle of a Spawn. -/
structure SP (V W : World) (r : Nat) (vL vS : Value) (N1 : Int) (Q : List Pr) (S : List Int) (bx : Nat) (p0 j e s r' st c' : Int) (A : Option Addr) (n cap : Nat) : Prop where
  rt : RT W r vL vS N1 Q S
  kx : Bk W bx 61 (tkC p0 j e s r' (.slice A n cap) st c')
  td : Td (RX r vL vS) V W
  le : V.heap.size ≤ bx
theorem SP.next (h : SP V W r vL vS N1 Q S bx p0 j e s r' st c' A n cap) (hb : Below W.heap.size W W') : SP V W' r vL vS N1 Q S bx p0 j e s r' st c' A n cap := ⟨h.rt.next hb, h.kx.next hb, h.td.trans (Td.of_below hb), h.le⟩
theorem SP.c (h : SP V W r vL vS N1 Q S bx p0 j e s r' st c' A n cap) :
    W.cell? ⟨r, 0, none⟩ = some vL ∧ W.cell? ⟨r, 1, none⟩ = some vS ∧ W.cell? ⟨r, 2, none⟩ = some (.int .i64 N1) ∧ W.cell? ⟨bx, 1, none⟩ = some (.int .i64 j) ∧ W.cell? ⟨bx, 2, none⟩ = some (.int .i64 e) ∧ W.cell? ⟨bx, 3, none⟩ = some (.int .i64 s) ∧ W.cell? ⟨bx, 4, none⟩ = some (.int .i64 r') ∧ W.cell? ⟨bx, 5, none⟩ = some (.slice A n cap) :=
  ⟨h.rt.blk.cell 0 _ rfl, h.rt.blk.cell 1 _ rfl, h.rt.blk.cell 2 _ rfl, h.kx.cell 1 _ rfl, h.kx.cell 2 _ rfl, h.kx.cell 3 _ rfl, h.kx.cell 4 _ rfl, h.kx.cell 5 _ rfl⟩
theorem SP.far {cs : Array Value} (h : SP V W r vL vS N1 Q S bx p0 j e s r' st c' A n cap) (hg : W.grownBy W' (some y)) (hk : Bk W y 61 cs) (h1 : ¬ RX r vL vS y) (h2 : y ≠ bx) (h3 : V.heap.size ≤ y) : SP V W' r vL vS N1 Q S bx p0 j e s r' st c' A n cap :=
  ⟨h.rt.far hg h1 hk, h.kx.grown hg h2.symm, h.td.new hg h3, h.le⟩
end
/-- Behind the first row. -/
structure C8 (V W : World) (r : Nat) (vL vS v9 : Value) (N1 : Int) (Q : List Pr) (S : List Int) (y : Pr) : Prop where
  blk : Bk W r 58 #[v9, vS, .int .i64 N1]
  rl : W.ownsRow V.heap.size 61 8 v9 (Q.length + 1) (kRow (Q ++ [y]))
  rs : W.ownsRow (r + 1) 3 1 vS Q.length (iv S)
  ls : S.length = Q.length
  cs : ∀ x ∈ Q ++ [y], Cs W x.A x.cs
  few : ∀ x ∈ Q ++ [y], x.cs.length ≤ 300
  td : Td (RX r vL vS) V W
theorem C8.next {V W W' : World} {r : Nat} {vL vS v9 : Value} {N1 : Int} {Q : List Pr} {S : List Int} {y : Pr} (h : C8 V W r vL vS v9 N1 Q S y) (hb : Below W.heap.size W W') : C8 V W' r vL vS v9 N1 Q S y :=
  ⟨h.blk.next hb, own_next h.rl hb, own_next h.rs hb, h.ls, fun x hx => (h.cs x hx).next hb, h.few, h.td.trans (Td.of_below hb)⟩
theorem C8.end_ {V W : World} {r B : Nat} {vL vS v9 v10 : Value} {N1 : Int} {Q : List Pr} {S : List Int} {y : Pr} (h : C8 V W r vL vS v9 N1 Q S y) (hr : r < V.heap.size) (hB : V.heap.size ≤ B) (h9 : W.ownsRow B 3 1 v10 (Q.length + 1) (iv S ++ [.int .i64 0])) (ha : ∀ x ∈ Q ++ [y], ∀ ad, x.A = some ad → ad.block < B) : ROut V (W.setCell ⟨r, 1, none⟩ v10) r vL vS Q := by
  have ho : ∀ b, b ≠ r → (W.setCell ⟨r, 1, none⟩ v10).heap[b]? = W.heap[b]? := fun b hb => Below.heap_setCell _ _ _ _ hb
  have e9 : iv S ++ [.int .i64 0] = iv (S ++ [0]) := by simp [iv]
  rw [e9] at h9
  refine ⟨v9, v10, N1, Q ++ [y], S ++ [0], ⟨h.blk.set 1 v10, ?_, ?_, by simp [h.ls], fun x hx => cs_kept (h.cs x hx) (by simp [World.setCell]) fun ad e => ho _ ?_, h.few, fun x hx ad e e2 => ?_⟩, h.td.trans (Td.set _ (.inl rfl) _), fun b e => .inr ?_, by simp⟩
  · rw [List.length_append]
    refine row_kept (Joins.ownsRow_le h.rl (by omega)) fun b e => ho b ?_
    have := (row_bk h.rl e).1
    omega
  · rw [List.length_append]
    refine row_kept (Joins.ownsRow_le h9 (by omega)) fun b e => ho b ?_
    have := (row_bk h9 e).1
    omega
  · obtain ⟨cur, hk⟩ := (h.cs x hx).bk e
    exact bk_ne hk h.blk (by decide)
  · have h1 := ha x hx ad e
    have h2 := (row_bk h9 e2).1
    omega
  · have := (row_bk h9 e).1
    omega
theorem own_ge0 {w : World} {base size n : Nat} {e : TypeId} {v : Value} {xs : List Value} (h : w.ownsRow base e size v n xs) : ∀ g, v.ownBlock = some g → base ≤ g := fun _ hg => (row_bk h hg).1
theorem C8.mk_ {V W : World} {r bx : Nat} {vL vS v9 : Value} {N1 : Int} {Q : List Pr} {S : List Int} {p0 j e s r' st c' : Int} {A : Option Addr} {n cap : Nat} {y : Pr} {base : Nat} (h : SP V W r vL vS N1 Q S bx p0 j e s r' st c' A n cap) (hr : r < V.heap.size ∧ V.heap.size ≤ base) (h9 : W.ownsRow base 61 8 v9 (Q.length + 1) (kRow (Q ++ [y]))) (hc : Cs W y.A y.cs) (hl : y.cs.length ≤ 300) :
    C8 V (W.setCell ⟨r, 0, none⟩ v9) r vL vS v9 N1 Q S y := by
  have ho : ∀ b, b ≠ r → (W.setCell ⟨r, 0, none⟩ v9).heap[b]? = W.heap[b]? := fun b hb => Below.heap_setCell _ _ _ _ hb
  have hcs : ∀ x ∈ Q ++ [y], Cs W x.A x.cs := fun x hx => by
    rcases List.mem_append.1 hx with q | q
    · exact h.rt.cs x q
    · rw [List.mem_singleton.1 q]; exact hc
  refine ⟨h.rt.blk.set 0 v9, row_kept (Joins.ownsRow_le h9 hr.2) fun b e => ho b ?_, row_kept h.rt.rs fun b e => ho b ?_, h.rt.ls, fun x hx => cs_kept (hcs x hx) (by simp [World.setCell]) fun ad e => ho _ ?_, fun x hx => ?_, h.td.trans (Td.set _ (.inl rfl) _)⟩
  · have := (row_bk h9 e).1; omega
  · have := (row_bk h.rt.rs e).1; omega
  · obtain ⟨cur, hk⟩ := (hcs x hx).bk e
    exact bk_ne hk h.rt.blk (by decide)
  · rcases List.mem_append.1 hx with q | q
    · exact h.rt.few x q
    · rw [List.mem_singleton.1 q]; exact hl
set_option maxRecDepth 100000 in
set_option maxHeartbeats 8000000 in
theorem rspawn_any {V : World} {r : Nat} {vL vS : Value} {ND : Int} {Q : List Pr} {S : List Int} (h : RT V r vL vS ND Q S) (hl : Q.length ≤ 255) (p0 j e s r' st c : Int) (A : Option Addr) (n cap : Nat) (zs : List Int) (hz : IntsAt V A zs) (hn : zs.length = n) (hl3 : n ≤ 300) (hcap : n ≤ cap) (hA : ∀ ad, A = some ad → 0 < n → ad.block ≠ r) :
    Calls Try.prog 49 #[.pointer (some ⟨r, 0, none⟩), tkV p0 j e s r' (.slice A n cap) st c] V fun x w' => (∃ N er : Int, x = .returned (.tuple #[.int .i64 N, .int .i64 er])) ∧ ROut V w' r vL vS Q := by
  obtain ⟨i0, hi, hz0, hz1, hz2⟩ := info_parts info3
  have HA := Lib.hid hA
  have HN := Lib.hid hn
  have low := below_alloc V (.cells (tkC p0 j e s r' (.slice A n cap) st c) 61)
  have kx := Bk.new V 61 (tkC p0 j e s r' (.slice A n cap) st c)
  have H := Lib.hid (h.next low)
  have HZ := Lib.hid (hz.next low)
  have KM := Lib.hid (rmay_ends p0 j e s r' st c A n cap zs _ (hz.next low) hn hl3 hcap)
  have hq := h.blk.lt
  have HLT := Lib.hid h.lt
  obtain ⟨N1, hN1⟩ : ∃ N1, IntKind.i64.wrap (ND + 1) = N1 := ⟨_, rfl⟩
  clear h hz hn hA
  obtain ⟨AL, capL, rfl⟩ := own_form H.out.rl
  obtain ⟨⟨d0, d1, d2, d3, d4, d5, d6, d7⟩, _⟩ := kx.z8
  go_enter Try.func49, Try.ntmps49
  go_wp2_with fail
  refine KM.out.mono ?_
  rintro _ w1 ⟨⟨b, rfl, hb0⟩, hb⟩
  replace low := bmore low hb
  replace H := Lib.hid (H.out.next hb)
  replace HZ := Lib.hid (HZ.out.next hb)
  replace kx := kx.next hb
  clear d0 d1 d2 d3 d4 d5 d6 d7 hb KM
  cases b
  · go_wp2_with fail
    go_ret2
    exact ⟨⟨_, _, rfl⟩, _, _, ND, Q, S, H.out, Td.of_below low, fun g e => .inl e, by omega⟩
  have hn0 := hb0 rfl
  clear hb0
  have c0 := H.out.blk.cell 0 _ rfl
  have c2 := H.out.blk.cell 2 _ rfl
  have f2 := H.out.blk.frozen 2
  have t256 : ((Q.length : Int) == 256) = false := by
    have q : ¬ ((Q.length : Int) = 256) := by omega
    simpa using q
  have T := Lib.hid (show SP V (w1.setCell ⟨r, 2, none⟩ (.int .i64 N1)) r (.slice AL Q.length capL) vS N1 Q S V.heap.size p0 j e s r' st c A n cap from ⟨H.out.setN N1, kx.put (by omega), (Td.of_below low).trans (Td.set _ (.inl rfl) _), Nat.le_refl _⟩)
  have HZ2 := Lib.hid (show IntsAt (w1.setCell ⟨r, 2, none⟩ (.int .i64 N1)) A zs from HZ.out.far (gset w1 r 2 (.int .i64 N1)) (fun ad e => HA.out ad e hn0))
  clear kx low H HZ
  go_upto_region 6 with fail
  clear c0 c2 f2 hN1
  generalize w1.setCell ⟨r, 2, none⟩ (.int .i64 N1) = W at *
  obtain ⟨ad, rfl, _, _⟩ := HZ2.out.at_ (k := 0) (by rw [HN.out]; exact hn0)
  have hyq := T.out.rt.blk.lt
  have hyb := T.out.kx.lt
  obtain ⟨a0, a1, a2, a3, a4, a5, a6, a7⟩ := T.out.c
  obtain ⟨b0, b1, b2, b3, b4, b5, b6, b7⟩ := (T.out.next (below_alloc W (.cells (tk8 0 0 0 0 0 (.slice none 0 0) 0 0) 61))).c
  have la2 := below_alloc W (.cells (tk8 N1 j e s r' (.slice none 0 0) 0 0) 61)
  have T2 := Lib.hid (T.out.next la2)
  have HZ3 := Lib.hid (HZ2.out.next la2)
  have ky := Lib.hid (Bk.new W 61 (tk8 N1 j e s r' (.slice none 0 0) 0 0))
  obtain ⟨e0, e1, e2, e3, e4, e5, e6, e7⟩ := T2.out.c
  go_region_held3 (fun W' => W'.cell? ⟨r, 2, none⟩ = some (.int .i64 N1) ∧ W'.cell? ⟨V.heap.size, 1, none⟩ = some (.int .i64 j) ∧ W'.cell? ⟨V.heap.size, 2, none⟩ = some (.int .i64 e) ∧ W'.cell? ⟨V.heap.size, 3, none⟩ = some (.int .i64 s) ∧ W'.cell? ⟨V.heap.size, 4, none⟩ = some (.int .i64 r'))
    (first | exact ⟨a2, a3, a4, a5, a6⟩ | exact ⟨b2, b3, b4, b5, b6⟩ | exact ⟨e2, e3, e4, e5, e6⟩)
    (fail)
  clear a0 a1 a2 a3 a4 a5 a6 a7 b0 b1 b2 b3 b4 b5 b6 b7 e0 e1 e2 e3 e4 e6 la2 HZ2
  have hlt3 := T.out.rt.lt
  have hnY : ¬ RX r (.slice AL Q.length capL) vS W.heap.size := fun e => by have := hlt3 _ e; omega
  clear T hlt3
  go_upto_region 7 with fail
  clear e5 e7
  have hVW : V.heap.size ≤ W.heap.size := by omega
  generalize W.heap.size = y at *
  generalize W.alloc (.cells (tk8 N1 j e s r' (.slice none 0 0) 0 0) 61) = W2 at *
  have y5 := ky.out.cell 5 _ rfl
  have e7 := T2.out.c.2.2.2.2.2.2.2
  have hs2 := T2.out.td.size
  go_upto_region 8 with (at_builtin; refine wpList_append_own _ rfl _ _ 45 rfl W2.heap.size 3 i0 (.int .i64 0) 1 8 Try.underlying45 hi hz0 hz1 hz2 rfl (by decide) _ _ _ rfl (World.ownsRow_nil _ _ _ _) ad n cap (iv zs) rfl (by rw [iv_len, HN.out]; simp) (iv_cells HZ3.out) (iv_ones zs) (by unfold maxLen; omega) (by omega) (by simp) ?_; intro v6 w6 hown6 hg6 _; obtain ⟨A6, cap6, rfl⟩ := own_form hown6; have hb6 : Below W2.heap.size W2 w6 := ⟨hg6.os, hg6.tape, hg6.output, hg6.size, fun i hi => hg6.block i hi (show some i ≠ none from by simp)⟩; have ky6 := Lib.hid (ky.out.next hb6); have T6 := Lib.hid (T2.out.next hb6); have d5 := ky6.out.cell 5 _ rfl; have f5 := ky6.out.frozen 5)
  have T3 := Lib.hid (T6.out.far (gset w6 y 5 (.slice A6 n cap6)) ky6.out hnY (by omega) hVW)
  have k3 := Lib.hid (ky6.out.set 5 (.slice A6 n cap6))
  have HCY := Lib.hid ((cs_own (zs := zs) (n := 0 + n) (cap := cap6) (by simp [HN.out]) (by simpa using hown6)).far (gset w6 y 5 (.slice A6 n cap6)) ky6.out (by decide))
  clear d5 f5 e7 y5 ky6 T6 T2 ky HZ3
  clear hown6 hg6 hb6
  generalize w6.setCell ⟨y, 5, none⟩ (.slice A6 n cap6) = W3 at *
  have k4 : Bk W3 y 61 (tk8 N1 j e s r' (.slice A6 n cap6) 0 0) := k3.out
  have hl3y : zs.length ≤ 300 := by rw [HN.out]; exact hl3
  have hW3 : V.heap.size ≤ W3.heap.size := T3.out.td.size
  go_cut [] (fun wx => ∃ v9, Hid (C8 V wx r (.slice AL Q.length capL) vS v9 N1 Q S (⟨N1, j, e, s, r', 0, 0, 0, A6, cap6, zs, 0⟩ : Pr)))
  case first =>
    rcases T3.out.rt.rl.2 with ⟨e1, h0⟩ | ⟨g, cap0, cur, e1, _⟩
    · injection e1 with e2 e3 e4
      subst e2
      obtain rfl : Q = [] := List.eq_nil_of_length_eq_zero h0
      obtain rfl : capL = 0 := e4
      have lE := below_alloc W3 (.cells #[] 61)
      have lY := below_alloc W3 (.cells (tk8 N1 j e s r' (.slice A6 n cap6) 0 0) 61)
      have a0 := T3.out.c.1
      have b0 := (T3.out.next lE).c.1
      have e0 := (T3.out.next lY).c.1
      obtain ⟨⟨a1, a2, a3, a4, a5, a6, a7, a8⟩, _⟩ := k4.z8
      obtain ⟨⟨b1, b2, b3, b4, b5, b6, b7, b8⟩, _⟩ := (k4.next lE).z8
      have oE := World.ownsRow_made (base := W3.heap.size) (e := 61) (size := 8) W3 #[] 0 (Nat.le_refl _) (Nat.zero_le _) rfl
      have oEY := oE.alloc (.cells (tk8 N1 j e s r' (.slice A6 n cap6) 0 0) 61)
      have oYE := World.ownsRow_made (base := W3.heap.size) (e := 61) (size := 8) (W3.alloc (.cells (tk8 N1 j e s r' (.slice A6 n cap6) 0 0) 61)) #[] 0 (by simp) (Nat.zero_le _) rfl
      have kEY := Bk.new (W3.alloc (.cells #[] 61)) 61 (tk8 N1 j e s r' (.slice A6 n cap6) 0 0)
      have kYE := (Bk.new W3 61 (tk8 N1 j e s r' (.slice A6 n cap6) 0 0)).alloc (.cells #[] 61)
      rw [size_alloc] at oYE kEY
      clear oE
      have f0 := (((T3.out.next lE).next (below_alloc _ (.cells (tk8 N1 j e s r' (.slice A6 n cap6) 0 0) 61)))).c.1
      have g0 := (((T3.out.next lY).next (below_alloc _ (.cells #[] 61)))).c.1
      go_region_law (first | (refine app_g rfl (.tmp 48) (.tmp 50) rfl W3.heap.size 0 _ [] rfl (by first | exact oEY | exact oYE) _ 1 _ (tk8 N1 j e s r' (.slice A6 n cap6) 0 0).toList rfl rfl (bk_cells (by first | exact kEY | exact kYE)) (by simp [Value.oneCell']) (by omega) (by first | (simp; done) | (simp; omega) | omega) ?_; intro v9 w9 hown9 hg9; obtain ⟨g9, cap9, rfl⟩ := ownsRow_succ hown9; have hb9 : Below W3.heap.size W3 w9 := (by first | exact ((lE.alloc (by simp) _).drew).grown hg9 (by first | (simp; done) | (simp; omega) | omega) (fun j ej => by cases ej; first | omega | simp) | exact ((lY.alloc (by simp) _).drew).grown hg9 (by first | (simp; done) | (simp; omega) | omega) (fun j ej => by cases ej; first | omega | simp)); have HF := Lib.hid (T3.out.next hb9); have d0 := HF.out.rt.blk.cell 0 _ rfl; have df := HF.out.rt.blk.frozen 0))
      all_goals
        have HC := Lib.hid (C8.mk_ (y := (⟨N1, j, e, s, r', 0, 0, 0, A6, cap6, zs, 0⟩ : Pr)) HF.out ⟨hq, by omega⟩ (by have q := hown9; rw [← HN.out] at q; exact q) (HCY.out.next hb9) hl3y)
        clear d0 df hb9 hg9 a0 b0 e0 f0 g0 a1 a2 a3 a4 a5 a6 a7 a8 b1 b2 b3 b4 b5 b6 b7 b8 oEY oYE kEY kYE lE lY
        go_wp2
        go_meet
        exact ⟨_, HC⟩

    · injection e1 with e2 e3 e4
      subst e2
      subst e4
      have lE := below_alloc W3 (.cells #[] 61)
      have lY := below_alloc W3 (.cells (tk8 N1 j e s r' (.slice A6 n cap6) 0 0) 61)
      have a0 := T3.out.c.1
      have b0 := (T3.out.next lE).c.1
      have e0 := (T3.out.next lY).c.1
      obtain ⟨⟨a1, a2, a3, a4, a5, a6, a7, a8⟩, _⟩ := k4.z8
      obtain ⟨⟨b1, b2, b3, b4, b5, b6, b7, b8⟩, _⟩ := (k4.next lE).z8
      have oE := World.ownsRow_made (base := W3.heap.size) (e := 61) (size := 8) W3 #[] 0 (Nat.le_refl _) (Nat.zero_le _) rfl
      have oEY := oE.alloc (.cells (tk8 N1 j e s r' (.slice A6 n cap6) 0 0) 61)
      have oYE := World.ownsRow_made (base := W3.heap.size) (e := 61) (size := 8) (W3.alloc (.cells (tk8 N1 j e s r' (.slice A6 n cap6) 0 0) 61)) #[] 0 (by simp) (Nat.zero_le _) rfl
      have kEY := Bk.new (W3.alloc (.cells #[] 61)) 61 (tk8 N1 j e s r' (.slice A6 n cap6) 0 0)
      have kYE := (Bk.new W3 61 (tk8 N1 j e s r' (.slice A6 n cap6) 0 0)).alloc (.cells #[] 61)
      rw [size_alloc] at oYE kEY
      have lEY := lE.alloc (by simp) (.cells (tk8 N1 j e s r' (.slice A6 n cap6) 0 0) 61)
      have lYE := lY.alloc (by simp) (.cells #[] 61)
      have f0 := (((T3.out.next lE).next (below_alloc _ (.cells (tk8 N1 j e s r' (.slice A6 n cap6) 0 0) 61)))).c.1
      have g0 := (((T3.out.next lY).next (below_alloc _ (.cells #[] 61)))).c.1
      go_region_law (first | (refine app_g rfl (.tmp 48) (.tmp 50) rfl W3.heap.size Q.length _ (kRow Q) rfl (by first | exact hown8 | exact own8) _ 1 _ (tk8 N1 j e s r' (.slice A6 n cap6) 0 0).toList rfl rfl (bk_cells (by first | exact kY8 | exact k8)) (by simp [Value.oneCell']) (by omega) (by first | (simp; done) | (simp; omega) | omega) ?_; intro v9 w9 hown9 hg9; obtain ⟨g9, cap9, rfl⟩ := ownsRow_succ hown9; have hb9 : Below W3.heap.size W3 w9 := (by first | exact hb8.grown hg9 (by first | (simp; done) | (simp; omega) | omega) (fun j ej => by have q := own_ge0 hown8 _ ej; omega) | exact (hb8.alloc (by first | omega | (simp; omega)) _).grown hg9 (by first | (simp; done) | (simp; omega) | omega) (fun j ej => by have q := own_ge0 hown8 _ ej; omega) | exact (hb8.drew).grown hg9 (by first | (simp; done) | (simp; omega) | omega) (fun j ej => by have q := own_ge0 hown8 _ ej; omega) | exact ((hb8.alloc (by first | omega | (simp; omega)) _).drew).grown hg9 (by first | (simp; done) | (simp; omega) | omega) (fun j ej => by have q := own_ge0 hown8 _ ej; omega)); have HF := Lib.hid (T3.out.next hb9); have d0 := HF.out.rt.blk.cell 0 _ rfl; have df := HF.out.rt.blk.frozen 0) | (refine app_g rfl (.tmp 43) (.tmp 47) rfl W3.heap.size 0 _ [] rfl (by first | exact oEY | exact oYE | exact oE) ⟨g, 0, none⟩ Q.length capL (kRow Q) rfl (kRow_len Q) (by first | exact (T3.out.next lEY).rt.row | exact (T3.out.next lYE).rt.row | exact (T3.out.next lE).rt.row) (kRow_ones Q) (by omega) (by first | (simp; done) | (simp; omega) | omega) ?_; intro v8 w8 hown8 hg8; rw [Nat.zero_add, List.nil_append] at hown8; obtain ⟨A8, cap8, rfl⟩ := own_form hown8; have hb8 : Below W3.heap.size W3 w8 := (by first | exact (lEY.drew).grown hg8 (by first | (simp; done) | (simp; omega) | omega) (fun j ej => by cases ej; first | omega | simp) | exact (lYE.drew).grown hg8 (by first | (simp; done) | (simp; omega) | omega) (fun j ej => by cases ej; first | omega | simp) | exact (lE.drew).grown hg8 (by first | (simp; done) | (simp; omega) | omega) (fun j ej => by cases ej; first | omega | simp)); have hs8 := hb8.size; have T8 := Lib.hid (T3.out.next hb8); obtain ⟨⟨x1, x2, x3, x4, x5, x6, x7, x8⟩, _⟩ := (k4.next hb8).z8; have x0 := T8.out.c.1; have own8 := hown8.alloc (.cells (tk8 N1 j e s r' (.slice A6 n cap6) 0 0) 61); have k8 := Bk.new w8 61 (tk8 N1 j e s r' (.slice A6 n cap6) 0 0); (first | (have kY8 : Bk w8 (W3.heap.size + 1) 61 (tk8 N1 j e s r' (.slice A6 n cap6) 0 0) := (hg8.block (W3.heap.size + 1) (by simp) (by intro e; have e2 := Option.some.inj (show some (W3.heap.size + 1) = some W3.heap.size from e); omega)).trans kEY) | (have kY8 : Bk w8 W3.heap.size 61 (tk8 N1 j e s r' (.slice A6 n cap6) 0 0) := (hg8.block W3.heap.size (by first | (simp; done) | (simp; omega)) (by intro e; have e2 := Option.some.inj (show some W3.heap.size = some (W3.heap.size + 1) from e); omega)).trans kYE) | skip)))
      all_goals
        have HC := Lib.hid (C8.mk_ (y := (⟨N1, j, e, s, r', 0, 0, 0, A6, cap6, zs, 0⟩ : Pr)) HF.out ⟨hq, by omega⟩ (by rw [kRow_snoc]; have q := hown9; rw [← HN.out] at q; exact q) (HCY.out.next hb9) hl3y)
        clear d0 df hb9 hg9 a0 b0 e0 f0 g0 a1 a2 a3 a4 a5 a6 a7 a8 b1 b2 b3 b4 b5 b6 b7 b8 oE oEY oYE kEY kYE lE lY lEY lYE x0 x1 x2 x3 x4 x5 x6 x7 x8 own8 k8 hb8 hown8
        go_wp2
        go_meet
        exact ⟨_, HC⟩

  case rest =>
    obtain ⟨v9, hC⟩ := hcut
    clear HCY T3 k3 k4 HA hn0 hnY hyq hyb
    obtain ⟨W4, hW4⟩ : ∃ x, x = wc := ⟨_, rfl⟩
    subst hW4
    have hBW : V.heap.size ≤ W4.heap.size := hC.out.td.size
    have HAL := Lib.hid (show ∀ x ∈ Q ++ [(⟨N1, j, e, s, r', 0, 0, 0, A6, cap6, zs, 0⟩ : Pr)], ∀ ad, x.A = some ad → ad.block < W4.heap.size from fun x hx ad e => by
      obtain ⟨cur, hk⟩ := (hC.out.cs x hx).bk e
      exact hk.lt)
    have l1 := below_alloc W4 (.cells #[] 3)
    have q1 := (hC.out.next l1).blk.cell 1 _ rfl
    have hs1 := l1.size
    have oE0 := World.ownsRow_made (base := W4.heap.size) (e := 3) (size := 1) W4 #[] 0 (Nat.le_refl _) (Nat.zero_le _) rfl
    have oE := oE0.alloc (.cells #[.int .i64 0] 3)
    rcases hC.out.rs.2 with ⟨rfl, h0⟩ | ⟨g3, cap3, cur, rfl, _⟩
    · go_wp2_with (at_builtin; refine wpList_append_own _ rfl _ _ 45 rfl W4.heap.size 3 i0 (.int .i64 0) 1 8 Try.underlying45 hi hz0 hz1 hz2 rfl (by decide) _ _ _ rfl oE ⟨W4.heap.size + 1, 0, none⟩ 1 1 [.int .i64 0] rfl rfl (one0 W4) (by simp [Value.oneCell']) (by unfold maxLen; omega) (by omega) (by simp; omega) ?_; intro v10 w10 hown10 hg10 _; obtain ⟨g10, cap10, rfl⟩ := ownsRow_succ hown10; have hb10 : Below W4.heap.size W4 w10 := (l1.alloc (by simp) (.cells #[.int .i64 0] 3)).grown hg10 (by simp; omega) (fun j ej => by cases ej; exact Nat.le_refl _); have S10 := Lib.hid (hC.out.next hb10); have d1 := S10.out.blk.cell 1 _ rfl; have f1 := S10.out.blk.frozen 1; have d2 := (S10.out.blk.set 1 (.slice (some ⟨g10, 0, none⟩) 1 cap10)).cell 2 _ rfl)
      have hlS : S = [] := List.eq_nil_of_length_eq_zero (by rw [hC.out.ls]; exact h0)
      go_ret2
      exact ⟨⟨_, _, rfl⟩, S10.out.end_ hq hBW (by rw [h0, hlS]; exact hown10) HAL.out⟩
    · have hlQ : Q.length ≤ 255 := hl
      have c3 : ∀ k u, (iv S)[k]? = some u → (W4.alloc (.cells #[] 3)).cell? ((⟨g3, 0, none⟩ : Addr).add k) = some u := (hC.out.next l1).rs.cells (g := g3) rfl
      go_wp2_with (first
        | (at_builtin; refine wpList_append_own _ rfl _ _ 45 rfl W4.heap.size 3 i0 (.int .i64 0) 1 8 Try.underlying45 hi hz0 hz1 hz2 rfl (by decide) _ _ _ rfl oE0 ⟨g3, 0, none⟩ Q.length cap3 (iv S) rfl (by rw [iv_len, hC.out.ls]; simp) c3 (iv_ones S) (by unfold maxLen; omega) (by omega) (by first | (simp; done) | (simp; omega)) ?_; intro v8 w8 hown8 hg8 _; rw [Nat.zero_add, List.nil_append] at hown8; obtain ⟨A8, cap8, rfl⟩ := own_form hown8; have hb8 : Below W4.heap.size W4 w8 := l1.grown hg8 (by first | (simp; done) | (simp; omega)) (fun j ej => by cases ej; exact Nat.le_refl _); have hs8 := hb8.size)
        | (at_builtin; refine wpList_append_own _ rfl _ _ 45 rfl W4.heap.size 3 i0 (.int .i64 0) 1 8 Try.underlying45 hi hz0 hz1 hz2 rfl (by decide) _ _ _ rfl (hown8.alloc _) ⟨w8.heap.size, 0, none⟩ 1 1 [.int .i64 0] rfl rfl (cell_one_new _ _ _) (by simp [Value.oneCell']) (by unfold maxLen; omega) (by omega) (by first | (simp; done) | (simp; omega)) ?_; intro v10 w10 hown10 hg10 _; obtain ⟨g10, cap10, rfl⟩ := ownsRow_succ hown10; have hb10 := hb8.trans (appended_below hown8 hs8 hg10); have S10 := Lib.hid (hC.out.next hb10); have d1 := S10.out.blk.cell 1 _ rfl; have f1 := S10.out.blk.frozen 1; have d2 := (S10.out.blk.set 1 (.slice (some ⟨g10, 0, none⟩) (Q.length + 1) cap10)).cell 2 _ rfl))
      go_ret2
      exact ⟨⟨_, _, rfl⟩, S10.out.end_ hq hBW hown10 HAL.out⟩
end Go.Proofs.Ytjolkcomlindhaa
