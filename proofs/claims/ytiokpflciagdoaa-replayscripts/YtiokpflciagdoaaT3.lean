/- The document's Use. -/
import Derived.Test.YtiokpflciagdoaaT2
import Derived.Test.YtiokpflciagdoaaS3
namespace Go.Proofs.Ytiokpflciagdoaa
open Go.RowKit Go.Maps

theorem info31 : (Try.prog.info? 31).map (fun i => (i.zero, i.size, i.bytes)) = some (some (.agg #[.int .i64 0, .int .i64 0, .int .i64 0, .int .i64 0, .int .i64 0, .slice none 0 0, .int .i64 0]), 7, 72) := by kernel_rfl
theorem cells_new (w : World) (cs : Array Value) (t : TypeId) (j : Nat) (u : Value) (h : cs.toList[j]? = some u) : (w.alloc (.cells cs t)).cell? ((⟨w.heap.size, 0, none⟩ : Addr).add j) = some u := by
  have hadd : (⟨w.heap.size, 0, none⟩ : Addr).add j = ⟨w.heap.size, j, none⟩ := by unfold Addr.add; split <;> simp_all
  rw [hadd]
  exact (Bk.new w t cs).cell j u (by simpa using h)
/-- Behind an append onto a slice of its own: what lies below is as it was. -/
theorem appended_below {W w1 : World} {n₀ : Nat} {e : TypeId} {size : Nat} {v : Value} {k : Nat} {xs : List Value} {tmp : Obj} (hrow : W.ownsRow n₀ e size v k xs) (hn₀ : n₀ ≤ W.heap.size) (hgrow : (W.alloc tmp).grownBy w1 v.ownBlock) : Below n₀ W w1 := by
  refine ((Below.refl n₀ W).alloc hn₀ tmp).grown hgrow (by simp; omega) fun j ej => ?_
  rcases hrow.2 with ⟨rfl, _⟩ | ⟨g, cap, cur, rfl, hb, _, _⟩
  · simp [Value.ownBlock] at ej
  · obtain rfl : g = j := by simpa [Value.ownBlock] using ej
    exact hb
/-- What lasts, of the document's. -/
def keepC (now : Int) (CL : List Cr) : List Cr := CL.filter fun c => decide (now < c.u)
theorem crRow_snoc (CL : List Cr) (c : Cr) : crRow (CL ++ [c]) = crRow CL ++ c.cs := by simp [crRow]
theorem keepC_snoc_in {now : Int} {CL : List Cr} {k : Nat} {c : Cr} (hc : CL[k]? = some c) (h : now < c.u) : keepC now (CL.take (k + 1)) = keepC now (CL.take k) ++ [c] := by
  rw [take_at hc]; simp [keepC, h]
theorem keepC_snoc_out {now : Int} {CL : List Cr} {k : Nat} {c : Cr} (hc : CL[k]? = some c) (h : ¬ now < c.u) : keepC now (CL.take (k + 1)) = keepC now (CL.take k) := by
  rw [take_at hc]; simp [keepC, h]
theorem keepC_length (now : Int) (CL : List Cr) (k : Nat) : (keepC now (CL.take k)).length ≤ k := Nat.le_trans (List.length_filter_le _ _) (by rw [List.length_take]; omega)
theorem keepC_len (now : Int) (CL : List Cr) : (keepC now CL).length ≤ CL.length := List.length_filter_le _ _
/-- The document's cache, its first slice another. -/
theorem RefAt.setL {V : World} {q : Nat} {most : Int} {sl sb sl' : Value} {CL CL' : List Cr} {T : List (Jb × Int)} {B : Nat} (h : RefAt V q most sl sb CL T) (hr : V.ownsRow B 31 7 sl' CL'.length (crRow CL')) (hB : q < B) (hap : ∀ g, sl'.ownBlock = some g → sb.ownBlock ≠ some g) : RefAt (V.setCell ⟨q, 1, none⟩ sl') q most sl' sb CL' T := by
  refine ⟨?_, (ownsRow_setCell_below hr (by simpa using hB) _).mono hB, ownsRow_setCell_below h.rb (by simp) _, hap⟩
  have := heap_setCell_same V q 1 _ 39 sl' h.blk
  simpa [Bk] using this
theorem grown_set {V : World} {q i : Nat} {v : Value} : V.grownBy (V.setCell ⟨q, i, none⟩ v) (some q) := by
  refine ⟨rfl, rfl, rfl, by simp, fun j _ hj => heap_setCell_other V ⟨q, i, none⟩ j v (fun e => hj (by rw [e]))⟩
set_option maxRecDepth 100000 in
set_option maxHeartbeats 4000000 in
theorem ruse_bad {w : World} {q : Nat} {most : Int} {sl sb : Value} {CL : List Cr} {T : List (Jb × Int)} (h : RefAt w q most sl sb CL T) (x : Cr) (now : Int) (KC : ∀ V, Below w.heap.size w V → Calls Try.prog 20 #[.agg #[.int .i64 x.j, .int .i64 x.e, .int .i64 x.s, .int .i64 x.f, .int .i64 x.u, .slice x.A x.n x.cap, .int .i64 x.c]] V fun e w' => e = .returned (.int .i64 1) ∧ Below V.heap.size V w') :
    Calls Try.prog 21 #[.pointer (some ⟨q, 0, none⟩), .agg #[.int .i64 x.j, .int .i64 x.e, .int .i64 x.s, .int .i64 x.f, .int .i64 x.u, .slice x.A x.n x.cap, .int .i64 x.c], .int .i64 now] w fun e w' => e = .returned (.int .i64 1) ∧ Below w.heap.size w w' := by
  have st : Kt w (w.alloc (.cells #[.int .i64 x.j, .int .i64 x.e, .int .i64 x.s, .int .i64 x.f, .int .i64 x.u, .slice x.A x.n x.cap, .int .i64 x.c] 31)) #[.int .i64 x.j, .int .i64 x.e, .int .i64 x.s, .int .i64 x.f, .int .i64 x.u, .slice x.A x.n x.cap, .int .i64 x.c] q most sl sb CL T := ⟨Bk.new _ _ _, h.next (below_alloc _ _), below_alloc _ _⟩
  clear h
  replace KC := Lib.hid KC
  go_enter Try.func21, Try.ntmps21
  go_wp2_with fail
  refine (KC.out _ st.low).mono ?_
  rintro e w1 ⟨rfl, hb⟩
  replace st := st.next hb; clear hb KC
  go_wp2_with fail
  go_ret
  exact ⟨rfl, st.low⟩
set_option maxRecDepth 100000 in
set_option maxHeartbeats 4000000 in
theorem ruse_time {w : World} {q : Nat} {most : Int} {sl sb : Value} {CL : List Cr} {T : List (Jb × Int)} (h : RefAt w q most sl sb CL T) (x : Cr) (now : Int) (KC : ∀ V, Below w.heap.size w V → Calls Try.prog 20 #[.agg #[.int .i64 x.j, .int .i64 x.e, .int .i64 x.s, .int .i64 x.f, .int .i64 x.u, .slice x.A x.n x.cap, .int .i64 x.c]] V fun e w' => e = .returned (.int .i64 0) ∧ Below V.heap.size V w') (ht : x.u ≤ now) :
    Calls Try.prog 21 #[.pointer (some ⟨q, 0, none⟩), .agg #[.int .i64 x.j, .int .i64 x.e, .int .i64 x.s, .int .i64 x.f, .int .i64 x.u, .slice x.A x.n x.cap, .int .i64 x.c], .int .i64 now] w fun e w' => e = .returned (.int .i64 8) ∧ Below w.heap.size w w' := by
  have st : Kt w (w.alloc (.cells #[.int .i64 x.j, .int .i64 x.e, .int .i64 x.s, .int .i64 x.f, .int .i64 x.u, .slice x.A x.n x.cap, .int .i64 x.c] 31)) #[.int .i64 x.j, .int .i64 x.e, .int .i64 x.s, .int .i64 x.f, .int .i64 x.u, .slice x.A x.n x.cap, .int .i64 x.c] q most sl sb CL T := ⟨Bk.new _ _ _, h.next (below_alloc _ _), below_alloc _ _⟩
  clear h
  replace KC := Lib.hid KC
  go_enter Try.func21, Try.ntmps21
  go_wp2_with fail
  refine (KC.out _ st.low).mono ?_
  rintro e w1 ⟨rfl, hb⟩
  replace st := st.next hb; clear hb KC
  have q4 := st.box.cell 4 _ rfl
  go_wp2_with fail
  go_ret
  exact ⟨rfl, st.low⟩
set_option maxRecDepth 100000 in
set_option maxHeartbeats 4000000 in
theorem ruse_rev {w : World} {q : Nat} {most : Int} {sl sb : Value} {CL : List Cr} {T : List (Jb × Int)} (h : RefAt w q most sl sb CL T) (x : Cr) (now : Int) (KC : ∀ V, Below w.heap.size w V → Calls Try.prog 20 #[.agg #[.int .i64 x.j, .int .i64 x.e, .int .i64 x.s, .int .i64 x.f, .int .i64 x.u, .slice x.A x.n x.cap, .int .i64 x.c]] V fun e w' => e = .returned (.int .i64 0) ∧ Below V.heap.size V w') (ht : ¬ x.u ≤ now)
    (KR : ∀ V, RefAt V q most sl sb CL T → Calls Try.prog 17 #[.pointer (some ⟨q, 0, none⟩), .agg #[.int .i64 x.j, .int .i64 x.e, .int .i64 x.s, .int .i64 x.f, .int .i64 x.u, .slice x.A x.n x.cap, .int .i64 x.c]] V fun e w' => e = .returned (.bool true) ∧ Below V.heap.size V w') :
    Calls Try.prog 21 #[.pointer (some ⟨q, 0, none⟩), .agg #[.int .i64 x.j, .int .i64 x.e, .int .i64 x.s, .int .i64 x.f, .int .i64 x.u, .slice x.A x.n x.cap, .int .i64 x.c], .int .i64 now] w fun e w' => e = .returned (.int .i64 11) ∧ Below w.heap.size w w' := by
  replace KR := Lib.hid KR
  have st : Kt w (w.alloc (.cells #[.int .i64 x.j, .int .i64 x.e, .int .i64 x.s, .int .i64 x.f, .int .i64 x.u, .slice x.A x.n x.cap, .int .i64 x.c] 31)) #[.int .i64 x.j, .int .i64 x.e, .int .i64 x.s, .int .i64 x.f, .int .i64 x.u, .slice x.A x.n x.cap, .int .i64 x.c] q most sl sb CL T := ⟨Bk.new _ _ _, h.next (below_alloc _ _), below_alloc _ _⟩
  clear h
  replace KC := Lib.hid KC
  go_enter Try.func21, Try.ntmps21
  go_wp2_with fail
  refine (KC.out _ st.low).mono ?_
  rintro e w1 ⟨rfl, hb⟩
  replace st := st.next hb; clear hb KC
  obtain ⟨q0, q1, q2, q3, q4, q5, q6⟩ : w1.cell? ⟨w.heap.size, 0, none⟩ = some (.int .i64 x.j) ∧ w1.cell? ⟨w.heap.size, 1, none⟩ = some (.int .i64 x.e) ∧ w1.cell? ⟨w.heap.size, 2, none⟩ = some (.int .i64 x.s) ∧ w1.cell? ⟨w.heap.size, 3, none⟩ = some (.int .i64 x.f) ∧ w1.cell? ⟨w.heap.size, 4, none⟩ = some (.int .i64 x.u) ∧ w1.cell? ⟨w.heap.size, 5, none⟩ = some (.slice x.A x.n x.cap) ∧ w1.cell? ⟨w.heap.size, 6, none⟩ = some (.int .i64 x.c) := ⟨st.box.cell 0 _ rfl, st.box.cell 1 _ rfl, st.box.cell 2 _ rfl, st.box.cell 3 _ rfl, st.box.cell 4 _ rfl, st.box.cell 5 _ rfl, st.box.cell 6 _ rfl⟩
  go_wp2_with fail
  refine (KR.out _ st.ref).mono ?_
  clear q0 q1 q2 q3 q4 q5 q6
  rintro e w2 ⟨rfl, hb⟩
  replace st := st.next hb; clear hb KR
  go_wp2_with fail
  go_ret
  exact ⟨rfl, st.low⟩
/-- Behind the loop: what lasts, in a new slice. -/
structure Lp (w V : World) (B : Nat) (v : Value) (cs : Array Value) (q : Nat) (most : Int) (sl sb : Value) (CL K : List Cr) (T : List (Jb × Int)) : Prop where
  kt : Kt w V cs q most sl sb CL T
  row : V.ownsRow B 31 7 v K.length (crRow K)
  old : w.heap.size < B ∧ B ≤ V.heap.size
/-- An append of one credential, inside a region that draws. -/
theorem app_cr {ops : Array Oper} {o : Oper} {a : Act} {w : World} {K : Act → World → Prop} {Q : Exit → Act → World → Prop} {E : Prop} (hgd : o.guard = none) (s y : Operand)
    (ho : o.op = .call { callee := .builtin .append, args := #[s, y], argTypes := #[36, 36] }) (B : Nat) (v : Value) (CL : List Cr) (x : Cr) (hs : a.eval s = v) (hown : w.ownsRow B 31 7 v CL.length (crRow CL))
    (g1 c : Nat) (hx : a.eval y = .slice (some ⟨g1, 0, none⟩) 1 c) (hn : Bk w g1 31 #[.int .i64 x.j, .int .i64 x.e, .int .i64 x.s, .int .i64 x.f, .int .i64 x.u, .slice x.A x.n x.cap, .int .i64 x.c]) (hl : CL.length ≤ 1000) (hB : B ≤ w.heap.size)
    (h : ∀ v' w', w'.ownsRow B 31 7 v' (CL ++ [x]).length (crRow (CL ++ [x])) → w.grownBy w' v.ownBlock → K (a.put o.dst v') w') : if Region.wanted o (yielded ops a.tmps) = true then Oper.wp Try.prog o a w K Q else E := by
  have hw : Region.wanted o (yielded ops a.tmps) = true := by simp [Region.wanted, hgd]
  rw [if_pos hw]
  obtain ⟨i, hi, hz0, hz1, hz2⟩ := info_parts info31
  refine wp_append_own w s y 36 ho B 31 i _ 7 72 Try.underlying36 hi hz0 hz1 hz2 rfl (by decide) v CL.length (crRow CL) hs hown ⟨g1, 0, none⟩ 1 c x.cs hx rfl ?_ ?_ ?_ ?_ hB ?_
  · intro j u hj
    have hadd : (⟨g1, 0, none⟩ : Addr).add j = ⟨g1, j, none⟩ := by unfold Addr.add; split <;> simp_all
    rw [hadd]
    exact hn.cell j u (by simpa using hj)
  · intro u hu
    simp at hu
    rcases hu with rfl | rfl | rfl | rfl | rfl | rfl | rfl <;> rfl
  · unfold maxLen; omega
  · omega
  · intro v' w' h1 h2 _
    exact h v' w' (by rw [crRow_snoc, List.length_append]; exact h1) h2
theorem apart_rows {V : World} {B B' n m : Nat} {a b : Value} {xs ys : List Value} (h1 : V.ownsRow B 31 7 a n xs) (h2 : V.ownsRow B' 63 2 b m ys) (g : Nat) (ha : a.ownBlock = some g) : b.ownBlock ≠ some g := by
  intro hb
  rcases h1.2 with ⟨rfl, _⟩ | ⟨g1, c1, cur1, rfl, _, k1, _⟩
  · cases ha
  · rcases h2.2 with ⟨rfl, _⟩ | ⟨g2, c2, cur2, rfl, _, k2, _⟩
    · cases hb
    · have e1 : g1 = g := by simpa [Value.ownBlock] using ha
      have e2 : g2 = g := by simpa [Value.ownBlock] using hb
      subst e1 e2
      rw [k1] at k2
      cases k2
/-- Behind the last append: its world, and what is known. -/
theorem ruse_last {w w5 w6 : World} {q : Nat} {most : Int} {sb sl v' : Value} {K : List Cr} {x : Cr} {T : List (Jb × Int)} {tmp : Obj} (st : RefAt w5 q most sl sb K T) (hg : w.grownBy w5 (some q)) (hfr : ∀ g, sl.ownBlock = some g → w.heap.size ≤ g) (h1 : w6.ownsRow (q + 1) 31 7 v' (K ++ [x]).length (crRow (K ++ [x]))) (h2 : (w5.drew.alloc tmp).grownBy w6 sl.ownBlock) :
    w6.frozen? ⟨q, 1, none⟩ = false ∧ w6.cell? ⟨q, 1, none⟩ = some sl ∧ RefAt (w6.setCell ⟨q, 1, none⟩ v') q most v' sb (K ++ [x]) T ∧ w.grownBy (w6.setCell ⟨q, 1, none⟩ v') (some q) := by
  have hql := st.blk.lt
  have hne : some q ≠ sl.ownBlock := by
    intro e
    have := (st.rl.lt q e.symm).1
    omega
  have b5 : Bk (w5.drew.alloc tmp) q 39 #[.int .i64 most, sl, sb] := (st.blk.drew).alloc _
  have b6 : Bk w6 q 39 #[.int .i64 most, sl, sb] := (h2.block q b5.lt hne).trans b5
  have rb6 : w6.ownsRow (q + 1) 63 2 sb T.length (tRow T) := ((st.rb.drew).alloc tmp).kept h2 (by
    cases hv : sb.ownBlock with
    | none => exact .inl rfl
    | some g => exact .inr (fun e => apart_rows st.rl st.rb g e.symm hv))
  refine ⟨b6.frozen 1, b6.cell 1 _ rfl, ⟨?_, ownsRow_setCell_below h1 (by simp) _, ownsRow_setCell_below rb6 (by simp) _, ?_⟩, ?_⟩
  · have := heap_setCell_same w6 q 1 _ 39 v' b6
    simpa [Bk] using this
  · exact apart_rows (ownsRow_setCell_below h1 (a := ⟨q, 1, none⟩) (by simp) v') (ownsRow_setCell_below rb6 (a := ⟨q, 1, none⟩) (by simp) v')
  · have g1 : w.grownBy (w5.drew.alloc tmp) (some q) := hg.andThen ⟨rfl, rfl, rfl, by simp, fun i hi _ => Below.heap_alloc w5.drew tmp i hi⟩ (row' := none) (fun j ej => by cases ej)
    have g2 : w.grownBy w6 (some q) := g1.andThen h2 (fun j ej => .inl (hfr j ej))
    exact g2.trans grown_set
theorem RefAt.below {V V' : World} {q : Nat} {most : Int} {sl sb : Value} {CL : List Cr} {T : List (Jb × Int)} {B : Nat} (h : RefAt V q most sl sb CL T) (hb : Below B V V') (hq : q < B) (hl : ∀ g, sl.ownBlock = some g → g < B) (ht : ∀ g, sb.ownBlock = some g → g < B) : RefAt V' q most sl sb CL T := by
  have keep : ∀ {e : TypeId} {m n : Nat} {v : Value} {xs : List Value}, V.ownsRow (q + 1) e m v n xs → (∀ g, v.ownBlock = some g → g < B) → V'.ownsRow (q + 1) e m v n xs := by
    intro e m n v xs hr hg
    refine ⟨hr.1, ?_⟩
    rcases hr.2 with h0 | ⟨g, cap, cur, h1, h2, h3, h4⟩
    · exact .inl h0
    · exact .inr ⟨g, cap, cur, h1, h2, (hb.block g (hg g (by rw [h1]; rfl))).trans h3, h4⟩
  exact ⟨h.blk.below hb hq, keep h.rl hl, keep h.rb ht, h.ap⟩
set_option maxRecDepth 100000 in
set_option maxHeartbeats 4000000 in
theorem ruse_replay {w : World} {q : Nat} {most : Int} {sl sb : Value} {CL : List Cr} {T : List (Jb × Int)} (h : RefAt w q most sl sb CL T) (x : Cr) (now : Int) (KC : ∀ V, Below w.heap.size w V → Calls Try.prog 20 #[.agg #[.int .i64 x.j, .int .i64 x.e, .int .i64 x.s, .int .i64 x.f, .int .i64 x.u, .slice x.A x.n x.cap, .int .i64 x.c]] V fun e w' => e = .returned (.int .i64 0) ∧ Below V.heap.size V w') (ht : ¬ x.u ≤ now)
    (KR : ∀ V, RefAt V q most sl sb CL T → Calls Try.prog 17 #[.pointer (some ⟨q, 0, none⟩), .agg #[.int .i64 x.j, .int .i64 x.e, .int .i64 x.s, .int .i64 x.f, .int .i64 x.u, .slice x.A x.n x.cap, .int .i64 x.c]] V fun e w' => e = .returned (.bool false) ∧ Below V.heap.size V w') (hL : CL.length ≤ 1000) (HKP : keptB (keepC now CL) x now = true) :
    Calls Try.prog 21 #[.pointer (some ⟨q, 0, none⟩), .agg #[.int .i64 x.j, .int .i64 x.e, .int .i64 x.s, .int .i64 x.f, .int .i64 x.u, .slice x.A x.n x.cap, .int .i64 x.c], .int .i64 now] w fun e w' => ∃ sl', e = .returned (.int .i64 10) ∧ RefAt w' q most sl' sb (keepC now CL) T ∧ w.grownBy w' (some q) := by
  replace KR := Lib.hid KR
  obtain ⟨i0, hi, hz0, hz1, hz2⟩ := info_parts info31
  have hqw := h.blk.lt
  have hsbw : ∀ g, sb.ownBlock = some g → g < w.heap.size := fun g hg => (h.rb.lt g hg).2
  have HSB := Lib.hid hsbw
  have HSL := Lib.hid (fun g (hg : sl.ownBlock = some g) => (h.rl.lt g hg).2)
  clear hsbw
  have st : Kt w (w.alloc (.cells #[.int .i64 x.j, .int .i64 x.e, .int .i64 x.s, .int .i64 x.f, .int .i64 x.u, .slice x.A x.n x.cap, .int .i64 x.c] 31)) #[.int .i64 x.j, .int .i64 x.e, .int .i64 x.s, .int .i64 x.f, .int .i64 x.u, .slice x.A x.n x.cap, .int .i64 x.c] q most sl sb CL T := ⟨Bk.new _ _ _, h.next (below_alloc _ _), below_alloc _ _⟩
  clear h
  replace KC := Lib.hid KC
  go_enter Try.func21, Try.ntmps21
  go_wp2_with fail
  refine (KC.out _ st.low).mono ?_
  rintro e w1 ⟨rfl, hb⟩
  replace st := st.next hb; clear hb KC
  obtain ⟨q0, q1, q2, q3, q4, q5, q6⟩ : w1.cell? ⟨w.heap.size, 0, none⟩ = some (.int .i64 x.j) ∧ w1.cell? ⟨w.heap.size, 1, none⟩ = some (.int .i64 x.e) ∧ w1.cell? ⟨w.heap.size, 2, none⟩ = some (.int .i64 x.s) ∧ w1.cell? ⟨w.heap.size, 3, none⟩ = some (.int .i64 x.f) ∧ w1.cell? ⟨w.heap.size, 4, none⟩ = some (.int .i64 x.u) ∧ w1.cell? ⟨w.heap.size, 5, none⟩ = some (.slice x.A x.n x.cap) ∧ w1.cell? ⟨w.heap.size, 6, none⟩ = some (.int .i64 x.c) := ⟨st.box.cell 0 _ rfl, st.box.cell 1 _ rfl, st.box.cell 2 _ rfl, st.box.cell 3 _ rfl, st.box.cell 4 _ rfl, st.box.cell 5 _ rfl, st.box.cell 6 _ rfl⟩
  go_wp2_with fail
  refine (KR.out _ st.ref).mono ?_
  clear q0 q1 q2 q3 q4 q5 q6
  rintro e w2 ⟨rfl, hb⟩
  replace st := st.next hb; clear hb KR
  obtain ⟨A0, cp0, hsl⟩ := own_form st.ref.rl
  have hw2 := st.box.lt
  go_wp2_with fail
  go_loopw [7, 8] (fun o i wr => ∃ k : Nat, k ≤ CL.length ∧ i = .int .i64 k ∧ Lp w wr w2.heap.size o #[.int .i64 x.j, .int .i64 x.e, .int .i64 x.s, .int .i64 x.f, .int .i64 x.u, .slice x.A x.n x.cap, .int .i64 x.c] q most sl sb CL (keepC now (CL.take k)) T) (fun _ i _ => CL.length - (intOf i).toNat)
  case atStart => exact ⟨0, Nat.zero_le _, rfl, ⟨st, World.ownsRow_nil _ _ _ _, ⟨hw2, Nat.le_refl _⟩⟩⟩
  case round =>
    clear st
    obtain ⟨k, hk, rfl, hlp⟩ := hrel
    obtain ⟨st, hrow, hB1, hB2⟩ := hlp
    have q1 : wr.cell? ⟨q, 1, none⟩ = some (.slice A0 CL.length cp0) := by rw [← hsl]; exact st.ref.blk.cell 1 _ rfl
    by_cases hlt : k < CL.length
    · obtain ⟨c, hc⟩ : ∃ c, CL[k]? = some c := ⟨_, List.getElem?_eq_getElem hlt⟩
      obtain ⟨g, cp, hs, hgl, d0, d1, d2, d3, d4, d5, d6⟩ := st.ref.at_ hc
      rw [hsl] at hs
      cases hs
      have HC := Lib.hid hc
      have HS := Lib.hid hsl
      clear hc hsl
      obtain ⟨A, cap, ho⟩ := own_form hrow
      subst ho
      by_cases hu : now < c.u
      · have hkl := keepC_length now CL k
        go_wp2_with (at_builtin; refine wpList_append_own _ rfl _ _ 36 rfl w2.heap.size 31 i0 _ 7 72 Try.underlying36 hi hz0 hz1 hz2 rfl (by decide) _ _ _ rfl (hrow.alloc _) ⟨wr.heap.size, 0, none⟩ 1 1 c.cs rfl rfl (cells_new wr #[.int .i64 c.j, .int .i64 c.e, .int .i64 c.s, .int .i64 c.f, .int .i64 c.u, .slice c.A c.n c.cap, .int .i64 c.c] 31) (by simp [Value.oneCell']) (by unfold maxLen; omega) (by omega) (by simp; omega) ?_; intro v' w3 hown' hgrow _)
        have hb1 := appended_below hrow hB2 hgrow
        have hsz := hgrow.size
        simp only [size_alloc] at hsz
        go_roundw
        case rel => exact ⟨k + 1, by omega, by go_num, ⟨⟨st.box.below hb1 hB1, st.ref.below hb1 (by omega) (fun g hg => by have := HSL.out g hg; omega) (fun g hg => by have := HSB.out g hg; omega), st.low.trans (hb1.mono (by omega))⟩, by rw [keepC_snoc_in HC.out hu, crRow_snoc, List.length_append]; exact hown', ⟨hB1, by omega⟩⟩⟩
        case measure => simp [intOf]; omega
      · go_wp2_with fail
        go_roundw
        case rel => exact ⟨k + 1, by omega, by go_num, ⟨st, by rw [keepC_snoc_out HC.out hu]; exact hrow, ⟨hB1, hB2⟩⟩⟩
        case measure => simp [intOf]; omega
    · have hkk : k = CL.length := by omega
      rw [hkk, List.take_length] at hrow
      clear hkk
      obtain ⟨A, cap, ho⟩ := own_form hrow
      rw [ho] at hrow
      subst ho
      have f1 := st.ref.blk.frozen 1
      have HFR := Lib.hid (fun g (hg : (Value.slice A (keepC now CL).length cap).ownBlock = some g) => (show w.heap.size ≤ g from by have := (hrow.lt g hg).1; omega))
      have st2 := st.ref.setL hrow (by omega) (fun g hg hg' => by have := (hrow.lt g hg).1; have := HSB.out g hg'; omega)
      have hg2 : w.grownBy (wr.setCell ⟨q, 1, none⟩ (.slice A (keepC now CL).length cap)) (some q) := ((only_of_below st.low).but _).trans grown_set
      have bx2 : Bk (wr.setCell ⟨q, 1, none⟩ (.slice A (keepC now CL).length cap)) w.heap.size 31 #[.int .i64 x.j, .int .i64 x.e, .int .i64 x.s, .int .i64 x.f, .int .i64 x.u, .slice x.A x.n x.cap, .int .i64 x.c] := (heap_setCell_other wr ⟨q, 1, none⟩ w.heap.size _ (by simp; omega)).trans st.box
      have KK := Lib.hid (kept_any st2 x now (Nat.le_trans (keepC_len _ _) hL))
      rw [HKP] at KK
      have b0 := bx2.cell 0 _ rfl
      have b1 := bx2.cell 1 _ rfl
      have b2 := bx2.cell 2 _ rfl
      have b3 := bx2.cell 3 _ rfl
      have b4 := bx2.cell 4 _ rfl
      have b5 := bx2.cell 5 _ rfl
      have b6 := bx2.cell 6 _ rfl
      clear hrow
      go_wp2_with fail
      clear b0 b1 b2 b3 b4 b5 b6
      refine KK.out.mono ?_
      rintro e w4 ⟨rfl, hb⟩
      replace st2 := st2.next hb; replace bx2 := bx2.next hb; replace hg2 := hg2.trans ((only_of_below hb).but _)
      clear hb KK st f1 q1
      go_wp2_with fail
      go_ret
      exact ⟨_, rfl, st2, hg2⟩
set_option maxRecDepth 100000 in
set_option maxHeartbeats 4000000 in
theorem ruse_full {w : World} {q : Nat} {most : Int} {sl sb : Value} {CL : List Cr} {T : List (Jb × Int)} (h : RefAt w q most sl sb CL T) (x : Cr) (now : Int) (KC : ∀ V, Below w.heap.size w V → Calls Try.prog 20 #[.agg #[.int .i64 x.j, .int .i64 x.e, .int .i64 x.s, .int .i64 x.f, .int .i64 x.u, .slice x.A x.n x.cap, .int .i64 x.c]] V fun e w' => e = .returned (.int .i64 0) ∧ Below V.heap.size V w') (ht : ¬ x.u ≤ now)
    (KR : ∀ V, RefAt V q most sl sb CL T → Calls Try.prog 17 #[.pointer (some ⟨q, 0, none⟩), .agg #[.int .i64 x.j, .int .i64 x.e, .int .i64 x.s, .int .i64 x.f, .int .i64 x.u, .slice x.A x.n x.cap, .int .i64 x.c]] V fun e w' => e = .returned (.bool false) ∧ Below V.heap.size V w') (hL : CL.length ≤ 1000) (HKP : keptB (keepC now CL) x now = false) (hmm : ((keepC now CL).length : Int) = most) :
    Calls Try.prog 21 #[.pointer (some ⟨q, 0, none⟩), .agg #[.int .i64 x.j, .int .i64 x.e, .int .i64 x.s, .int .i64 x.f, .int .i64 x.u, .slice x.A x.n x.cap, .int .i64 x.c], .int .i64 now] w fun e w' => ∃ sl', e = .returned (.int .i64 6) ∧ RefAt w' q most sl' sb (keepC now CL) T ∧ w.grownBy w' (some q) := by
  replace KR := Lib.hid KR
  obtain ⟨i0, hi, hz0, hz1, hz2⟩ := info_parts info31
  have hqw := h.blk.lt
  have hsbw : ∀ g, sb.ownBlock = some g → g < w.heap.size := fun g hg => (h.rb.lt g hg).2
  have HSB := Lib.hid hsbw
  have HSL := Lib.hid (fun g (hg : sl.ownBlock = some g) => (h.rl.lt g hg).2)
  clear hsbw
  have st : Kt w (w.alloc (.cells #[.int .i64 x.j, .int .i64 x.e, .int .i64 x.s, .int .i64 x.f, .int .i64 x.u, .slice x.A x.n x.cap, .int .i64 x.c] 31)) #[.int .i64 x.j, .int .i64 x.e, .int .i64 x.s, .int .i64 x.f, .int .i64 x.u, .slice x.A x.n x.cap, .int .i64 x.c] q most sl sb CL T := ⟨Bk.new _ _ _, h.next (below_alloc _ _), below_alloc _ _⟩
  clear h
  replace KC := Lib.hid KC
  go_enter Try.func21, Try.ntmps21
  go_wp2_with fail
  refine (KC.out _ st.low).mono ?_
  rintro e w1 ⟨rfl, hb⟩
  replace st := st.next hb; clear hb KC
  obtain ⟨q0, q1, q2, q3, q4, q5, q6⟩ : w1.cell? ⟨w.heap.size, 0, none⟩ = some (.int .i64 x.j) ∧ w1.cell? ⟨w.heap.size, 1, none⟩ = some (.int .i64 x.e) ∧ w1.cell? ⟨w.heap.size, 2, none⟩ = some (.int .i64 x.s) ∧ w1.cell? ⟨w.heap.size, 3, none⟩ = some (.int .i64 x.f) ∧ w1.cell? ⟨w.heap.size, 4, none⟩ = some (.int .i64 x.u) ∧ w1.cell? ⟨w.heap.size, 5, none⟩ = some (.slice x.A x.n x.cap) ∧ w1.cell? ⟨w.heap.size, 6, none⟩ = some (.int .i64 x.c) := ⟨st.box.cell 0 _ rfl, st.box.cell 1 _ rfl, st.box.cell 2 _ rfl, st.box.cell 3 _ rfl, st.box.cell 4 _ rfl, st.box.cell 5 _ rfl, st.box.cell 6 _ rfl⟩
  go_wp2_with fail
  refine (KR.out _ st.ref).mono ?_
  clear q0 q1 q2 q3 q4 q5 q6
  rintro e w2 ⟨rfl, hb⟩
  replace st := st.next hb; clear hb KR
  obtain ⟨A0, cp0, hsl⟩ := own_form st.ref.rl
  have hw2 := st.box.lt
  go_wp2_with fail
  go_loopw [7, 8] (fun o i wr => ∃ k : Nat, k ≤ CL.length ∧ i = .int .i64 k ∧ Lp w wr w2.heap.size o #[.int .i64 x.j, .int .i64 x.e, .int .i64 x.s, .int .i64 x.f, .int .i64 x.u, .slice x.A x.n x.cap, .int .i64 x.c] q most sl sb CL (keepC now (CL.take k)) T) (fun _ i _ => CL.length - (intOf i).toNat)
  case atStart => exact ⟨0, Nat.zero_le _, rfl, ⟨st, World.ownsRow_nil _ _ _ _, ⟨hw2, Nat.le_refl _⟩⟩⟩
  case round =>
    clear st
    obtain ⟨k, hk, rfl, hlp⟩ := hrel
    obtain ⟨st, hrow, hB1, hB2⟩ := hlp
    have q1 : wr.cell? ⟨q, 1, none⟩ = some (.slice A0 CL.length cp0) := by rw [← hsl]; exact st.ref.blk.cell 1 _ rfl
    by_cases hlt : k < CL.length
    · obtain ⟨c, hc⟩ : ∃ c, CL[k]? = some c := ⟨_, List.getElem?_eq_getElem hlt⟩
      obtain ⟨g, cp, hs, hgl, d0, d1, d2, d3, d4, d5, d6⟩ := st.ref.at_ hc
      rw [hsl] at hs
      cases hs
      have HC := Lib.hid hc
      have HS := Lib.hid hsl
      clear hc hsl
      obtain ⟨A, cap, ho⟩ := own_form hrow
      subst ho
      by_cases hu : now < c.u
      · have hkl := keepC_length now CL k
        go_wp2_with (at_builtin; refine wpList_append_own _ rfl _ _ 36 rfl w2.heap.size 31 i0 _ 7 72 Try.underlying36 hi hz0 hz1 hz2 rfl (by decide) _ _ _ rfl (hrow.alloc _) ⟨wr.heap.size, 0, none⟩ 1 1 c.cs rfl rfl (cells_new wr #[.int .i64 c.j, .int .i64 c.e, .int .i64 c.s, .int .i64 c.f, .int .i64 c.u, .slice c.A c.n c.cap, .int .i64 c.c] 31) (by simp [Value.oneCell']) (by unfold maxLen; omega) (by omega) (by simp; omega) ?_; intro v' w3 hown' hgrow _)
        have hb1 := appended_below hrow hB2 hgrow
        have hsz := hgrow.size
        simp only [size_alloc] at hsz
        go_roundw
        case rel => exact ⟨k + 1, by omega, by go_num, ⟨⟨st.box.below hb1 hB1, st.ref.below hb1 (by omega) (fun g hg => by have := HSL.out g hg; omega) (fun g hg => by have := HSB.out g hg; omega), st.low.trans (hb1.mono (by omega))⟩, by rw [keepC_snoc_in HC.out hu, crRow_snoc, List.length_append]; exact hown', ⟨hB1, by omega⟩⟩⟩
        case measure => simp [intOf]; omega
      · go_wp2_with fail
        go_roundw
        case rel => exact ⟨k + 1, by omega, by go_num, ⟨st, by rw [keepC_snoc_out HC.out hu]; exact hrow, ⟨hB1, hB2⟩⟩⟩
        case measure => simp [intOf]; omega
    · have hkk : k = CL.length := by omega
      rw [hkk, List.take_length] at hrow
      clear hkk
      obtain ⟨A, cap, ho⟩ := own_form hrow
      rw [ho] at hrow
      subst ho
      have f1 := st.ref.blk.frozen 1
      have HFR := Lib.hid (fun g (hg : (Value.slice A (keepC now CL).length cap).ownBlock = some g) => (show w.heap.size ≤ g from by have := (hrow.lt g hg).1; omega))
      have st2 := st.ref.setL hrow (by omega) (fun g hg hg' => by have := (hrow.lt g hg).1; have := HSB.out g hg'; omega)
      have hg2 : w.grownBy (wr.setCell ⟨q, 1, none⟩ (.slice A (keepC now CL).length cap)) (some q) := ((only_of_below st.low).but _).trans grown_set
      have bx2 : Bk (wr.setCell ⟨q, 1, none⟩ (.slice A (keepC now CL).length cap)) w.heap.size 31 #[.int .i64 x.j, .int .i64 x.e, .int .i64 x.s, .int .i64 x.f, .int .i64 x.u, .slice x.A x.n x.cap, .int .i64 x.c] := (heap_setCell_other wr ⟨q, 1, none⟩ w.heap.size _ (by simp; omega)).trans st.box
      have KK := Lib.hid (kept_any st2 x now (Nat.le_trans (keepC_len _ _) hL))
      rw [HKP] at KK
      have b0 := bx2.cell 0 _ rfl
      have b1 := bx2.cell 1 _ rfl
      have b2 := bx2.cell 2 _ rfl
      have b3 := bx2.cell 3 _ rfl
      have b4 := bx2.cell 4 _ rfl
      have b5 := bx2.cell 5 _ rfl
      have b6 := bx2.cell 6 _ rfl
      clear hrow
      go_wp2_with fail
      clear b0 b1 b2 b3 b4 b5 b6
      refine KK.out.mono ?_
      rintro e w4 ⟨rfl, hb⟩
      replace st2 := st2.next hb; replace bx2 := bx2.next hb; replace hg2 := hg2.trans ((only_of_below hb).but _)
      clear hb KK st f1 q1
      have tm : (((keepC now CL).length : Int) == most) = true := by simpa using hmm
      clear hmm
      go_wp2_with fail
      have c0 := st2.blk.cell 0 _ rfl
      have c1 := st2.blk.cell 1 _ rfl
      go_quiet (fail)
      replace st2 : RefAt (w4.drewN nq) q most _ sb (keepC now CL) T := ⟨st2.blk, st2.rl, st2.rb, st2.ap⟩
      replace bx2 : Bk (w4.drewN nq) w.heap.size 31 #[.int .i64 x.j, .int .i64 x.e, .int .i64 x.s, .int .i64 x.f, .int .i64 x.u, .slice x.A x.n x.cap, .int .i64 x.c] := bx2
      replace hg2 : w.grownBy (w4.drewN nq) (some q) := ⟨hg2.os, hg2.tape, hg2.output, hg2.size, hg2.block⟩
      generalize w4.drewN nq = w5 at *
      clear c0 c1
      go_wp2_with fail
      go_ret
      exact ⟨_, rfl, st2, hg2⟩
set_option maxRecDepth 100000 in
set_option maxHeartbeats 4000000 in
theorem ruse_ok {w : World} {q : Nat} {most : Int} {sl sb : Value} {CL : List Cr} {T : List (Jb × Int)} (h : RefAt w q most sl sb CL T) (x : Cr) (now : Int) (KC : ∀ V, Below w.heap.size w V → Calls Try.prog 20 #[.agg #[.int .i64 x.j, .int .i64 x.e, .int .i64 x.s, .int .i64 x.f, .int .i64 x.u, .slice x.A x.n x.cap, .int .i64 x.c]] V fun e w' => e = .returned (.int .i64 0) ∧ Below V.heap.size V w') (ht : ¬ x.u ≤ now)
    (KR : ∀ V, RefAt V q most sl sb CL T → Calls Try.prog 17 #[.pointer (some ⟨q, 0, none⟩), .agg #[.int .i64 x.j, .int .i64 x.e, .int .i64 x.s, .int .i64 x.f, .int .i64 x.u, .slice x.A x.n x.cap, .int .i64 x.c]] V fun e w' => e = .returned (.bool false) ∧ Below V.heap.size V w') (hL : CL.length ≤ 1000) (HKP : keptB (keepC now CL) x now = false) (hmm : ((keepC now CL).length : Int) ≠ most) :
    Calls Try.prog 21 #[.pointer (some ⟨q, 0, none⟩), .agg #[.int .i64 x.j, .int .i64 x.e, .int .i64 x.s, .int .i64 x.f, .int .i64 x.u, .slice x.A x.n x.cap, .int .i64 x.c], .int .i64 now] w fun e w' => ∃ sl', e = .returned (.int .i64 0) ∧ RefAt w' q most sl' sb (keepC now CL ++ [x]) T ∧ w.grownBy w' (some q) := by
  replace KR := Lib.hid KR
  obtain ⟨i0, hi, hz0, hz1, hz2⟩ := info_parts info31
  have hqw := h.blk.lt
  have hsbw : ∀ g, sb.ownBlock = some g → g < w.heap.size := fun g hg => (h.rb.lt g hg).2
  have HSB := Lib.hid hsbw
  have HSL := Lib.hid (fun g (hg : sl.ownBlock = some g) => (h.rl.lt g hg).2)
  clear hsbw
  have st : Kt w (w.alloc (.cells #[.int .i64 x.j, .int .i64 x.e, .int .i64 x.s, .int .i64 x.f, .int .i64 x.u, .slice x.A x.n x.cap, .int .i64 x.c] 31)) #[.int .i64 x.j, .int .i64 x.e, .int .i64 x.s, .int .i64 x.f, .int .i64 x.u, .slice x.A x.n x.cap, .int .i64 x.c] q most sl sb CL T := ⟨Bk.new _ _ _, h.next (below_alloc _ _), below_alloc _ _⟩
  clear h
  replace KC := Lib.hid KC
  go_enter Try.func21, Try.ntmps21
  go_wp2_with fail
  refine (KC.out _ st.low).mono ?_
  rintro e w1 ⟨rfl, hb⟩
  replace st := st.next hb; clear hb KC
  obtain ⟨q0, q1, q2, q3, q4, q5, q6⟩ : w1.cell? ⟨w.heap.size, 0, none⟩ = some (.int .i64 x.j) ∧ w1.cell? ⟨w.heap.size, 1, none⟩ = some (.int .i64 x.e) ∧ w1.cell? ⟨w.heap.size, 2, none⟩ = some (.int .i64 x.s) ∧ w1.cell? ⟨w.heap.size, 3, none⟩ = some (.int .i64 x.f) ∧ w1.cell? ⟨w.heap.size, 4, none⟩ = some (.int .i64 x.u) ∧ w1.cell? ⟨w.heap.size, 5, none⟩ = some (.slice x.A x.n x.cap) ∧ w1.cell? ⟨w.heap.size, 6, none⟩ = some (.int .i64 x.c) := ⟨st.box.cell 0 _ rfl, st.box.cell 1 _ rfl, st.box.cell 2 _ rfl, st.box.cell 3 _ rfl, st.box.cell 4 _ rfl, st.box.cell 5 _ rfl, st.box.cell 6 _ rfl⟩
  go_wp2_with fail
  refine (KR.out _ st.ref).mono ?_
  clear q0 q1 q2 q3 q4 q5 q6
  rintro e w2 ⟨rfl, hb⟩
  replace st := st.next hb; clear hb KR
  obtain ⟨A0, cp0, hsl⟩ := own_form st.ref.rl
  have hw2 := st.box.lt
  go_wp2_with fail
  go_loopw [7, 8] (fun o i wr => ∃ k : Nat, k ≤ CL.length ∧ i = .int .i64 k ∧ Lp w wr w2.heap.size o #[.int .i64 x.j, .int .i64 x.e, .int .i64 x.s, .int .i64 x.f, .int .i64 x.u, .slice x.A x.n x.cap, .int .i64 x.c] q most sl sb CL (keepC now (CL.take k)) T) (fun _ i _ => CL.length - (intOf i).toNat)
  case atStart => exact ⟨0, Nat.zero_le _, rfl, ⟨st, World.ownsRow_nil _ _ _ _, ⟨hw2, Nat.le_refl _⟩⟩⟩
  case round =>
    clear st
    obtain ⟨k, hk, rfl, hlp⟩ := hrel
    obtain ⟨st, hrow, hB1, hB2⟩ := hlp
    have q1 : wr.cell? ⟨q, 1, none⟩ = some (.slice A0 CL.length cp0) := by rw [← hsl]; exact st.ref.blk.cell 1 _ rfl
    by_cases hlt : k < CL.length
    · obtain ⟨c, hc⟩ : ∃ c, CL[k]? = some c := ⟨_, List.getElem?_eq_getElem hlt⟩
      obtain ⟨g, cp, hs, hgl, d0, d1, d2, d3, d4, d5, d6⟩ := st.ref.at_ hc
      rw [hsl] at hs
      cases hs
      have HC := Lib.hid hc
      have HS := Lib.hid hsl
      clear hc hsl
      obtain ⟨A, cap, ho⟩ := own_form hrow
      subst ho
      by_cases hu : now < c.u
      · have hkl := keepC_length now CL k
        go_wp2_with (at_builtin; refine wpList_append_own _ rfl _ _ 36 rfl w2.heap.size 31 i0 _ 7 72 Try.underlying36 hi hz0 hz1 hz2 rfl (by decide) _ _ _ rfl (hrow.alloc _) ⟨wr.heap.size, 0, none⟩ 1 1 c.cs rfl rfl (cells_new wr #[.int .i64 c.j, .int .i64 c.e, .int .i64 c.s, .int .i64 c.f, .int .i64 c.u, .slice c.A c.n c.cap, .int .i64 c.c] 31) (by simp [Value.oneCell']) (by unfold maxLen; omega) (by omega) (by simp; omega) ?_; intro v' w3 hown' hgrow _)
        have hb1 := appended_below hrow hB2 hgrow
        have hsz := hgrow.size
        simp only [size_alloc] at hsz
        go_roundw
        case rel => exact ⟨k + 1, by omega, by go_num, ⟨⟨st.box.below hb1 hB1, st.ref.below hb1 (by omega) (fun g hg => by have := HSL.out g hg; omega) (fun g hg => by have := HSB.out g hg; omega), st.low.trans (hb1.mono (by omega))⟩, by rw [keepC_snoc_in HC.out hu, crRow_snoc, List.length_append]; exact hown', ⟨hB1, by omega⟩⟩⟩
        case measure => simp [intOf]; omega
      · go_wp2_with fail
        go_roundw
        case rel => exact ⟨k + 1, by omega, by go_num, ⟨st, by rw [keepC_snoc_out HC.out hu]; exact hrow, ⟨hB1, hB2⟩⟩⟩
        case measure => simp [intOf]; omega
    · have hkk : k = CL.length := by omega
      rw [hkk, List.take_length] at hrow
      clear hkk
      obtain ⟨A, cap, ho⟩ := own_form hrow
      rw [ho] at hrow
      subst ho
      have f1 := st.ref.blk.frozen 1
      have HFR := Lib.hid (fun g (hg : (Value.slice A (keepC now CL).length cap).ownBlock = some g) => (show w.heap.size ≤ g from by have := (hrow.lt g hg).1; omega))
      have st2 := st.ref.setL hrow (by omega) (fun g hg hg' => by have := (hrow.lt g hg).1; have := HSB.out g hg'; omega)
      have hg2 : w.grownBy (wr.setCell ⟨q, 1, none⟩ (.slice A (keepC now CL).length cap)) (some q) := ((only_of_below st.low).but _).trans grown_set
      have bx2 : Bk (wr.setCell ⟨q, 1, none⟩ (.slice A (keepC now CL).length cap)) w.heap.size 31 #[.int .i64 x.j, .int .i64 x.e, .int .i64 x.s, .int .i64 x.f, .int .i64 x.u, .slice x.A x.n x.cap, .int .i64 x.c] := (heap_setCell_other wr ⟨q, 1, none⟩ w.heap.size _ (by simp; omega)).trans st.box
      have KK := Lib.hid (kept_any st2 x now (Nat.le_trans (keepC_len _ _) hL))
      rw [HKP] at KK
      have b0 := bx2.cell 0 _ rfl
      have b1 := bx2.cell 1 _ rfl
      have b2 := bx2.cell 2 _ rfl
      have b3 := bx2.cell 3 _ rfl
      have b4 := bx2.cell 4 _ rfl
      have b5 := bx2.cell 5 _ rfl
      have b6 := bx2.cell 6 _ rfl
      clear hrow
      go_wp2_with fail
      clear b0 b1 b2 b3 b4 b5 b6
      refine KK.out.mono ?_
      rintro e w4 ⟨rfl, hb⟩
      replace st2 := st2.next hb; replace bx2 := bx2.next hb; replace hg2 := hg2.trans ((only_of_below hb).but _)
      clear hb KK st f1 q1
      have tm : (((keepC now CL).length : Int) == most) = false := by simpa using hmm
      clear hmm
      go_wp2_with fail
      have c0 := st2.blk.cell 0 _ rfl
      have c1 := st2.blk.cell 1 _ rfl
      go_quiet (fail)
      replace st2 : RefAt (w4.drewN nq) q most _ sb (keepC now CL) T := ⟨st2.blk, st2.rl, st2.rb, st2.ap⟩
      replace bx2 : Bk (w4.drewN nq) w.heap.size 31 #[.int .i64 x.j, .int .i64 x.e, .int .i64 x.s, .int .i64 x.f, .int .i64 x.u, .slice x.A x.n x.cap, .int .i64 x.c] := bx2
      replace hg2 : w.grownBy (w4.drewN nq) (some q) := ⟨hg2.os, hg2.tape, hg2.output, hg2.size, hg2.block⟩
      generalize w4.drewN nq = w5 at *
      clear c0 c1
      go_wp2_with fail
      have c1 := st2.blk.cell 1 _ rfl
      have f1 := st2.blk.frozen 1
      have b0 := bx2.cell 0 _ rfl
      have b1 := bx2.cell 1 _ rfl
      have b2 := bx2.cell 2 _ rfl
      have b3 := bx2.cell 3 _ rfl
      have b4 := bx2.cell 4 _ rfl
      have b5 := bx2.cell 5 _ rfl
      have b6 := bx2.cell 6 _ rfl
      have hkl := keepC_len now CL
      have hq5 := st2.blk.lt
      have HNX := Lib.hid (fun v' w6 (h1 : w6.ownsRow (q + 1) 31 7 v' (keepC now CL ++ [x]).length (crRow (keepC now CL ++ [x]))) (h2 : (w5.drew.alloc (.cells #[.int .i64 x.j, .int .i64 x.e, .int .i64 x.s, .int .i64 x.f, .int .i64 x.u, .slice x.A x.n x.cap, .int .i64 x.c] 31)).grownBy w6 (Value.slice A (keepC now CL).length cap).ownBlock) => ruse_last st2 hg2 HFR.out h1 h2)
      go_region_law (first | (refine app_cr rfl (.tmp 70) (.tmp 72) rfl (q + 1) _ (keepC now CL) x rfl ((st2.rl.drew).alloc _) w5.heap.size 1 rfl (Bk.new _ _ _) (by omega) (by simp; omega) ?_; intro v' w6 hown' hgr'; obtain ⟨z1, z2, z3, z4⟩ := HNX.out v' w6 hown' hgr'; obtain ⟨A', cap', rfl⟩ := own_form hown'))
      all_goals
        go_wp2_with fail
        go_ret
        rw [show (keepC now CL ++ [x]).length = (keepC now CL).length + 1 from by simp] at z3 z4
        exact ⟨_, rfl, z3, z4⟩
end Go.Proofs.Ytiokpflciagdoaa
