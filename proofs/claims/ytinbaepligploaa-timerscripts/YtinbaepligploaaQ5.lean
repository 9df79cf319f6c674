/- Push and Pop of the line; heap's Push, Pop, Fix, Remove. -/
import Derived.Test.YtinbaepligploaaQ4
import Derived.Deep.RegionWith
namespace Go.Proofs.Ytinbaepligploaa
open Go.RowKit Go.Shelf

theorem info77 : (Try.prog.info? 77).map (fun i => (i.zero, i.size, i.bytes)) = some (some (.agg #[.int .i64 0, .int .i64 0]), 2, 16) := by kernel_rfl
theorem dRow_snoc (L : List Dl) (d : Dl) : dRow (L ++ [d]) = dRow L ++ [.int .i64 d.1, .int .i64 d.2] := by simp [dRow]
theorem assert_two (x : Value) (V : World) : Sem.run Try.prog (Instr.typeAssert (.iface 77 x) 20 77 true) V = .ok (.tuple #[x, .bool true]) V := by kernel_rfl
theorem assert_one (x : Value) (V : World) : Sem.run Try.prog (Instr.typeAssert (.iface 77 x) 20 77 false) V = .ok x V := by kernel_rfl
attribute [local go_sem] assert_two assert_one
/-- An append of one deadline, inside a region that draws. -/
theorem app_d {ops : Array Oper} {o : Oper} {a : Act} {w : World} {K : Act → World → Prop} {Q : Exit → Act → World → Prop} {E : Prop} (hgd : o.guard = none) (s y : Operand)
    (ho : o.op = .call { callee := .builtin .append, args := #[s, y], argTypes := #[72, 72] }) (B : Nat) (v : Value) (L : List Dl) (d : Dl) (hs : a.eval s = v) (hown : w.ownsRow B 77 2 v L.length (dRow L))
    (g1 c : Nat) (hx : a.eval y = .slice (some ⟨g1, 0, none⟩) 1 c) (hn : Bk w g1 77 #[.int .i64 d.1, .int .i64 d.2]) (hl : L.length ≤ 1000) (hB : B ≤ w.heap.size)
    (h : ∀ v' w', w'.ownsRow B 77 2 v' (L ++ [d]).length (dRow (L ++ [d])) → w.grownBy w' v.ownBlock → K (a.put o.dst v') w') : if Region.wanted o (yielded ops a.tmps) = true then Oper.wp Try.prog o a w K Q else E := by
  have hw : Region.wanted o (yielded ops a.tmps) = true := by simp [Region.wanted, hgd]
  rw [if_pos hw]
  obtain ⟨i, hi, hz0, hz1, hz2⟩ := info_parts info77
  refine wp_append_own w s y 72 ho B 77 i _ 2 16 Try.underlying72 hi hz0 hz1 hz2 rfl (by decide) v L.length (dRow L) hs hown ⟨g1, 0, none⟩ 1 c [.int .i64 d.1, .int .i64 d.2] hx rfl ?_ ?_ ?_ ?_ hB ?_
  · intro j u hj
    have hadd : (⟨g1, 0, none⟩ : Addr).add j = ⟨g1, j, none⟩ := by unfold Addr.add; split <;> simp_all
    rw [hadd]
    exact hn.cell j u (by simpa using hj)
  · intro u hu
    simp at hu
    rcases hu with rfl | rfl <;> rfl
  · unfold maxLen; omega
  · omega
  · intro v' w' h1 h2 _
    exact h v' w' (by rw [dRow_snoc, List.length_append]; exact h1) h2
theorem own_drew {w : World} {base size n : Nat} {e : TypeId} {v : Value} {xs : List Value} (h : w.ownsRow base e size v n xs) : w.drew.ownsRow base e size v n xs := h
theorem QAt.drew {V : World} {p : Nat} {v : Value} {L : List Dl} (h : QAt V p v L) : QAt V.drew p v L := ⟨h.blk, h.row⟩
theorem row_ne {V : World} {p : Nat} {v : Value} {L : List Dl} (h : Row V p v L) : some p ≠ v.ownBlock := by
  intro e
  rcases h.2 with ⟨rfl, _⟩ | ⟨g, cap, cur, rfl, hb, _⟩
  · cases e
  · have : p = g := by simpa [Value.ownBlock] using e
    omega
/-- The slice laid down anew. -/
theorem push_last {V w6 : World} {p : Nat} {v v' : Value} {L L' : List Dl} (h : QAt V p v L) (h1 : Row w6 p v' L') (h2 : V.grownBy w6 v.ownBlock) :
    w6.cell? ⟨p, 0, none⟩ = some v ∧ w6.frozen? ⟨p, 0, none⟩ = false ∧ QAt (w6.setCell ⟨p, 0, none⟩ v') p v' L' ∧ Tr p V (w6.setCell ⟨p, 0, none⟩ v') := by
  have hk : Bk w6 p 74 #[v] := (h2.block p h.blk.lt (row_ne h.row)).trans h.blk
  refine ⟨hk.cell 0 _ rfl, hk.frozen 0, ⟨by simpa using hk.set 0 v', ?_⟩, (Tr.of_row h2 h.row).trans (Tr.of_grown grown_set)⟩
  exact ownsRow_setCell_below h1 (by simp) _
set_option maxRecDepth 100000 in
set_option maxHeartbeats 4000000 in
theorem lpush_any {V : World} {p : Nat} {v : Value} {L : List Dl} (h : QAt V p v L) (d : Dl) (hm : L.length ≤ 1000) :
    Calls Try.prog 80 #[.pointer (some ⟨p, 0, none⟩), .iface 77 (.agg #[.int .i64 d.1, .int .i64 d.2])] V fun x V' => (∃ u, x = .returned u) ∧ ∃ v', QAt V' p v' (L ++ [d]) ∧ Tr p V V' := by
  obtain ⟨A, cap, rfl⟩ := own_form h.row
  have hlt := h.lt
  have h1 := h.next (below_alloc V (.cells #[.int .i64 d.1, .int .i64 d.2] 77))
  have kb := Bk.new V 77 #[.int .i64 d.1, .int .i64 d.2]
  have c0 := h1.blk.cell 0 _ rfl
  have b0 := kb.cell 0 _ rfl
  have b1 := kb.cell 1 _ rfl
  go_enter Try.func80, Try.ntmps80
  go_wp2_with fail
  generalize hW : V.alloc (.cells #[.int .i64 d.1, .int .i64 d.2] 77) = W at *
  have h2 := h1.drew.next (below_alloc W.drew (.cells #[.int .i64 d.1, .int .i64 d.2] 77))
  have HNX := Lib.hid (fun v' w6 (q1 : w6.ownsRow (p + 1) 77 2 v' (L ++ [d]).length (dRow (L ++ [d]))) (q2 : (W.drew.alloc (.cells #[.int .i64 d.1, .int .i64 d.2] 77)).grownBy w6 (Value.slice A L.length cap).ownBlock) => push_last h2 q1 q2)
  have HT : Hid (Tr p V (W.drew.alloc (.cells #[.int .i64 d.1, .int .i64 d.2] 77))) := Lib.hid (by
    rw [← hW]
    exact Tr.of_below (((below_alloc V _).drew).alloc (by simp) _))
  have hsz : p < W.heap.size := by rw [← hW]; simp; omega
  clear hW
  go_region_law (first | (refine app_d rfl (.tmp 15) (.tmp 17) rfl (p + 1) _ L d rfl ((own_drew h1.row).alloc _) W.heap.size 1 rfl (Bk.new _ _ _) (by omega) (by simp; omega) ?_; intro v' w6 hown' hgr'; obtain ⟨z1, z2, z3, z4⟩ := HNX.out v' w6 hown' hgr'; obtain ⟨A', cap', rfl⟩ := own_form hown'))
  all_goals
    go_wp2_with fail
    go_end0
    rw [show (L ++ [d]).length = L.length + 1 from by simp] at z3 z4
    exact ⟨⟨_, rfl⟩, _, z3, HT.out.trans z4⟩

theorem dRow_take (L : List Dl) (d : Dl) : (dRow (L ++ [d])).take (L.length * 2) = dRow L := by
  rw [dRow_snoc, List.take_append_of_le_length (by rw [dRow_len]; omega), List.take_of_length_le (by rw [dRow_len]; omega)]
/-- The slice, shorter by one. -/
theorem row_short {V : World} {p g cap m : Nat} {L : List Dl} {d : Dl} (h : Row V p (.slice (some ⟨g, 0, none⟩) (m + 1) cap) (L ++ [d])) (hm : L.length = m) : Row V p (.slice (some ⟨g, 0, none⟩) m cap) L := by
  subst hm
  rcases h.2 with ⟨e, _⟩ | ⟨g', cap', cur, e, hb, hg, hc, hx, hs, ht⟩
  · cases e
  · injection e with e1 e2 e3
    injection e1 with e1
    injection e1 with e1
    subst e1 e3
    refine ⟨dRow_len L, .inr ⟨g, cap, cur, rfl, hb, hg, by simp at hc; omega, hx, hs, ?_⟩⟩
    rw [← dRow_take L d, ← ht, List.take_take]
    congr 1
    simp
set_option maxRecDepth 100000 in
set_option maxHeartbeats 4000000 in
theorem lpop_any {V : World} {p g cap m : Nat} {L : List Dl} {d : Dl} (h : QAt V p (.slice (some ⟨g, 0, none⟩) (m + 1) cap) (L ++ [d])) (hl : L.length = m) (hm : m ≤ 1000) :
    Calls Try.prog 79 #[.pointer (some ⟨p, 0, none⟩)] V fun x V' => x = .returned (.iface 77 (.agg #[.int .i64 d.1, .int .i64 d.2])) ∧ QAt V' p (.slice (some ⟨g, 0, none⟩) m cap) L ∧ Tr p V V' := by
  have hr := Lib.hid (row_short h.row hl)
  obtain ⟨g', cap', e, hpg, d0, d1, -, hcap, -⟩ := row_at h.row (k := m) (by simp; omega)
  injection e with e1 e2 e3
  injection e1 with e1
  injection e1 with e1
  subst e1 e3
  have e4 : nt (L ++ [d]) m = d := by
    subst hl
    simp [nt, List.getD]
  rw [e4] at d0 d1
  have c0 := h.blk.cell 0 _ rfl
  have hb := below_alloc V (.cells #[.int .i64 d.1, .int .i64 d.2] 77)
  have h1 := h.next hb
  have c1 := h1.blk.cell 0 _ rfl
  have f1 := h1.blk.frozen 0
  have HP : Hid (p < V.heap.size) := Lib.hid h.lt
  have hcap2 : m + 1 ≤ cap := by simp at hcap; omega
  have HB := Lib.hid h1.blk
  have HR := Lib.hid (ownsRow_setCell_below (own_next hr.out hb) (show (⟨p, 0, none⟩ : Addr).block < p + 1 by simp) (.slice (some ⟨g, 0, none⟩) m cap))
  have HT := Lib.hid ((Tr.of_below (p := p) hb).trans (Tr.of_grown (grown_set (i := 0) (v := .slice (some ⟨g, 0, none⟩) m cap))))
  have kb : Bk ((V.alloc (.cells #[.int .i64 d.1, .int .i64 d.2] 77)).setCell ⟨p, 0, none⟩ (.slice (some ⟨g, 0, none⟩) m cap)) V.heap.size 77 #[.int .i64 d.1, .int .i64 d.2] := (heap_setCell_other _ ⟨p, 0, none⟩ V.heap.size _ (by have := h.lt; simp; omega)).trans (Bk.new V 77 #[.int .i64 d.1, .int .i64 d.2])
  have b0 := kb.cell 0 _ rfl
  have b1 := kb.cell 1 _ rfl
  clear h h1 hr hb e4 hcap e2 hl kb
  go_enter Try.func79, Try.ntmps79
  go_wp2_with fail
  go_ret
  exact ⟨rfl, ⟨by simpa using HB.out.set 0 (.slice (some ⟨g, 0, none⟩) m cap), HR.out⟩, HT.out⟩

/-- A queue whose line is a heap. -/
def HQ (V : World) (p : Nat) (L : List Dl) : Prop := (∃ v, QAt V p v L) ∧ Heap L.length L
theorem HQ.next {V V' : World} {p : Nat} {L : List Dl} (h : HQ V p L) (hb : Below V.heap.size V V') : HQ V' p L := by
  obtain ⟨⟨v, hv⟩, hh⟩ := h
  exact ⟨⟨v, hv.next hb⟩, hh⟩
theorem In.tr {p g cap n : Nat} {L L' : List Dl} {V wr : World} (h : In p g cap n L V wr L') (h0 : QAt V p (.slice (some ⟨g, 0, none⟩) L.length cap) L) : Tr p V wr := Tr.of_row (L := L) (v := .slice (some ⟨g, 0, none⟩) L.length cap) h.gr h0.row
set_option maxRecDepth 100000 in
set_option maxHeartbeats 4000000 in
theorem push_any {V : World} {p : Nat} {L : List Dl} (h : HQ V p L) (d : Dl) (hm : L.length ≤ 900) :
    Calls Try.prog 43 #[ifc p, .iface 77 (.agg #[.int .i64 d.1, .int .i64 d.2])] V fun x V' => (∃ u, x = .returned u) ∧ ∃ L', HQ V' p L' ∧ L'.Perm (L ++ [d]) ∧ Tr p V V' := by
  obtain ⟨⟨v, hv⟩, hh⟩ := h
  have K := Lib.hid (lpush_any hv d (by omega))
  replace hh := Lib.hid hh
  clear hv
  go_enter Try.func43, Try.ntmps43
  go_wp2_with fail
  refine K.out.mono ?_
  rintro x w1 ⟨⟨u, rfl⟩, v', hq, ht⟩
  clear K
  obtain ⟨g, cap, rfl⟩ := ownsRow_succ (k := L.length) (by have := hq.row; unfold Row at this; rw [List.length_append] at this; exact this)
  have c0 := hq.blk.cell 0 _ rfl
  have ml := meth_len c0
  have hq' : QAt w1 p (.slice (some ⟨g, 0, none⟩) (L ++ [d]).length cap) (L ++ [d]) := by rw [List.length_append]; exact hq
  have K := Lib.hid (up_any hq' (L.length + 1) L.length (by omega) (by simp) (by simp; omega) (hh.out.snoc rfl d))
  clear hq
  go_wp2_with fail
  refine (len_any _ _ _ _).mono ?_
  rintro x w2 ⟨rfl, rfl⟩
  go_wp2_with fail
  refine K.out.mono ?_
  rintro x w3 ⟨⟨u2, rfl⟩, L', hin, hp⟩
  go_wp2_with fail
  go_end0
  refine ⟨⟨_, rfl⟩, L', ⟨⟨_, hin.q⟩, ?_⟩, hin.perm, ht.trans (hin.tr hq')⟩
  rw [hin.len]
  simpa using hp
end Go.Proofs.Ytinbaepligploaa
