/- tally: what a node says. -/
import Derived.Test.YtodgkjmkjahkiaaT3
namespace Go.Proofs.Ytodgkjmkjahkiaa
open Go.RowKit Go.Maps

set_option maxRecDepth 100000 in
set_option maxHeartbeats 2000000 in
theorem sayB_has {w : World} {b k : Nat} {V : List En} (h : MpAt w b k 4 V) {n : Int} {x : En} {z : Bool} (hx : lk V n = some x) (hv : x.v = .bool z) (y m : Bool) :
    Calls Try.prog 64 #[.map (some b), .int .i64 n, .bool y, .bool m] w fun e w' => e = .returned (.int .i64 (if z == y then 0 else 14)) ∧ Below w.heap.size w w' := by
  have hb := below_alloc w (.cells #[.bool y] 4)
  obtain ⟨hm, hn⟩ := lk_mem hx
  have h1 := h.next hb
  have kb := Bk.new w 4 #[.bool y]
  have hl := h1.look Try.underlying67 zero85 (n := n) (by rw [← hn]; exact h.wfs x hm)
  rw [hx] at hl
  simp only [Option.map_some, ptV] at hl
  have kc := h1.cells x hm
  rw [hv] at kc
  have hB := Lib.hid hb
  have HC := Lib.hid kc
  have HKB := Lib.hid kb
  clear h h1 hx hm hv hb kc kb
  go_enter Try.func64, Try.ntmps64
  go_wp2
  generalize hg : w.heap.size = g at *
  generalize w.alloc (.cells #[.bool y] 4) = W at *
  have hIn := inNonempty W.heap.size W
  have c0 := In.cell (B := W.heap.size) (p := ⟨x.b, 0, none⟩) HC.out.lt (HC.out.cell 0 _ rfl)
  have c1 := In.cell (B := W.heap.size) (p := ⟨g, 0, none⟩) HKB.out.lt (HKB.out.cell 0 _ rfl)
  refine region_in W.heap.size (by kernel_rfl) (by kernel_rfl) ?_
  repeat (go_big_quiet_step (fail))
  refine wpQuiet_nil ?_
  intro w2 hb2
  clear c0 c1 hIn
  subst hg
  cases hzy : (z == y)
  all_goals
    go_wp2
    all_goals
      go_ret
      exact ⟨by first | rfl | simp_all, bmore hB.out hb2⟩
set_option maxRecDepth 100000 in
set_option maxHeartbeats 2000000 in
theorem sayB_no {w : World} {b k : Nat} {V : List En} (h : MpAt w b k 4 V) {n : Int} (hw : wf n) (hx : lk V n = none) (y : Bool) :
    Calls Try.prog 64 #[.map (some b), .int .i64 n, .bool y, .bool false] w fun e w' => e = .returned (.int .i64 14) ∧ Below w.heap.size w w' := by
  have hb := below_alloc w (.cells #[.bool y] 4)
  have hl := (h.next hb).look Try.underlying67 zero85 (n := n) hw
  rw [hx] at hl
  simp only [Option.map_none, ptV] at hl
  have hB := Lib.hid hb
  clear h hx hb
  go_enter Try.func64, Try.ntmps64
  go_wp2
  generalize hg : w.heap.size = g at *
  generalize w.alloc (.cells #[.bool y] 4) = W at *
  have hIn := inNonempty W.heap.size W
  refine region_in W.heap.size (by kernel_rfl) (by kernel_rfl) ?_
  repeat (go_big_quiet_step (fail))
  refine wpQuiet_nil ?_
  intro w2 hb2
  clear hIn
  subst hg
  go_wp2
  go_ret
  exact ⟨rfl, bmore hB.out hb2⟩
/-- One more has said something. -/
theorem MpAt.put {w w' : World} {b k k' : Nat} {t : TypeId} {V : List En} (h : MpAt w b k t V) {e : En} (hw : wf e.n) (hx : lk V e.n = none) (kb : Bk w e.b t #[e.v]) {D D' : DataW Unit} (hS : Says D rdP (fun n => (lk V n).map (fun x => some x.b))) (hD : D' = D.put (ky e.n) (rdP (some e.b))) (ho : w'.ownsMap Try.prog 3 ptE b k' D') (hg : w.grownBy w' (some b)) : MpAt w' b k' t (V ++ [e]) := by
  subst hD
  refine ⟨⟨_, ho, (hS.put e.n (some e.b) ho.isMap).congr fun n => ?_⟩, fun x hx2 => ?_, ?_, fun x hx2 => ?_⟩
  · rw [lk_snoc hx]
    by_cases q : n = e.n
    · rw [if_pos q, if_pos q]; rfl
    · rw [if_neg q, if_neg q]
  · rcases List.mem_append.1 hx2 with q | q
    · exact (h.cells x q).grown hg (h.ne (h.cells x q))
    · have q : x = e := by simpa using q
      subst q
      exact kb.grown hg (h.ne kb)
  · rw [List.pairwise_append]
    refine ⟨h.up, List.pairwise_singleton _ _, fun a ha c hc => ?_⟩
    have hc : c = e := by simpa using hc
    subst hc
    exact lk_none.1 hx a ha
  · rcases List.mem_append.1 hx2 with q | q
    · exact h.wfs x q
    · have q : x = e := by simpa using q
      subst q
      exact hw
set_option maxRecDepth 100000 in
set_option maxHeartbeats 2000000 in
theorem sayB_put {w : World} {b k : Nat} {V : List En} (h : MpAt w b k 4 V) (hk : k ≤ 1000) {n : Int} (hw : wf n) (hx : lk V n = none) (y : Bool) :
    Calls Try.prog 64 #[.map (some b), .int .i64 n, .bool y, .bool true] w fun e w' => e = .returned (.int .i64 0) ∧ ∃ w1, Below w.heap.size w w1 ∧ MpAt w1 b k 4 V ∧ w1.grownBy w' (some b) ∧ MpAt w' b (k + 1) 4 (V ++ [⟨n, .bool y, w.heap.size⟩]) := by
  have hb := below_alloc w (.cells #[.bool y] 4)
  have h1 := Lib.hid (h.next hb)
  have kb := Lib.hid (Bk.new w 4 #[.bool y])
  have hl := h1.out.look Try.underlying67 zero85 (n := n) hw
  rw [hx] at hl
  simp only [Option.map_none, ptV] at hl
  have hB := Lib.hid hb
  have HX := Lib.hid hx
  clear h hx hb
  go_enter Try.func64, Try.ntmps64
  go_wp2
  generalize hg : w.heap.size = g at *
  generalize w.alloc (.cells #[.bool y] 4) = W at *
  have hIn := inNonempty W.heap.size W
  refine region_in W.heap.size (by kernel_rfl) (by kernel_rfl) ?_
  repeat (go_big_quiet_step (fail))
  refine wpQuiet_nil ?_
  intro w2 hb2
  clear hIn hl
  have h2 := h1.out.next hb2
  have kb2 := Lib.hid (kb.out.next hb2)
  have H2 := Lib.hid h2
  have hb3 := Lib.hid (bmore (by subst hg; exact hB.out) hb2)
  obtain ⟨D, ho, hS⟩ := h2.own
  have HS := Lib.hid hS
  clear h2 hS hb2
  go_wp2_with (at_mapUpdate; refine wpList_mapUpdate_own _ rfl _ _ _ 67 rfl 3 85 law3 Try.underlying67 _ b k D rfl ho (by unfold maxLen; omega) _ _ _ rfl rfl (key_of hw) (rdP (some g)) [] (ptE_mk (some g)) ?_; intro w6 ho6 hg6)
  go_ret
  subst hg
  exact ⟨rfl, w2, hb3.out, H2.out, hg6, H2.out.put (e := ⟨n, .bool y, w.heap.size⟩) hw HX.out kb2.out HS.out rfl ho6 hg6⟩
set_option maxRecDepth 100000 in
set_option maxHeartbeats 2000000 in
theorem sayI_has {w : World} {b k : Nat} {V : List En} (h : MpAt w b k 3 V) {n : Int} {x : En} {z : Int} (hx : lk V n = some x) (hv : x.v = .int .i64 z) (y : Int) (m : Bool) :
    Calls Try.prog 65 #[.map (some b), .int .i64 n, .int .i64 y, .bool m] w fun e w' => e = .returned (.int .i64 (if z == y then 0 else 14)) ∧ Below w.heap.size w w' := by
  have hb := below_alloc w (.cells #[.int .i64 y] 3)
  obtain ⟨hm, hn⟩ := lk_mem hx
  have h1 := h.next hb
  have kb := Bk.new w 3 #[.int .i64 y]
  have hl := h1.look Try.underlying68 zero74 (n := n) (by rw [← hn]; exact h.wfs x hm)
  rw [hx] at hl
  simp only [Option.map_some, ptV] at hl
  have kc := h1.cells x hm
  rw [hv] at kc
  have hB := Lib.hid hb
  have HC := Lib.hid kc
  have HKB := Lib.hid kb
  clear h h1 hx hm hv hb kc kb
  go_enter Try.func65, Try.ntmps65
  go_wp2
  generalize hg : w.heap.size = g at *
  generalize w.alloc (.cells #[.int .i64 y] 3) = W at *
  have hIn := inNonempty W.heap.size W
  have c0 := In.cell (B := W.heap.size) (p := ⟨x.b, 0, none⟩) HC.out.lt (HC.out.cell 0 _ rfl)
  have c1 := In.cell (B := W.heap.size) (p := ⟨g, 0, none⟩) HKB.out.lt (HKB.out.cell 0 _ rfl)
  refine region_in W.heap.size (by kernel_rfl) (by kernel_rfl) ?_
  repeat (go_big_quiet_step (fail))
  refine wpQuiet_nil ?_
  intro w2 hb2
  clear c0 c1 hIn
  subst hg
  cases hzy : (z == y)
  all_goals
    go_wp2
    all_goals
      go_ret
      exact ⟨by first | rfl | simp_all, bmore hB.out hb2⟩
set_option maxRecDepth 100000 in
set_option maxHeartbeats 2000000 in
theorem sayI_no {w : World} {b k : Nat} {V : List En} (h : MpAt w b k 3 V) {n : Int} (hw : wf n) (hx : lk V n = none) (y : Int) :
    Calls Try.prog 65 #[.map (some b), .int .i64 n, .int .i64 y, .bool false] w fun e w' => e = .returned (.int .i64 14) ∧ Below w.heap.size w w' := by
  have hb := below_alloc w (.cells #[.int .i64 y] 3)
  have hl := (h.next hb).look Try.underlying68 zero74 (n := n) hw
  rw [hx] at hl
  simp only [Option.map_none, ptV] at hl
  have hB := Lib.hid hb
  clear h hx hb
  go_enter Try.func65, Try.ntmps65
  go_wp2
  generalize hg : w.heap.size = g at *
  generalize w.alloc (.cells #[.int .i64 y] 3) = W at *
  have hIn := inNonempty W.heap.size W
  refine region_in W.heap.size (by kernel_rfl) (by kernel_rfl) ?_
  repeat (go_big_quiet_step (fail))
  refine wpQuiet_nil ?_
  intro w2 hb2
  clear hIn
  subst hg
  go_wp2
  go_ret
  exact ⟨rfl, bmore hB.out hb2⟩
set_option maxRecDepth 100000 in
set_option maxHeartbeats 2000000 in
theorem sayI_put {w : World} {b k : Nat} {V : List En} (h : MpAt w b k 3 V) (hk : k ≤ 1000) {n : Int} (hw : wf n) (hx : lk V n = none) (y : Int) :
    Calls Try.prog 65 #[.map (some b), .int .i64 n, .int .i64 y, .bool true] w fun e w' => e = .returned (.int .i64 0) ∧ ∃ w1, Below w.heap.size w w1 ∧ MpAt w1 b k 3 V ∧ w1.grownBy w' (some b) ∧ MpAt w' b (k + 1) 3 (V ++ [⟨n, .int .i64 y, w.heap.size⟩]) := by
  have hb := below_alloc w (.cells #[.int .i64 y] 3)
  have h1 := Lib.hid (h.next hb)
  have kb := Lib.hid (Bk.new w 3 #[.int .i64 y])
  have hl := h1.out.look Try.underlying68 zero74 (n := n) hw
  rw [hx] at hl
  simp only [Option.map_none, ptV] at hl
  have hB := Lib.hid hb
  have HX := Lib.hid hx
  clear h hx hb
  go_enter Try.func65, Try.ntmps65
  go_wp2
  generalize hg : w.heap.size = g at *
  generalize w.alloc (.cells #[.int .i64 y] 3) = W at *
  have hIn := inNonempty W.heap.size W
  refine region_in W.heap.size (by kernel_rfl) (by kernel_rfl) ?_
  repeat (go_big_quiet_step (fail))
  refine wpQuiet_nil ?_
  intro w2 hb2
  clear hIn hl
  have h2 := h1.out.next hb2
  have kb2 := Lib.hid (kb.out.next hb2)
  have H2 := Lib.hid h2
  have hb3 := Lib.hid (bmore (by subst hg; exact hB.out) hb2)
  obtain ⟨D, ho, hS⟩ := h2.own
  have HS := Lib.hid hS
  clear h2 hS hb2
  go_wp2_with (at_mapUpdate; refine wpList_mapUpdate_own _ rfl _ _ _ 68 rfl 3 74 law3 Try.underlying68 _ b k D rfl ho (by unfold maxLen; omega) _ _ _ rfl rfl (key_of hw) (rdP (some g)) [] (ptE_mk (some g)) ?_; intro w6 ho6 hg6)
  go_ret
  subst hg
  exact ⟨rfl, w2, hb3.out, H2.out, hg6, H2.out.put (e := ⟨n, .int .i64 y, w.heap.size⟩) hw HX.out kb2.out HS.out rfl ho6 hg6⟩
end Go.Proofs.Ytodgkjmkjahkiaa
