/- LadderGrace, walked. -/
import Derived.Test.YtinbaepligploaaA4
namespace Go.Proofs.Ytinbaepligploaa
open Go.RowKit Go.Shelf

/-- The document's plan and run, boxed, and the program's. -/
structure Fo (w V : World) (a b x y : Nat) (l wn g k f c : Int) : Prop where
  ba : Bk V a 49 #[.int .i64 l, .int .i64 wn, .int .i64 g, .int .i64 k]
  bb : Bk V b 51 #[.int .i64 f, .int .i64 c]
  bx : Bk V x 53 #[.int .i64 l, .int .i64 wn, .int .i64 g, .int .i64 k]
  by_ : Bk V y 54 #[.int .i64 f, .int .i64 c]
  low : Below w.heap.size w V
section
variable {w V V' : World} {a b x y : Nat} {l wn g k f c : Int}
theorem Fo.next (h : Fo w V a b x y l wn g k f c) (hb : Below V.heap.size V V') : Fo w V' a b x y l wn g k f c := ⟨h.ba.next hb, h.bb.next hb, h.bx.next hb, h.by_.next hb, bmore h.low hb⟩
theorem Fo.cells (h : Fo w V a b x y l wn g k f c) : (V.cell? ⟨a, 0, none⟩ = some (.int .i64 l) ∧ V.cell? ⟨a, 1, none⟩ = some (.int .i64 wn) ∧ V.cell? ⟨a, 2, none⟩ = some (.int .i64 g) ∧ V.cell? ⟨a, 3, none⟩ = some (.int .i64 k)) ∧ (V.cell? ⟨b, 0, none⟩ = some (.int .i64 f) ∧ V.cell? ⟨b, 1, none⟩ = some (.int .i64 c)) ∧ (V.cell? ⟨x, 0, none⟩ = some (.int .i64 l) ∧ V.cell? ⟨x, 1, none⟩ = some (.int .i64 wn) ∧ V.cell? ⟨x, 2, none⟩ = some (.int .i64 g) ∧ V.cell? ⟨x, 3, none⟩ = some (.int .i64 k)) ∧ V.cell? ⟨y, 0, none⟩ = some (.int .i64 f) ∧ V.cell? ⟨y, 1, none⟩ = some (.int .i64 c) :=
  ⟨⟨h.ba.cell 0 _ rfl, h.ba.cell 1 _ rfl, h.ba.cell 2 _ rfl, h.ba.cell 3 _ rfl⟩, ⟨h.bb.cell 0 _ rfl, h.bb.cell 1 _ rfl⟩, ⟨h.bx.cell 0 _ rfl, h.bx.cell 1 _ rfl, h.bx.cell 2 _ rfl, h.bx.cell 3 _ rfl⟩, h.by_.cell 0 _ rfl, h.by_.cell 1 _ rfl⟩
end
/-- The two boxes at the start. -/
structure Tw (w V : World) (a b : Nat) (l wn g k f c : Int) : Prop where
  ba : Bk V a 49 #[.int .i64 l, .int .i64 wn, .int .i64 g, .int .i64 k]
  bb : Bk V b 51 #[.int .i64 f, .int .i64 c]
  low : Below w.heap.size w V
theorem Tw.next {w V V' : World} {a b : Nat} {l wn g k f c : Int} (h : Tw w V a b l wn g k f c) (hb : Below V.heap.size V V') : Tw w V' a b l wn g k f c := ⟨h.ba.next hb, h.bb.next hb, bmore h.low hb⟩
theorem Tw.new (w : World) (l wn g k f c : Int) : Tw w ((w.alloc (.cells #[.int .i64 l, .int .i64 wn, .int .i64 g, .int .i64 k] 49)).alloc (.cells #[.int .i64 f, .int .i64 c] 51)) w.heap.size (w.heap.size + 1) l wn g k f c := by
  refine ⟨(Bk.new _ _ _).alloc _, ?_, (below_alloc _ _).alloc (by simp) _⟩
  have := Bk.new (w.alloc (.cells #[.int .i64 l, .int .i64 wn, .int .i64 g, .int .i64 k] 49)) 51 #[.int .i64 f, .int .i64 c]
  rw [size_alloc] at this
  exact this
theorem Tw.more {w V : World} {a b : Nat} {l wn g k f c : Int} (h : Tw w V a b l wn g k f c) : Fo w ((V.alloc (.cells #[.int .i64 l, .int .i64 wn, .int .i64 g, .int .i64 k] 53)).alloc (.cells #[.int .i64 f, .int .i64 c] 54)) a b V.heap.size (V.heap.size + 1) l wn g k f c := by
  have h1 := below_alloc V (.cells #[.int .i64 l, .int .i64 wn, .int .i64 g, .int .i64 k] 53)
  have h2 := below_alloc (V.alloc (.cells #[.int .i64 l, .int .i64 wn, .int .i64 g, .int .i64 k] 53)) (.cells #[.int .i64 f, .int .i64 c] 54)
  have h3 := (h.next h1).next h2
  refine ⟨h3.ba, h3.bb, (Bk.new _ _ _).alloc _, ?_, h3.low⟩
  have := Bk.new (V.alloc (.cells #[.int .i64 l, .int .i64 wn, .int .i64 g, .int .i64 k] 53)) 54 #[.int .i64 f, .int .i64 c]
  rw [size_alloc] at this
  exact this

/-- The rungs of what may be. -/
theorem rungs_ok {l wn g k f c : Int} (h : mayB l wn g k f c = true) : ∃ m n, rungE l wn g k f c = (f, m, n, n + g, n + g + k) ∧ endE l wn g k f c = n ∧ f ≤ m ∧ m ≤ n ∧ n ≤ f + l ∧ (∀ now, stageE l wn g k f c now = if n + g + k ≤ now then 4 else if n + g ≤ now then 3 else if n ≤ now then 2 else if m ≤ now then 1 else if f ≤ now then 0 else -1) := by
  obtain ⟨⟨h1, h2⟩, ⟨h3, h4⟩, ⟨h5, h6⟩, ⟨h7, h8⟩, ⟨h9, h10⟩, h11⟩ := may_iff.1 h
  obtain ⟨h12, h13⟩ := end_range h
  have e1 : rungE l wn g k f c = rungV l wn g k f c := by unfold rungE; rw [if_pos h]
  have e2 : endE l wn g k f c = endV l f c := by unfold endE; rw [if_pos h]
  refine ⟨min (f + l - wn) (endV l f c), endV l f c, e1, e2, by omega, by omega, h13, fun now => ?_⟩
  unfold stageE
  rw [if_pos h, e1]
  exact stageOf5 _ _ _ _ _ _
theorem may_free {l wn g k f c : Int} (h : mayB l wn g k f c = true) : endE l wn g k f (-1) = f + l := by
  have h2 := may_iff.1 h
  have : mayB l wn g k f (-1) = true := may_iff.2 ⟨h2.1, h2.2.1, h2.2.2.1, h2.2.2.2.1, h2.2.2.2.2.1, .inl rfl⟩
  unfold endE
  rw [if_pos this]
  rfl

set_option maxRecDepth 100000 in
set_option maxHeartbeats 4000000 in
theorem grace_any (l wn g k f c : Int) (w : World) : Calls Try.prog 10 #[.agg #[.int .i64 l, .int .i64 wn, .int .i64 g, .int .i64 k], .agg #[.int .i64 f, .int .i64 c]] w fun x w' => x = .returned (.bool true) ∧ Below w.heap.size w w' := by
  have tw := Tw.new w l wn g k f c
  go_enter Try.func10, Try.ntmps10
  go_wp2_with fail
  refine (own_any _ _ _ _ _ _ _).mono ?_
  rintro x w1 ⟨rfl, hb⟩
  have st := (tw.next hb).more
  clear tw hb
  go_wp2_with fail
  refine (end_any _ _ _ _ _ _ _).mono ?_
  rintro x w2 ⟨rfl, hb⟩
  replace st := st.next hb
  clear hb
  obtain ⟨⟨a0, a1, a2, a3⟩, ⟨b0, b1⟩, ⟨x0, x1, x2, x3⟩, y0, y1⟩ := st.cells
  cases q : mayB l wn g k f c
  · rw [show endE l wn g k f c = -1 from by unfold endE; rw [q]; rfl]
    clear q
    go_wp2_with fail
    refine (live_any _).mono ?_
    rintro x w3 ⟨rfl, hb⟩
    go_wp2_with fail
    go_ret
    exact ⟨rfl, bmore st.low hb⟩
  obtain ⟨⟨h1, h2⟩, ⟨h3, h4⟩, ⟨h5, h6⟩, ⟨h7, h8⟩, ⟨h9, h10⟩, h11⟩ := may_iff.1 q
  clear h11
  obtain ⟨m, n, e1, e2, r1, r2, r3, HS⟩ := rungs_ok q
  rw [e2]
  have K1 := Lib.hid (rungs_any l wn g k f c)
  rw [e1] at K1
  have K2 := Lib.hid (end_any l wn g k f (-1))
  rw [may_free q] at K2
  have K3 := Lib.hid (show ∀ V : World, Calls Try.prog 32 #[.agg #[.int .i64 l, .int .i64 wn, .int .i64 g, .int .i64 k], .agg #[.int .i64 f, .int .i64 c], .int .i64 n] V fun x w' => ∃ s, x = .returned (.int .i64 s) ∧ 2 ≤ s ∧ Below V.heap.size V w' from fun V => (stage_any l wn g k f c n V).mono fun x w' ⟨h, h'⟩ => ⟨_, h, by rw [HS]; (repeat' split) <;> omega, h'⟩)
  have K4 := Lib.hid (show g ≠ 0 → ∀ V : World, Calls Try.prog 32 #[.agg #[.int .i64 l, .int .i64 wn, .int .i64 g, .int .i64 k], .agg #[.int .i64 f, .int .i64 c], .int .i64 (n + g - 1)] V fun x w' => x = .returned (.int .i64 2) ∧ Below V.heap.size V w' from fun hg V => (stage_any l wn g k f c (n + g - 1) V).mono fun x w' ⟨h, h'⟩ => ⟨by rw [h, HS, if_neg (by omega), if_neg (by omega), if_pos (by omega)], h'⟩)
  have K5 := Lib.hid (show ∀ V : World, Calls Try.prog 32 #[.agg #[.int .i64 l, .int .i64 wn, .int .i64 g, .int .i64 k], .agg #[.int .i64 f, .int .i64 c], .int .i64 (n + g + k)] V fun x w' => x = .returned (.int .i64 4) ∧ Below V.heap.size V w' from fun V => (stage_any l wn g k f c (n + g + k) V).mono fun x w' ⟨h, h'⟩ => ⟨by rw [h, HS, if_pos (by omega)], h'⟩)
  clear q e1 e2 HS
  have lb := below_alloc w2 (.cells #[.int .i64 f, .int .i64 (-1)] 54)
  have kz := Bk.new w2 54 #[.int .i64 f, .int .i64 (-1)]
  replace st := st.next lb
  clear lb
  obtain ⟨-, -, ⟨x0', x1', x2', x3'⟩, y0', y1'⟩ := st.cells
  go_wp2_with fail
  refine (K1.out _).mono ?_
  rintro x w3 ⟨rfl, hb⟩
  have lb := below_alloc w3 (.cells #[.int .i64 f, .int .i64 m, .int .i64 n, .int .i64 (n + g), .int .i64 (n + g + k)] 57)
  have ka := Bk.new w3 57 #[.int .i64 f, .int .i64 m, .int .i64 n, .int .i64 (n + g), .int .i64 (n + g + k)]
  replace st := (st.next hb).next lb
  replace kz := (kz.next hb).next lb
  clear x0' x1' x2' x3' y0' y1'
  clear lb hb K1 a0 a1 a2 a3 b0 b1 x0 x1 x2 x3 y0 y1
  obtain ⟨⟨a0, a1, a2, a3⟩, ⟨b0, b1⟩, ⟨x0, x1, x2, x3⟩, y0, y1⟩ := st.cells
  have z0 := kz.cell 0 _ rfl
  have z1 := kz.cell 1 _ rfl
  have t1 : (n + g - n != g) = false := by simp; omega
  have t2 : (n + g + k - (n + g) != k) = false := by simp; omega
  go_wp2_with fail
  refine (K2.out _).mono ?_
  rintro x w4 ⟨rfl, hb⟩
  replace st := st.next hb
  replace ka := ka.next hb
  clear hb K2 a0 a1 a2 a3 b0 b1 x0 x1 x2 x3 y0 y1 z0 z1 kz
  obtain ⟨⟨a0, a1, a2, a3⟩, ⟨b0, b1⟩, ⟨x0, x1, x2, x3⟩, y0, y1⟩ := st.cells
  obtain ⟨d0, d1, d2, d3, d4⟩ := ret5 ka
  go_wp2_with fail
  refine (K3.out _).mono ?_
  rintro x w5 ⟨s, rfl, hs, hb⟩
  replace st := st.next hb
  clear hb K3 a0 a1 a2 a3 b0 b1 x0 x1 x2 x3 y0 y1 d0 d1 d2 d3 d4 ka
  obtain ⟨⟨a0, a1, a2, a3⟩, ⟨b0, b1⟩, ⟨x0, x1, x2, x3⟩, y0, y1⟩ := st.cells
  by_cases hg : g = 0
  · have t3 : (g == 0) = true := by simpa using hg
    clear hg K4
    go_wp2_with fail
    refine (K5.out _).mono ?_
    rintro x w6 ⟨rfl, hb⟩
    replace st := st.next hb
    clear hb K5 a0 a1 a2 a3 b0 b1 x0 x1 x2 x3 y0 y1
    go_wp2_with fail
    refine (live_any _).mono ?_
    rintro x w7 ⟨rfl, hb⟩
    go_wp2_with fail
    go_ret
    exact ⟨rfl, bmore st.low hb⟩
  · have t3 : (g == 0) = false := by simpa using hg
    have K4' := Lib.hid (K4.out hg)
    clear K4 hg
    go_wp2_with fail
    refine (K4'.out _).mono ?_
    rintro x w6 ⟨rfl, hb⟩
    replace st := st.next hb
    clear hb K4' a0 a1 a2 a3 b0 b1 x0 x1 x2 x3 y0 y1
    obtain ⟨⟨a0, a1, a2, a3⟩, ⟨b0, b1⟩, ⟨x0, x1, x2, x3⟩, y0, y1⟩ := st.cells
    go_wp2_with fail
    refine (K5.out _).mono ?_
    rintro x w7 ⟨rfl, hb⟩
    replace st := st.next hb
    clear hb K5 a0 a1 a2 a3 b0 b1 x0 x1 x2 x3 y0 y1
    go_wp2_with fail
    refine (live_any _).mono ?_
    rintro x w8 ⟨rfl, hb⟩
    go_wp2_with fail
    go_ret
    exact ⟨rfl, bmore st.low hb⟩
end Go.Proofs.Ytinbaepligploaa
