/- The digest: Of. -/
import Derived.Test.YtalknjokamfggaaDoorW7
namespace Go.Proofs.YtalknjokamfggaaDoor
open Go.RowKit

/-- The digest's bytes, as Of reckons them. -/
def ofL (s : ByteArray) : List Nat :=
  bo (Sh.mixs (Sh.mixs Sh.H0 (Sh.bl (s.extract 0 (s.size - s.size % 64))) ((s.extract 0 (s.size - s.size % 64)).size / 64))
    (Sh.bl (s.extract (s.size - s.size % 64) s.size ++ Sh.str (pad s.size 8))) ((s.extract (s.size - s.size % 64) s.size ++ Sh.str (pad s.size 8)).size / 64)) 32

theorem mixAll_H0 (s : ByteArray) (w : World) (G : Glob w) (hs : s.size ≤ maxLen) :
    Calls Tryd.prog 16 #[.agg #[.int .u32 1779033703, .int .u32 3144134277, .int .u32 1013904242, .int .u32 2773480762, .int .u32 1359893119, .int .u32 2600822924, .int .u32 528734635, .int .u32 1541459225], .string s] w
      fun e w' => e = .returned (.agg (vs .u32 (Sh.mixs Sh.H0 (Sh.bl s) (s.size / 64)))) ∧ Below w.heap.size w w' :=
  mixAll_any Sh.H0 s w G rfl Sh.H0_words hs

theorem Glob.cells {w : World} (G : Glob w) : w.cell? ⟨0, 0, none⟩ = some (.int .u32 1779033703) ∧ w.cell? ⟨0, 1, none⟩ = some (.int .u32 3144134277) ∧ w.cell? ⟨0, 2, none⟩ = some (.int .u32 1013904242) ∧ w.cell? ⟨0, 3, none⟩ = some (.int .u32 2773480762) ∧
    w.cell? ⟨0, 4, none⟩ = some (.int .u32 1359893119) ∧ w.cell? ⟨0, 5, none⟩ = some (.int .u32 2600822924) ∧ w.cell? ⟨0, 6, none⟩ = some (.int .u32 528734635) ∧ w.cell? ⟨0, 7, none⟩ = some (.int .u32 1541459225) := by
  obtain ⟨t, fr, e⟩ := G.st
  refine ⟨?_, ?_, ?_, ?_, ?_, ?_, ?_, ?_⟩ <;> rw [cell_of_row w 0 _ _ t fr e] <;> rfl

/-- Block g has eight cells, none of them frozen. -/
def Blk (w : World) (g : Nat) : Prop := ∃ cs t, w.heap[g]? = some (.cells cs t (0, 0)) ∧ cs.size = 8
theorem Blk.below {B g : Nat} {w w' : World} (h : Blk w g) (hb : Below B w w') (hg : g < B) : Blk w' g := by
  obtain ⟨cs, t, e, hc⟩ := h
  exact ⟨cs, t, (hb.block g hg).trans e, hc⟩
theorem blk_new (w : World) (cs : Array Value) (t : TypeId) (h : cs.size = 8) : Blk (w.alloc (.cells cs t)) w.heap.size := ⟨cs, t, heap_alloc_new w _, h⟩
theorem blk_drew {w : World} {g : Nat} (h : Blk w g) : Blk w.drew g := h
theorem Row.blk {w : World} {g : Nat} {l : List Nat} {t : TypeId} (h : Row .u32 t w g l) (hl : l.length = 8) : Blk w g := ⟨_, t, h, by rw [vs_size]; exact hl⟩
theorem Blk.set {w : World} {g : Nat} (h : Blk w g) (l : List Nat) : ∃ t, Row .u32 t (w.setRow g (vs .u32 l)) g l := by
  obtain ⟨cs, t, e, _⟩ := h
  exact ⟨t, setRow_heap w g _ _ t _ e⟩
theorem storeCells8 {w : World} {g : Nat} {l : List Nat} (hl : l.length = 8) (hb : Blk w g) : (storeCells ⟨g, 0, none⟩ (vs .u32 l).toList).run Tryd.prog w = .ok () (w.setRow g (vs .u32 l)) := by
  obtain ⟨cs, t, e, hc⟩ := hb
  have h := run_storeVar_row (P := Tryd.prog) w g t 28 cs (vs .u32 l) e (by rw [vs_size, hl]; exact info28) (by rw [vs_size, hl, hc]) (vs_one _ _)
  have hi : Tryd.prog.info? 28 ≠ none := by intro hn; have := info28; rw [hn] at this; cases this
  cases hq : Tryd.prog.info? 28 with
  | none => exact absurd hq hi
  | some i =>
    have hs : i.size = 8 := by have := info28; rw [hq] at this; simpa using this
    simpa [storeVar, sizeOf, typeInfo, hq, hs, Value.cells, vs_size, hl] using h
theorem eight (l : List Nat) (h : l.length = 8) : ∃ x0 x1 x2 x3 x4 x5 x6 x7, l = [x0, x1, x2, x3, x4, x5, x6, x7] := by
  match l, h with
  | [x0, x1, x2, x3, x4, x5, x6, x7], _ => exact ⟨x0, x1, x2, x3, x4, x5, x6, x7, rfl⟩
theorem cells8 {w : World} {g x0 x1 x2 x3 x4 x5 x6 x7 : Nat} {t : TypeId} (r : Row .u32 t w g [x0, x1, x2, x3, x4, x5, x6, x7]) :
    w.cell? ⟨g, 0, none⟩ = some (.int .u32 x0) ∧ w.cell? ⟨g, 1, none⟩ = some (.int .u32 x1) ∧ w.cell? ⟨g, 2, none⟩ = some (.int .u32 x2) ∧ w.cell? ⟨g, 3, none⟩ = some (.int .u32 x3) ∧
        w.cell? ⟨g, 4, none⟩ = some (.int .u32 x4) ∧ w.cell? ⟨g, 5, none⟩ = some (.int .u32 x5) ∧ w.cell? ⟨g, 6, none⟩ = some (.int .u32 x6) ∧ w.cell? ⟨g, 7, none⟩ = some (.int .u32 x7) :=
  ⟨r.cell 0 (by simp), r.cell 1 (by simp), r.cell 2 (by simp), r.cell 3 (by simp), r.cell 4 (by simp), r.cell 5 (by simp), r.cell 6 (by simp), r.cell 7 (by simp)⟩
theorem mixAll_8 (x0 x1 x2 x3 x4 x5 x6 x7 : Nat) (s : ByteArray) (w : World) (G : Glob w) (hw : Sh.Words [x0, x1, x2, x3, x4, x5, x6, x7]) (hs : s.size ≤ maxLen) :
    Calls Tryd.prog 16 #[.agg #[.int .u32 x0, .int .u32 x1, .int .u32 x2, .int .u32 x3, .int .u32 x4, .int .u32 x5, .int .u32 x6, .int .u32 x7], .string s] w
      fun e w' => e = .returned (.agg (vs .u32 (Sh.mixs [x0, x1, x2, x3, x4, x5, x6, x7] (Sh.bl s) (s.size / 64)))) ∧ Below w.heap.size w w' :=
  mixAll_any [x0, x1, x2, x3, x4, x5, x6, x7] s w G rfl hw hs
attribute [local go_sem ↓] storeCells8
attribute [local go_sem] blk_new vs_size

set_option maxRecDepth 100000 in
set_option maxHeartbeats 400000 in
theorem of_any (s : ByteArray) (w : World) (G : Glob w) (hs : s.size ≤ 70368744177664) :
    Calls Tryd.prog 9 #[.string s] w fun e w' => e = .returned (.string (Sh.str (ofL s))) ∧ Below w.heap.size w w' := by
  obtain ⟨q, hq, HQ⟩ : ∃ q : Nat, (s.size : Int) - s.size % 64 = q ∧ Hid (q = s.size - s.size % 64) := ⟨s.size - s.size % 64, by omega, rfl⟩
  have hq2 : q ≤ s.size := by have := HQ.out; omega
  have hq3 : (q : Int) ≤ s.size := by omega
  have hq4 : (0 : Int) ≤ q := by omega
  have HX : Hid (Sh.str (ofL s) = Sh.str (bo (Sh.mixs (Sh.mixs Sh.H0 (Sh.bl (s.extract 0 q)) ((s.extract 0 q).size / 64)) (Sh.bl (s.extract q s.size ++ Sh.str (pad s.size 8))) ((s.extract q s.size ++ Sh.str (pad s.size 8)).size / 64)) 32)) := by
    show _ = _
    rw [HQ.out]; rfl
  obtain ⟨h1, hh1⟩ : ∃ h1, Hid (Sh.mixs Sh.H0 (Sh.bl (s.extract 0 q)) ((s.extract 0 q).size / 64) = h1) := ⟨_, rfl⟩
  have hl1 : h1.length = 8 := by rw [← hh1.out]; exact Sh.mixs_len _ _ rfl _
  have hw1 : Hid (Sh.Words h1) := by rw [← hh1.out]; exact Sh.mixs_words _ _ rfl Sh.H0_words _
  have HM : Hid ((s.extract 0 q).size ≤ maxLen) := by show _ ≤ _; simp [maxLen]; omega
  obtain ⟨g0, g1, g2, g3, g4, g5, g6, g7⟩ := G.cells
  clear HQ
  have hsz : 0 < w.heap.size := by have := G.two; omega
  go_enter Tryd.func9, Tryd.ntmps9
  go_upto_region 2 with fail
  go_cut [4] (fun s4 wx => ∃ g : Nat, s4 = .pointer (some ⟨g, 0, none⟩) ∧ w.heap.size ≤ g ∧ (∃ t, Row .u32 t wx g h1) ∧ Below w.heap.size w wx)
  case first =>
    go_region_with
      (first | (go_at_call 16; refine (mixAll_H0 _ _ ?_ HM.out).mono ?_; exact G.below (B := w.heap.size) (by repeat (first | exact Below.refl _ _ | apply Below.drew | refine Below.alloc ?_ (by simp) _)) G.two; rintro e w1 ⟨rfl, hb1⟩; have hB1 : Below w.heap.size w w1 := (show Below w.heap.size w _ by repeat (first | exact Below.refl _ _ | apply Below.drew | refine Below.alloc ?_ (by simp) _)).trans (hb1.mono (by simp)); have G1 := G.below hB1 G.two; rw [hh1.out]; try (have hbl := (blk_drew (blk_new w _ _ rfl)).below hb1 (by simp)); clear hb1))
    all_goals go_wp2_with fail
    all_goals go_meet
    · exact ⟨w1.heap.size, rfl, hB1.size, (blk_new w1 _ _ rfl).set h1, below_setRow (hB1.alloc hB1.size _) hB1.size _⟩
    all_goals exact ⟨w.heap.size, rfl, Nat.le_refl _, hbl.set h1, below_setRow hB1 (Nat.le_refl _) _⟩
  case rest =>
    obtain ⟨g, rfl, hg, ⟨t, r0⟩, hB⟩ := hcut
    clear g0 g1 g2 g3 g4 g5 g6 g7
    have hgl := r0.lt
    have hblk := r0.blk hl1
    obtain ⟨h2, hh2⟩ : ∃ h2, Hid (Sh.mixs h1 (Sh.bl (s.extract q s.size ++ Sh.str (pad s.size 8))) ((s.extract q s.size ++ Sh.str (pad s.size 8)).size / 64) = h2) := ⟨_, rfl⟩
    have hl2 : h2.length = 8 := by rw [← hh2.out]; exact Sh.mixs_len _ _ hl1 _
    have hw2 : Hid (Sh.Words h2) := by rw [← hh2.out]; exact Sh.mixs_words _ _ hl1 hw1.out _
    have HX2 : Hid (Sh.str (ofL s) = Sh.str (bo h2 32)) := by show _ = _; rw [HX.out, hh1.out, hh2.out]
    have HM2 : Hid ((s.extract q s.size ++ Sh.str (pad s.size 8)).size ≤ maxLen) := by
      show _ ≤ _
      have : zs s.size < 64 := Nat.mod_lt _ (by decide)
      simp [ByteArray.size_append, Sh.str_size, pad_len, maxLen]; omega
    have hadd : (9223372036854775807 < s.size - q + (Sh.str (pad s.size 8)).size) = False := by
      have : zs s.size < 64 := Nat.mod_lt _ (by decide)
      rw [Sh.str_size, pad_len _ _ (Nat.le_refl _)]
      exact eq_false (by omega)
    clear HX hh1 HM
    obtain ⟨x0, x1, x2, x3, x4, x5, x6, x7, rfl⟩ := eight h1 hl1
    clear hl1
    obtain ⟨g0, g1, g2, g3, g4, g5, g6, g7⟩ := cells8 r0
    go_upto_region 3 with fail
    go_cut [4] (fun s4 wx => s4 = .pointer (some ⟨g, 0, none⟩) ∧ (∃ t, Row .u32 t wx g h2) ∧ Below w.heap.size w wx)
    case first =>
      go_region_with
        (first
          | (go_at_call 17; refine (padding_any s.size _ hs).mono ?_; rintro e w2 ⟨rfl, hb2⟩; have r2 := r0.drew.below hb2 hgl; have hB2 := hB.drew.trans (hb2.mono hB.size); have hbk2 := (blk_drew hblk).below hb2 hgl; clear hb2; obtain ⟨k0, k1, k2, k3, k4, k5, k6, k7⟩ := cells8 r2)
          | (go_at_call 16; refine (mixAll_8 x0 x1 x2 x3 x4 x5 x6 x7 _ _ (G.below hB2 G.two) hw1.out HM2.out).mono ?_; rintro e w3 ⟨rfl, hb3⟩; have hB3 := hB2.trans (hb3.mono hB2.size); have hbk3 := hbk2.below hb3 r2.lt; rw [hh2.out]; clear hb3))
      all_goals go_wp2_with fail
      all_goals go_meet
      all_goals exact ⟨rfl, hbk3.set h2, below_setRow hB3 hg _⟩
    case rest =>
      clear g0 g1 g2 g3 g4 g5 g6 g7 hblk hB r0 hgl
      obtain ⟨rfl, ⟨t2, r2⟩, hB⟩ := hcut
      have HZ2 := Lib.hid (show (Tryd.prog.info? 28).map (·.size) = some h2.length by rw [hl2]; exact info28)
      have HL2 := Lib.hid hl2
      clear hl2
      go_wp2_with (first
        | (refine load_law rfl 28 _ rfl g .u32 h2 rfl t2 _ r2 Tryd.underlying28 rfl HZ2.out ?_)
        | (go_at_call 18; refine (bytesOf_any h2 _ HL2.out hw2.out).mono ?_; rintro e w4 ⟨rfl, hb4⟩))
      go_ret
      rw [HX2.out]
      exact ⟨rfl, hB.trans (hb4.mono hB.size)⟩

end Go.Proofs.YtalknjokamfggaaDoor
