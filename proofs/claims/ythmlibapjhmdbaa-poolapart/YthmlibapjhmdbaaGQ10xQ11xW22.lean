/- A pool: union. -/
import Derived.Test.YthmlibapjhmdbaaGQ9xW16xW17
import Derived.Test.YthmlibapjhmdbaaGW18xW19xW20
import Derived.Deep.RegionHeld3
namespace Go.Proofs.Ythmlibapjhmdbaa
open Go.RowKit Go.Shelf Go.Maps

def orAll (ms : List (List Nat)) : List Nat := ms.foldl (zw Nat.lor) Mk.zero
theorem lor_W4 {a b : List Nat} (ha : Mk.W4 a) (hb : Mk.W4 b) : Mk.W4 (zw Nat.lor a b) := by
  refine ⟨zw_len ha.1 hb.1, fun i => ?_⟩
  rcases Nat.lt_or_ge i 4 with h | h
  · rw [zw_nth ha.1 hb.1 h]
    exact Nat.or_lt_two_pow (ha.2 i) (hb.2 i)
  · rw [Mk.nth_getElem?, List.getElem?_eq_none (by rw [zw_len ha.1 hb.1]; exact h)]
    exact Nat.two_pow_pos 64
theorem orAll_W4 (ms : List (List Nat)) (h : ∀ m ∈ ms, Mk.W4 m) : Mk.W4 (orAll ms) := by
  have key : ∀ (ms : List (List Nat)) (a : List Nat), Mk.W4 a → (∀ m ∈ ms, Mk.W4 m) → Mk.W4 (ms.foldl (zw Nat.lor) a) := by
    intro ms
    induction ms with
    | nil => intro a ha _; exact ha
    | cons m ms ih => intro a ha hm; exact ih _ (lor_W4 ha (hm m List.mem_cons_self)) fun x hx => hm x (List.mem_cons_of_mem _ hx)
  exact key ms _ Mk.W4.zero h
theorem orAll_snoc (ms : List (List Nat)) (k : Nat) (m : List Nat) (h : ms[k]? = some m) : orAll (ms.take (k + 1)) = zw Nat.lor (orAll (ms.take k)) m := by
  unfold orAll
  rw [List.take_add_one, h, List.foldl_append]
  rfl

set_option maxRecDepth 100000 in
set_option maxHeartbeats 1000000 in
theorem union_any (g cap n : Nat) (ms : List (List Nat)) (w : World) (hA : MasksAt w w.heap.size g ms) (h4 : ∀ m ∈ ms, Mk.W4 m) (hn : ms.length = n) (hl : n ≤ 32) :
    Calls Try.prog 47 #[.slice (some ⟨g, 0, none⟩) n cap] w fun e w' => e = .returned (.agg (vs .u64 (orAll ms))) ∧ Below w.heap.size w w' := by
  have HN := Lib.hid hn
  have H4 := Lib.hid h4
  clear hn h4
  go_enter Try.func47, Try.ntmps47
  go_wp2_with fail
  go_loopw [8] (fun i wr => ∃ k : Nat, k ≤ n ∧ i = .int .i64 k ∧ Row .u64 40 wr w.heap.size Mk.zero ∧ Row .u64 40 wr (w.heap.size + 1) (orAll (ms.take k)) ∧ Below w.heap.size w wr)
    (fun i _ => n - (intOf i).toNat)
  case atStart =>
    refine ⟨0, by omega, rfl, (Row.new w .u64 40 Mk.zero _ rfl).alloc _, ?_, ((Below.refl _ _).alloc (Nat.le_refl _) _).alloc (by simp) _⟩
    have := Row.new (w.alloc (.cells (vs .u64 Mk.zero) 40)) .u64 40 Mk.zero _ rfl
    rw [size_alloc] at this
    exact this
  case round =>
    obtain ⟨k, hk, rfl, r0, r1, hb⟩ := hrel
    have hw := Lib.hid (orAll_W4 (ms.take k) (fun m hm => H4.out m (List.mem_of_mem_take hm)))
    have hz := Lib.hid (info33' hw.out)
    have hl1 := r1.lt
    by_cases hlt : k < n
    · have hkl : k < ms.length := by rw [HN.out]; exact hlt
      obtain ⟨m, hm⟩ : ∃ m, ms[k]? = some m := ⟨_, List.getElem?_eq_getElem hkl⟩
      have hm4 := H4.out m (List.mem_of_getElem? hm)
      have HS := Lib.hid (orAll_snoc ms k m hm)
      have mA := hA.below hb
      have c0 := mA.2 k m hm 0 (by decide)
      have c1 := mA.2 k m hm 1 (by decide)
      have c2 := mA.2 k m hm 2 (by decide)
      have c3 := mA.2 k m hm 3 (by decide)
      simp only [Nat.add_zero] at c0
      have em := Mk.len4 hm4.1
      have HW2 := Lib.hid (lor_W4 hw.out hm4)
      have hzo : zw Nat.lor (orAll (ms.take k)) [Mk.nth m 0, Mk.nth m 1, Mk.nth m 2, Mk.nth m 3] = zw Nat.lor (orAll (ms.take k)) m := by rw [← em]
      have KM := Lib.hid (show ∀ V, Calls Try.prog 22 #[.agg (vs .u64 (orAll (ms.take k))), .agg #[.int .u64 (Mk.nth m 0 : Nat), .int .u64 (Mk.nth m 1 : Nat), .int .u64 (Mk.nth m 2 : Nat), .int .u64 (Mk.nth m 3 : Nat)]] V fun e w' => e = .returned (.agg (vs .u64 (zw Nat.lor (orAll (ms.take k)) m))) ∧ Below V.heap.size V w' from fun V => by
        have := or_any (orAll (ms.take k)) [Mk.nth m 0, Mk.nth m 1, Mk.nth m 2, Mk.nth m 3] V hw.out (by rw [← em]; exact hm4)
        rw [hzo] at this
        exact this)
      have hz2 := Lib.hid (info33' HW2.out)
      have hlen := Lib.hid (len_len hw.out HW2.out)
      have i1 : (k : Int) < (n : Int) := by omega
      clear hzo em hm4 hm hkl mA
      generalize orAll (ms.take k) = a at *
      have hx : Below wr.heap.size wr (wr.alloc (.cells #[.int .u64 (Mk.nth m 0 : Nat), .int .u64 (Mk.nth m 1 : Nat), .int .u64 (Mk.nth m 2 : Nat), .int .u64 (Mk.nth m 3 : Nat)] 40)) := (Below.refl _ _).alloc (Nat.le_refl _) _
      have r1a := r1.next hx
      have r0a := r0.next hx
      have hba := bmore hb hx
      clear hx
      go_wp2_with (refine load_law rfl 40 _ rfl (w.heap.size + 1) .u64 a rfl 40 _ r1a Try.underlying40 rfl hz.out ?_)
      refine (KM.out _).mono ?_
      rintro e w5 ⟨rfl, hb5⟩
      replace r1a := r1a.next hb5; replace r0a := r0a.next hb5; replace hba := bmore hba hb5
      clear hb5 c0 c1 c2 c3
      go_wp2_with (refine store_law rfl 40 _ _ rfl (w.heap.size + 1) .u64 a (zw Nat.lor a m) rfl rfl 40 r1a hlen.out hz2.out ?_; intro w7 hw7)
      go_roundw
      case rel => exact ⟨k + 1, by omega, by go_num, r0a.hidOther hw7 (by omega), by rw [HS.out]; exact r1a.hidSet hw7, below_hidSet hba hw7 (by omega)⟩
      case measure => simp [intOf]; omega
    · obtain rfl : k = n := by omega
      have HE : Hid (orAll (ms.take k) = orAll ms) := by show _ = _; rw [List.take_of_length_le (by rw [HN.out]; exact Nat.le_refl _)]
      rw [HE.out] at r1 hw hz
      have hlen := Lib.hid (zero_len hw.out)
      go_wp2_with (first | (refine load_law rfl 40 _ rfl (w.heap.size + 1) .u64 (orAll ms) rfl 40 _ r1 Try.underlying40 rfl hz.out ?_) | (refine store_law rfl 40 _ _ rfl w.heap.size .u64 Mk.zero (orAll ms) rfl rfl 40 r0 hlen.out hz.out ?_; intro w7 hw7))
      exact bodyPost_ret (results_row rfl _ _ w.heap.size .u64 40 _ _ rfl (r0.hidSet hw7) Try.underlying40 rfl hz.out) rfl ⟨rfl, below_hidSet hb hw7 (by omega)⟩
end Go.Proofs.Ythmlibapjhmdbaa
/- A pool: Reserve. -/
namespace Go.Proofs.Ythmlibapjhmdbaa
open Go.RowKit Go.Shelf Go.Maps

set_option maxRecDepth 100000 in
set_option maxHeartbeats 4000000 in
theorem reserve_has {w : World} {p b k s q : Nat} {g : Int → Option Sh} (h : PoolAt w p b k s q g) {n : Int} (hn : (Lit.int .i64 n).wf = true) (x0 x1 x2 x3 : Nat) (r pe d : Int) (KO : ∀ V : World, Calls Try.prog 45 #[.int .i64 n] V fun e w' => e = .returned (.bool true) ∧ V = w') (hg : (g n).isSome = true) : Calls Try.prog 26 #[.pointer (some ⟨p, 0, none⟩), .int .i64 n, .agg #[.int .u64 x0, .int .u64 x1, .int .u64 x2, .int .u64 x3, .int .i64 r, .int .i64 pe, .int .i64 d]] w fun e w' => e = .returned (.tuple #[.slice none 0 0, .int .i64 14]) ∧ Below w.heap.size w w' := by
  replace KO := Lib.hid KO
  have HN := Lib.hid hn
  have hb0 := (Below.refl _ w).alloc (Nat.le_refl _) (.cells #[.int .u64 x0, .int .u64 x1, .int .u64 x2, .int .u64 x3, .int .i64 r, .int .i64 pe, .int .i64 d] 61)
  have j0 := Bk.new w 61 #[.int .u64 x0, .int .u64 x1, .int .u64 x2, .int .u64 x3, .int .i64 r, .int .i64 pe, .int .i64 d]
  replace h := h.next hb0
  go_enter Try.func26, Try.ntmps26
  go_wp2_with fail
  refine (KO.out _).mono ?_
  rintro e w1 ⟨rfl, rfl⟩
  go_wp2_with fail
  have KH := has_any h HN.out
  rw [hg] at KH
  refine KH.mono ?_
  rintro e w3 ⟨rfl, hb⟩
  go_wp2_with fail
  go_ret2
  exact ⟨rfl, bmore hb0 hb⟩
theorem undrew {B : Nat} {a w : World} (h : Below B a.drew w) : Below B a w := ⟨h.os, h.tape, h.output, h.size, h.block⟩
theorem Bk.set7 {w : World} {gg : Nat} {t : TypeId} {x0 x1 x2 x3 x4 x5 x6 : Value} (h : Bk w gg t #[x0, x1, x2, x3, x4, x5, x6]) (a b c d : Value) : Bk ((((w.setCell ⟨gg, 0, none⟩ a).setCell ⟨gg, 1, none⟩ b).setCell ⟨gg, 2, none⟩ c).setCell ⟨gg, 3, none⟩ d) gg t #[a, b, c, d, x4, x5, x6] := by
  have e1 := heap_setCell_same w gg 0 _ t a h
  have e2 := heap_setCell_same _ gg 1 _ t b e1
  have e3 := heap_setCell_same _ gg 2 _ t c e2
  have e4 := heap_setCell_same _ gg 3 _ t d e3
  simpa [Bk] using e4
theorem PoolAt.set4 {w : World} {p b k s q gg : Nat} {g : Int → Option Sh} (h : PoolAt w p b k s q g) (hp : p ≠ gg) (hb : b ≠ gg) (x y z u : Value) : PoolAt ((((w.setCell ⟨gg, 0, none⟩ x).setCell ⟨gg, 1, none⟩ y).setCell ⟨gg, 2, none⟩ z).setCell ⟨gg, 3, none⟩ u) p b k s q g :=
  (((h.setCell (a := ⟨gg, 0, none⟩) hp hb x).setCell (a := ⟨gg, 1, none⟩) hp hb y).setCell (a := ⟨gg, 2, none⟩) hp hb z).setCell (a := ⟨gg, 3, none⟩) hp hb u
set_option maxRecDepth 100000 in
set_option maxHeartbeats 4000000 in
theorem reserve_few {w : World} {p b k s q : Nat} {g : Int → Option Sh} (h : PoolAt w p b k s q g) {n : Int} (hn : (Lit.int .i64 n).wf = true) (x0 x1 x2 x3 : Nat) (r pe d : Int) (f0 f1 f2 f3 : Nat) (er : Int) (her : er ≠ 0) (KO : ∀ V : World, Calls Try.prog 45 #[.int .i64 n] V fun e w' => e = .returned (.bool true) ∧ V = w') (hg : (g n).isSome = false)
    (KF : ∀ V : World, PoolAt V p b k s q g → Calls Try.prog 13 #[.pointer (some ⟨p, 0, none⟩)] V fun e w' => e = .returned (.agg #[.int .u64 f0, .int .u64 f1, .int .u64 f2, .int .u64 f3]) ∧ Below V.heap.size V w')
    (KA : ∀ V : World, Calls Try.prog 46 #[.agg #[.int .i64 s, .int .i64 q], .agg #[.int .u64 f0, .int .u64 f1, .int .u64 f2, .int .u64 f3, .int .i64 r, .int .i64 pe, .int .i64 d]] V fun e w' => e = .returned (.tuple #[.slice none 0 0, .int .i64 er]) ∧ Below V.heap.size V w') :
    Calls Try.prog 26 #[.pointer (some ⟨p, 0, none⟩), .int .i64 n, .agg #[.int .u64 x0, .int .u64 x1, .int .u64 x2, .int .u64 x3, .int .i64 r, .int .i64 pe, .int .i64 d]] w fun e w' => e = .returned (.tuple #[.slice none 0 0, .int .i64 er]) ∧ Below w.heap.size w w' := by
  have hpw : p ≠ w.heap.size := by have := h.blk.lt; omega
  have hbw : b ≠ w.heap.size := by
    obtain ⟨D, h1, _⟩ := h.own
    have := h1.lt
    omega
  replace KF := Lib.hid KF
  replace KA := Lib.hid KA
  have ter : (er != 0) = true := by simpa using her
  clear her
  replace KO := Lib.hid KO
  have HN := Lib.hid hn
  have hb0 := (Below.refl _ w).alloc (Nat.le_refl _) (.cells #[.int .u64 x0, .int .u64 x1, .int .u64 x2, .int .u64 x3, .int .i64 r, .int .i64 pe, .int .i64 d] 61)
  have j0 := Bk.new w 61 #[.int .u64 x0, .int .u64 x1, .int .u64 x2, .int .u64 x3, .int .i64 r, .int .i64 pe, .int .i64 d]
  replace h := h.next hb0
  go_enter Try.func26, Try.ntmps26
  go_wp2_with fail
  refine (KO.out _).mono ?_
  rintro e w1 ⟨rfl, rfl⟩
  go_wp2_with fail
  have KH := has_any h HN.out
  rw [hg] at KH
  refine KH.mono ?_
  rintro e w3 ⟨rfl, hb⟩
  replace hb0 := bmore hb0 hb; replace j0 := j0.next hb; replace h := h.next hb; clear hb KH
  go_wp2_with fail
  refine (KF.out _ h).mono ?_
  rintro e w4 ⟨rfl, hb⟩
  replace hb0 := bmore hb0 hb; replace j0 := j0.next hb; replace h := h.next hb; clear hb
  have y0 := j0.cell 0 _ rfl
  have y1 := j0.cell 1 _ rfl
  have y2 := j0.cell 2 _ rfl
  have y3 := j0.cell 3 _ rfl
  have z0 := j0.frozen 0
  have z1 := j0.frozen 1
  have z2 := j0.frozen 2
  have z3 := j0.frozen 3
  have HP := Lib.hid (h.set4 (gg := w.heap.size) hpw hbw (.int .u64 f0) (.int .u64 f1) (.int .u64 f2) (.int .u64 f3))
  have HJ := Lib.hid (j0.set7 (.int .u64 f0) (.int .u64 f1) (.int .u64 f2) (.int .u64 f3))
  have HB := Lib.hid ((((hb0.setCell (p := ⟨w.heap.size, 0, none⟩) (Nat.le_refl _) (.int .u64 f0)).setCell (p := ⟨w.heap.size, 1, none⟩) (Nat.le_refl _) (.int .u64 f1)).setCell (p := ⟨w.heap.size, 2, none⟩) (Nat.le_refl _) (.int .u64 f2)).setCell (p := ⟨w.heap.size, 3, none⟩) (Nat.le_refl _) (.int .u64 f3))
  clear h j0 hb0
  go_wp2_with fail
  clear y0 y1 y2 y3 z0 z1 z2 z3
  generalize (((w4.setCell ⟨w.heap.size, 0, none⟩ (.int .u64 f0)).setCell ⟨w.heap.size, 1, none⟩ (.int .u64 f1)).setCell ⟨w.heap.size, 2, none⟩ (.int .u64 f2)).setCell ⟨w.heap.size, 3, none⟩ (.int .u64 f3) = w5 at *
  have st : PoolAt w5 p b k s q g ∧ Bk w5 w.heap.size 61 #[.int .u64 f0, .int .u64 f1, .int .u64 f2, .int .u64 f3, .int .i64 r, .int .i64 pe, .int .i64 d] ∧ Below w.heap.size w w5 := ⟨HP.out, HJ.out, HB.out⟩
  have KS : Hid (∀ V, PoolAt V p b k s q g ∧ Bk V w.heap.size 61 #[.int .u64 f0, .int .u64 f1, .int .u64 f2, .int .u64 f3, .int .i64 r, .int .i64 pe, .int .i64 d] ∧ Below w.heap.size w V → V.cell? ⟨p, 0, none⟩ = some (.int .i64 s) ∧ V.cell? ⟨p, 1, none⟩ = some (.int .i64 q) ∧ V.cell? ⟨w.heap.size, 0, none⟩ = some (.int .u64 f0) ∧ V.cell? ⟨w.heap.size, 1, none⟩ = some (.int .u64 f1) ∧ V.cell? ⟨w.heap.size, 2, none⟩ = some (.int .u64 f2) ∧ V.cell? ⟨w.heap.size, 3, none⟩ = some (.int .u64 f3) ∧ V.cell? ⟨w.heap.size, 4, none⟩ = some (.int .i64 r) ∧ V.cell? ⟨w.heap.size, 5, none⟩ = some (.int .i64 pe) ∧ V.cell? ⟨w.heap.size, 6, none⟩ = some (.int .i64 d)) := Lib.hid (fun V hV => ⟨hV.1.cells.1, hV.1.cells.2.1, hV.2.1.cell 0 _ rfl, hV.2.1.cell 1 _ rfl, hV.2.1.cell 2 _ rfl, hV.2.1.cell 3 _ rfl, hV.2.1.cell 4 _ rfl, hV.2.1.cell 5 _ rfl, hV.2.1.cell 6 _ rfl⟩)
  have KX : Hid (∀ V V', PoolAt V p b k s q g ∧ Bk V w.heap.size 61 #[.int .u64 f0, .int .u64 f1, .int .u64 f2, .int .u64 f3, .int .i64 r, .int .i64 pe, .int .i64 d] ∧ Below w.heap.size w V → Below V.heap.size V V' → PoolAt V' p b k s q g ∧ Bk V' w.heap.size 61 #[.int .u64 f0, .int .u64 f1, .int .u64 f2, .int .u64 f3, .int .i64 r, .int .i64 pe, .int .i64 d] ∧ Below w.heap.size w V') := Lib.hid (fun V V' hV hb => ⟨hV.1.next hb, hV.2.1.next hb, bmore hV.2.2 hb⟩)
  have KY := Lib.hid (KX.out w5 w5.drew st (Below.refl _ _).drew)
  clear HP HJ HB
  go_region_held3 (fun W => W.cell? ⟨p, 0, none⟩ = some (.int .i64 s) ∧ W.cell? ⟨p, 1, none⟩ = some (.int .i64 q) ∧ W.cell? ⟨w.heap.size, 0, none⟩ = some (.int .u64 f0) ∧ W.cell? ⟨w.heap.size, 1, none⟩ = some (.int .u64 f1) ∧ W.cell? ⟨w.heap.size, 2, none⟩ = some (.int .u64 f2) ∧ W.cell? ⟨w.heap.size, 3, none⟩ = some (.int .u64 f3) ∧ W.cell? ⟨w.heap.size, 4, none⟩ = some (.int .i64 r) ∧ W.cell? ⟨w.heap.size, 5, none⟩ = some (.int .i64 pe) ∧ W.cell? ⟨w.heap.size, 6, none⟩ = some (.int .i64 d))
    (first | exact KS.out _ st | exact KS.out _ KY.out)
    (first | (go_at_call 46; refine (KA.out _).mono ?_; rintro y wn ⟨rfl, hbn⟩; (first | replace hbn := undrew hbn | skip); replace st := KX.out _ _ st hbn; clear hbn))
  all_goals
    go_wp2_with fail
    go_ret2
    exact ⟨rfl, st.2.2⟩
set_option maxRecDepth 100000 in
set_option maxHeartbeats 4000000 in
theorem reserve_ok {w : World} {p b k s q : Nat} {g : Int → Option Sh} (h : PoolAt w p b k s q g) {n : Int} (hn : (Lit.int .i64 n).wf = true) (x0 x1 x2 x3 : Nat) (r pe d : Int) (hk : k < 1000000) (c : Sh) (f0 f1 f2 f3 a0 a1 a2 a3 R : Nat) (fl : List Nat) (hc : c.m = [a0, a1, a2, a3]) (ht : c.t = false) (KO : ∀ V : World, Calls Try.prog 45 #[.int .i64 n] V fun e w' => e = .returned (.bool true) ∧ V = w') (hg : (g n).isSome = false)
    (KF : ∀ V : World, PoolAt V p b k s q g → Calls Try.prog 13 #[.pointer (some ⟨p, 0, none⟩)] V fun e w' => e = .returned (.agg #[.int .u64 f0, .int .u64 f1, .int .u64 f2, .int .u64 f3]) ∧ Below V.heap.size V w')
    (KA : ∀ V : World, Calls Try.prog 46 #[.agg #[.int .i64 s, .int .i64 q], .agg #[.int .u64 f0, .int .u64 f1, .int .u64 f2, .int .u64 f3, .int .i64 r, .int .i64 pe, .int .i64 d]] V fun e w' => ∃ gm, e = .returned (.tuple #[.slice (some ⟨gm, 0, none⟩) R R, .int .i64 0]) ∧ V.heap.size ≤ gm ∧ Row .u64 40 w' gm fl ∧ Below V.heap.size V w')
    (KU : ∀ (V : World) (gm : Nat), Row .u64 40 V gm fl → Calls Try.prog 47 #[.slice (some ⟨gm, 0, none⟩) R R] V fun e w' => e = .returned (.agg #[.int .u64 a0, .int .u64 a1, .int .u64 a2, .int .u64 a3]) ∧ Below V.heap.size V w') :
    Calls Try.prog 26 #[.pointer (some ⟨p, 0, none⟩), .int .i64 n, .agg #[.int .u64 x0, .int .u64 x1, .int .u64 x2, .int .u64 x3, .int .i64 r, .int .i64 pe, .int .i64 d]] w fun e w' => ∃ gm, e = .returned (.tuple #[.slice (some ⟨gm, 0, none⟩) R R, .int .i64 0]) ∧ w.heap.size ≤ gm ∧ Row .u64 40 w' gm fl ∧ Turned w w' p b (k + 1) s q (fun m => if m = n then some c else g m) := by
  have hpw : p ≠ w.heap.size := by have := h.blk.lt; omega
  have hbw : b ≠ w.heap.size := by
    obtain ⟨D, h1, _⟩ := h.own
    have := h1.lt
    omega
  replace KF := Lib.hid KF
  replace KA := Lib.hid KA
  replace KU := Lib.hid KU
  have HSh : Hid (shV c = .agg #[.int .u64 a0, .int .u64 a1, .int .u64 a2, .int .u64 a3, .bool false]) := by
    show _ = _
    unfold shV
    rw [hc, ht]
    rfl
  clear hc ht
  have hbl : b < w.heap.size := by
    obtain ⟨D, h1, _⟩ := h.own
    exact h1.lt
  have HK := Lib.hid (show k < maxLen by unfold maxLen; omega)
  replace KO := Lib.hid KO
  have HN := Lib.hid hn
  have hb0 := (Below.refl _ w).alloc (Nat.le_refl _) (.cells #[.int .u64 x0, .int .u64 x1, .int .u64 x2, .int .u64 x3, .int .i64 r, .int .i64 pe, .int .i64 d] 61)
  have j0 := Bk.new w 61 #[.int .u64 x0, .int .u64 x1, .int .u64 x2, .int .u64 x3, .int .i64 r, .int .i64 pe, .int .i64 d]
  replace h := h.next hb0
  go_enter Try.func26, Try.ntmps26
  go_wp2_with fail
  refine (KO.out _).mono ?_
  rintro e w1 ⟨rfl, rfl⟩
  go_wp2_with fail
  have KH := has_any h HN.out
  rw [hg] at KH
  refine KH.mono ?_
  rintro e w3 ⟨rfl, hb⟩
  replace hb0 := bmore hb0 hb; replace j0 := j0.next hb; replace h := h.next hb; clear hb KH
  go_wp2_with fail
  refine (KF.out _ h).mono ?_
  rintro e w4 ⟨rfl, hb⟩
  replace hb0 := bmore hb0 hb; replace j0 := j0.next hb; replace h := h.next hb; clear hb
  have y0 := j0.cell 0 _ rfl
  have y1 := j0.cell 1 _ rfl
  have y2 := j0.cell 2 _ rfl
  have y3 := j0.cell 3 _ rfl
  have z0 := j0.frozen 0
  have z1 := j0.frozen 1
  have z2 := j0.frozen 2
  have z3 := j0.frozen 3
  have HP := Lib.hid (h.set4 (gg := w.heap.size) hpw hbw (.int .u64 f0) (.int .u64 f1) (.int .u64 f2) (.int .u64 f3))
  have HJ := Lib.hid (j0.set7 (.int .u64 f0) (.int .u64 f1) (.int .u64 f2) (.int .u64 f3))
  have HB := Lib.hid ((((hb0.setCell (p := ⟨w.heap.size, 0, none⟩) (Nat.le_refl _) (.int .u64 f0)).setCell (p := ⟨w.heap.size, 1, none⟩) (Nat.le_refl _) (.int .u64 f1)).setCell (p := ⟨w.heap.size, 2, none⟩) (Nat.le_refl _) (.int .u64 f2)).setCell (p := ⟨w.heap.size, 3, none⟩) (Nat.le_refl _) (.int .u64 f3))
  clear h j0 hb0
  go_wp2_with fail
  clear y0 y1 y2 y3 z0 z1 z2 z3
  generalize (((w4.setCell ⟨w.heap.size, 0, none⟩ (.int .u64 f0)).setCell ⟨w.heap.size, 1, none⟩ (.int .u64 f1)).setCell ⟨w.heap.size, 2, none⟩ (.int .u64 f2)).setCell ⟨w.heap.size, 3, none⟩ (.int .u64 f3) = w5 at *
  have st : PoolAt w5 p b k s q g ∧ Bk w5 w.heap.size 61 #[.int .u64 f0, .int .u64 f1, .int .u64 f2, .int .u64 f3, .int .i64 r, .int .i64 pe, .int .i64 d] ∧ Below w.heap.size w w5 := ⟨HP.out, HJ.out, HB.out⟩
  have KS : Hid (∀ V, PoolAt V p b k s q g ∧ Bk V w.heap.size 61 #[.int .u64 f0, .int .u64 f1, .int .u64 f2, .int .u64 f3, .int .i64 r, .int .i64 pe, .int .i64 d] ∧ Below w.heap.size w V → V.cell? ⟨p, 0, none⟩ = some (.int .i64 s) ∧ V.cell? ⟨p, 1, none⟩ = some (.int .i64 q) ∧ V.cell? ⟨w.heap.size, 0, none⟩ = some (.int .u64 f0) ∧ V.cell? ⟨w.heap.size, 1, none⟩ = some (.int .u64 f1) ∧ V.cell? ⟨w.heap.size, 2, none⟩ = some (.int .u64 f2) ∧ V.cell? ⟨w.heap.size, 3, none⟩ = some (.int .u64 f3) ∧ V.cell? ⟨w.heap.size, 4, none⟩ = some (.int .i64 r) ∧ V.cell? ⟨w.heap.size, 5, none⟩ = some (.int .i64 pe) ∧ V.cell? ⟨w.heap.size, 6, none⟩ = some (.int .i64 d)) := Lib.hid (fun V hV => ⟨hV.1.cells.1, hV.1.cells.2.1, hV.2.1.cell 0 _ rfl, hV.2.1.cell 1 _ rfl, hV.2.1.cell 2 _ rfl, hV.2.1.cell 3 _ rfl, hV.2.1.cell 4 _ rfl, hV.2.1.cell 5 _ rfl, hV.2.1.cell 6 _ rfl⟩)
  have KX : Hid (∀ V V', PoolAt V p b k s q g ∧ Bk V w.heap.size 61 #[.int .u64 f0, .int .u64 f1, .int .u64 f2, .int .u64 f3, .int .i64 r, .int .i64 pe, .int .i64 d] ∧ Below w.heap.size w V → Below V.heap.size V V' → PoolAt V' p b k s q g ∧ Bk V' w.heap.size 61 #[.int .u64 f0, .int .u64 f1, .int .u64 f2, .int .u64 f3, .int .i64 r, .int .i64 pe, .int .i64 d] ∧ Below w.heap.size w V') := Lib.hid (fun V V' hV hb => ⟨hV.1.next hb, hV.2.1.next hb, bmore hV.2.2 hb⟩)
  have KY := Lib.hid (KX.out w5 w5.drew st (Below.refl _ _).drew)
  clear HP HJ HB
  go_region_held3 (fun W => W.cell? ⟨p, 0, none⟩ = some (.int .i64 s) ∧ W.cell? ⟨p, 1, none⟩ = some (.int .i64 q) ∧ W.cell? ⟨w.heap.size, 0, none⟩ = some (.int .u64 f0) ∧ W.cell? ⟨w.heap.size, 1, none⟩ = some (.int .u64 f1) ∧ W.cell? ⟨w.heap.size, 2, none⟩ = some (.int .u64 f2) ∧ W.cell? ⟨w.heap.size, 3, none⟩ = some (.int .u64 f3) ∧ W.cell? ⟨w.heap.size, 4, none⟩ = some (.int .i64 r) ∧ W.cell? ⟨w.heap.size, 5, none⟩ = some (.int .i64 pe) ∧ W.cell? ⟨w.heap.size, 6, none⟩ = some (.int .i64 d))
    (first | exact KS.out _ st | exact KS.out _ KY.out)
    (first | (go_at_call 46; refine (KA.out _).mono ?_; rintro y wn ⟨gm, rfl, hgm, hr, hbn⟩; (first | replace hbn := undrew hbn | skip); have hs5 := st.2.2.size; replace st := KX.out _ _ st hbn; clear hbn))
  all_goals
    have e2 := st.1.cells.2.2
    have hgw : w.heap.size ≤ gm := by first | (simp at hgm; omega) | omega
    clear hgm
    go_wp2_with fail
    go_region_law (first | (go_simp; go_at_call 47; refine (KU.out _ gm (by exact hr)).mono ?_; rintro y w7 ⟨rfl, hb7⟩; replace hb7 := undrew hb7; have st7 := KX.out _ _ st hb7; have r7 := hr.next hb7; have e7 := st7.1.cells.2.2; obtain ⟨D, ho, hS⟩ := st7.1.own; obtain ⟨w8, hrun, ho8, hg8⟩ := ho.update law Try.underlying65 HK.out (key_of HN.out) (shE_mk c); rw [HSh.out] at hrun))
    all_goals
      go_wp2_with fail
      go_ret2
      exact ⟨gm, rfl, hgw, r7.grown hg8 (by omega), ⟨st7.1.blk.grown hg8 st7.1.ne, _, ho8, hS.put n _ ho8.isMap⟩, ((only_of_below st7.2.2).but _).trans hg8⟩
end Go.Proofs.Ythmlibapjhmdbaa
/- The document's Assign, where nothing is laid. -/
namespace Go.Proofs.Ythmlibapjhmdbaa
open Go.RowKit Go.Shelf
theorem natsIn {w : World} {A : Option Addr} {xs : List Nat} (h : NatsAt w w.heap.size A xs) (n : In w.heap.size w) : NatsAt n.val n.val.heap.size A xs := (h.below n.ok).more n.ok.size
/-- A slice of these numbers, and a code. -/
def Told (w : World) (xs : List Nat) (n : Nat) (er : Int) (e : Ending) (w' : World) : Prop :=
  ∃ A cap, e = .returned (.tuple #[.slice A n cap, .int .i64 er]) ∧ NatsAt w' w'.heap.size A xs ∧ Below w.heap.size w w'

set_option maxRecDepth 100000 in
set_option maxHeartbeats 1000000 in
theorem rAssign_no (s p d r q : Int) (a b c e : Nat) (w : World) (hd : ∀ W, Calls Try.prog 62 #[.agg #[.int .i64 s, .int .i64 p], .int .i64 d] W fun e w' => e = .returned (.tuple #[.slice none 0 0, .int .i64 1]) ∧ Below W.heap.size W w') :
    Calls Try.prog 51 #[.agg #[.int .i64 s, .int .i64 p], .agg #[.int .u64 a, .int .u64 b, .int .u64 c, .int .u64 e, .int .i64 r, .int .i64 q, .int .i64 d]] w fun e w' => e = .returned (.tuple #[.slice none 0 0, .int .i64 1]) ∧ Below w.heap.size w w' := by
  have HD := Lib.hid hd
  clear hd
  have hb0 := ((Below.refl _ w).alloc (Nat.le_refl _) (.cells #[.int .i64 s, .int .i64 p] 23)).alloc (by simp) (.cells #[.int .u64 a, .int .u64 b, .int .u64 c, .int .u64 e, .int .i64 r, .int .i64 q, .int .i64 d] 37)
  go_enter Try.func51, Try.ntmps51
  go_wp2_with fail
  refine (HD.out _).mono ?_
  rintro e w2 ⟨rfl, hb2⟩
  replace hb0 := bmore hb0 hb2
  clear hb2
  go_wp2_with fail
  go_ret2
  exact ⟨rfl, hb0⟩

set_option maxRecDepth 100000 in
set_option maxHeartbeats 1000000 in
theorem rAssign_arg (s p d r q : Int) (xs : List Nat) (n a b c e : Nat) (w : World) (hd : ∀ W, Calls Try.prog 62 #[.agg #[.int .i64 s, .int .i64 p], .int .i64 d] W (Told W xs n 0)) (hr : RBad r q) :
    Calls Try.prog 51 #[.agg #[.int .i64 s, .int .i64 p], .agg #[.int .u64 a, .int .u64 b, .int .u64 c, .int .u64 e, .int .i64 r, .int .i64 q, .int .i64 d]] w fun e w' => e = .returned (.tuple #[.slice none 0 0, .int .i64 1]) ∧ Below w.heap.size w w' := by
  have HD := Lib.hid hd
  have HR := Lib.hid hr
  clear hd hr
  have hb0 := ((Below.refl _ w).alloc (Nat.le_refl _) (.cells #[.int .i64 s, .int .i64 p] 23)).alloc (by simp) (.cells #[.int .u64 a, .int .u64 b, .int .u64 c, .int .u64 e, .int .i64 r, .int .i64 q, .int .i64 d] 37)
  have k1 : Bk ((w.alloc (.cells #[.int .i64 s, .int .i64 p] 23)).alloc (.cells #[.int .u64 a, .int .u64 b, .int .u64 c, .int .u64 e, .int .i64 r, .int .i64 q, .int .i64 d] 37)) (w.heap.size + 1) 37 #[.int .u64 a, .int .u64 b, .int .u64 c, .int .u64 e, .int .i64 r, .int .i64 q, .int .i64 d] := by
    have := Bk.new (w.alloc (.cells #[.int .i64 s, .int .i64 p] 23)) 37 #[.int .u64 a, .int .u64 b, .int .u64 c, .int .u64 e, .int .i64 r, .int .i64 q, .int .i64 d]
    rw [size_alloc] at this
    exact this
  go_enter Try.func51, Try.ntmps51
  go_wp2_with fail
  refine (HD.out _).mono ?_
  rintro e w2 ⟨A, ca, rfl, hA, hb2⟩
  replace hb0 := bmore hb0 hb2
  replace k1 := k1.next hb2
  clear hb2 hA
  have c4 := k1.cell 4 _ rfl
  have c5 := k1.cell 5 _ rfl
  by_cases h1 : r < 1
  · go_wp2_with fail
    go_ret2
    exact ⟨rfl, hb0⟩
  · have t1 : decide (r < 1) = false := by simpa using h1
    by_cases h2 : 32 < r
    · clear h1
      go_wp2_with fail
      go_ret2
      exact ⟨rfl, hb0⟩
    · have t2 : decide (32 < r) = false := by simpa using h2
      by_cases h3 : q < 1
      · clear h1 h2
        go_wp2_with fail
        go_ret2
        exact ⟨rfl, hb0⟩
      · have t3 : decide (q < 1) = false := by simpa using h3
        have h4 : 256 < q := by have := HR.out; unfold RBad at this; omega
        clear h1 h2 h3
        go_wp2_with fail
        go_ret2
        exact ⟨rfl, hb0⟩

/-- The free ones of the first k. -/
def frk (F : List Nat) (xs : List Nat) (k : Nat) : List Nat := (xs.take k).filter fun x => Mk.hasB F x
theorem frk_hit {F xs : List Nat} {k : Nat} (hk : k < xs.length) (h : Mk.hasB F (Mk.nth xs k) = true) : frk F xs (k + 1) = frk F xs k ++ [Mk.nth xs k] := by
  unfold frk; rw [take_snoc xs k hk, List.filter_append]; simp [h]
theorem frk_miss {F xs : List Nat} {k : Nat} (hk : k < xs.length) (h : Mk.hasB F (Mk.nth xs k) = false) : frk F xs (k + 1) = frk F xs k := by
  unfold frk; rw [take_snoc xs k hk, List.filter_append]; simp [h]
theorem frk_len (F xs : List Nat) (k : Nat) : (frk F xs k).length ≤ k := by
  unfold frk
  exact Nat.le_trans (List.length_filter_le _ _) (List.length_take_le _ _)
theorem frk_lt {F xs : List Nat} (h : ∀ x ∈ xs, x < 256) (k : Nat) : ∀ x ∈ frk F xs k, x < 256 := fun x hx => h x (List.mem_of_mem_take (List.mem_filter.1 hx).1)
theorem fr_vals (F : List Nat) (l : List Core) : (fr F l).map (·.1) = (l.map (·.1)).filter fun x => Mk.hasB F x := by
  unfold fr
  rw [List.filter_map]
  rfl
end Go.Proofs.Ythmlibapjhmdbaa
