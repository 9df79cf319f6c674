/- The document's dag: the order. -/
import Derived.Test.YtodgkjmkjahkiaaR1
import Derived.Laws.OwnMore
namespace Go.Proofs.Ytodgkjmkjahkiaa
open Go.RowKit

/-- Bools as values. -/
def bv (f : Nat → Bool) (n : Nat) : List Value := (List.range n).map fun j => Value.bool (f j)
theorem bv_len (f : Nat → Bool) (n : Nat) : (bv f n).length = n := by simp [bv]
theorem bv_at {f : Nat → Bool} {n j : Nat} (h : j < n) : (bv f n)[j]? = some (.bool (f j)) := by simp [bv, h]
theorem bv_set {f : Nat → Bool} {n q : Nat} : (bv f n).set q (.bool true) = bv (fun j => f j || j == q) n := by
  apply List.ext_getElem?
  intro j
  rw [List.getElem?_set]
  by_cases hj : j < n
  · rw [bv_at hj, bv_at hj, bv_len]
    by_cases e : q = j
    · subst e; simp [hj]
    · rw [if_neg e]
      have : (j == q) = false := by simp; omega
      rw [this]
      simp
  · rw [List.getElem?_eq_none (l := bv f n) (by rw [bv_len]; omega), List.getElem?_eq_none (l := bv _ n) (by rw [bv_len]; omega), bv_len]
    split
    · split
      · omega
      · rfl
    · rfl
theorem bv_cong {f g : Nat → Bool} {n : Nat} (h : ∀ j, f j = g j) : bv f n = bv g n := by unfold bv; simp [h]
theorem has_snoc (o : List Int) (q j : Nat) : hasB (o ++ [(q : Int)]) (j : Int) = (hasB o j || j == q) := by
  rw [Bool.eq_iff_iff, hasB_iff, Bool.or_eq_true, hasB_iff, List.mem_append, List.mem_singleton, beq_iff_eq]
  constructor
  · rintro (h | h)
    · exact .inl h
    · exact .inr (by omega)
  · rintro (h | h)
    · exact .inl h
    · exact .inr (by omega)
theorem own_low {w w' : World} {base size n cap g B m : Nat} {e : TypeId} {xs : List Value} (h : w.ownsRow base e size (.slice (some ⟨g, 0, none⟩) n cap) m xs) (hb : Below B w w') (hg : g < B) : w'.ownsRow base e size (.slice (some ⟨g, 0, none⟩) n cap) m xs := by
  refine ⟨h.1, ?_⟩
  rcases h.2 with ⟨h0, _⟩ | ⟨g', cap', cur, h1, h2, h3, h4⟩
  · cases h0
  · have e1 := h1
    cases e1
    exact .inr ⟨g, cap, cur, h1, h2, (hb.block g hg).trans h3, h4⟩
theorem only_grown0 {w w' : World} (h : w.grownBy w' none) : Below w.heap.size w w' := ⟨h.os, h.tape, h.output, h.size, fun i hi => h.block i hi (by simp)⟩
theorem info4 : (Try.prog.info? 4).map (fun i => (i.zero, i.size, i.bytes)) = some (some (.bool false), 1, 1) := by kernel_rfl
theorem made_bv (n : Nat) : (madeCells (Value.cells (.bool false)) (n * 1)).toList = bv (fun j => hasB [] (j : Int)) n := by
  show (madeCells #[Value.bool false] (n * 1)).toList = _
  rw [Nat.mul_one, toList_madeCells_one]
  apply List.ext_getElem?
  intro j
  by_cases hj : j < n
  · rw [bv_at hj]; simp [hj, hasB]
  · rw [List.getElem?_eq_none (by simp; omega), List.getElem?_eq_none (by rw [bv_len]; omega)]
set_option maxRecDepth 100000 in
set_option maxHeartbeats 4000000 in
theorem rorder_any (A : Option Addr) (n cap : Nat) (l : List St) (w : World) (h : Sl w A n cap l) (hm : mayB l = true) : Calls Try.prog 46 #[.slice A n cap] w (Gives w (placesB l)) := by
  obtain ⟨ti, hi, hz0, hz1, hz2⟩ := info_parts info3
  obtain ⟨tb, bi, bz0, bz1, bz2⟩ := info_parts info4
  have h16 := (may_len hm).2
  rw [h.len] at h16
  have HM := Lib.hid (fun i k (hi : i < n) (hk : k < (stA l i).es.length) => may_edge hm (i := i) (k := k) (by rw [h.len]; exact hi) hk)
  have HL := Lib.hid h.len
  have H := Lib.hid h
  obtain ⟨w1, hmk, hd0, hg0⟩ := run_make_full w w.heap.size 56 4 tb (.bool false) 1 Try.underlying56 bi bz0 bz1 .i64 .i64 n (by rw [bz2]; omega) (by unfold maxLen; omega) (Nat.le_refl _)
  rw [made_bv] at hd0
  have hb1 := only_grown0 hg0
  have hs1 : w.heap.size < w1.heap.size := by
    rcases hd0.2 with ⟨e, _⟩ | ⟨g', c', cu, e, _, e2, _⟩
    · cases e
    · cases e; exact (Array.getElem?_eq_some_iff.1 e2).1
  clear hm h hg0
  go_enter Try.func46, Try.ntmps46
  go_wp2
  clear hmk
  go_loopg [3] n (fun g s3 wr => ∃ o : List Int, o.length + g = n ∧ Hid (placesF l g o = placesB l) ∧ wr.ownsRow w1.heap.size 3 1 s3 o.length (iv o) ∧ wr.ownsRow w.heap.size 4 1 (.slice (some ⟨w.heap.size, 0, none⟩) n n) n (bv (fun j => hasB o (j : Int)) n) ∧ Below w.heap.size w wr ∧ w1.heap.size ≤ wr.heap.size)
  case atStart => exact ⟨[], by simp, Lib.hid (by unfold placesB; rw [HL.out]), World.ownsRow_nil _ _ _ _, hd0, hb1, Nat.le_refl _⟩
  case round =>
    obtain ⟨o, hog, HP, hrow, hd, hb, hsz⟩ := hrel
    obtain ⟨wo, hwo⟩ : ∃ x, x = wr := ⟨_, rfl⟩
    subst hwo
    obtain ⟨A1, cap1, rfl⟩ := own_form hrow
    have HB := Lib.hid hb
    cases gk with
    | zero =>
      have HE := Lib.hid (show placesB l = o from HP.out.symm)
      have hlt : ¬ ((o.length : Int) < (n : Int)) := by omega
      clear HP
      go_wp2
      go_ret
      refine ⟨_, rfl, ?_, HB.out⟩
      rw [HE.out]
      exact Joins.ownsRow_le hrow (by omega)
    | succ g =>
      have hol : (o.length : Int) < (n : Int) := by omega
      go_wp2
      go_loopg [5, 6] n (fun g2 s5 s6 wy => ∃ i : Nat, i + g2 = n ∧ s6 = .int .i64 i ∧ ((s5 = .int .i64 (-1) ∧ Hid (∀ j, j < i → canB l o j = false)) ∨ ∃ q : Nat, s5 = .int .i64 q ∧ q < n ∧ Hid (nextB l o = some q)) ∧ wy = wo)
      case atStart => exact ⟨0, by omega, rfl, .inl ⟨rfl, Lib.hid (fun j hj => absurd hj (Nat.not_lt_zero _))⟩, rfl⟩
      case round =>
        obtain ⟨i, hig, rfl, (⟨rfl, HJ⟩ | ⟨q, rfl, hq, HQ⟩), rfl⟩ := hrel
        · cases gk with
          | zero =>
            have hlt : ¬ ((i : Int) < (n : Int)) := by omega
            have HE := Lib.hid (show placesB l = o from by
              rw [← HP.out]
              exact placesF_none (leastR_none.2 fun j hj => HJ.out j (by rw [HL.out] at hj; omega)))
            go_wp2
            go_ret
            refine ⟨_, rfl, ?_, HB.out⟩
            rw [HE.out]
            exact Joins.ownsRow_le hrow (by omega)
          | succ g2 =>
            have i0 : (0 : Int) ≤ (i : Int) := by omega
            have i1 : (i : Int) < (n : Int) := by omega
            obtain ⟨ad, B, c, rfl, h1, h2⟩ := (H.out.sts.next HB.out).at_ (i := i) (by rw [HL.out]; omega)
            have G := Lib.hid h2
            have c4 := h2.c4
            have lm := h2.lm
            unfold maxLen at lm
            have hdi := (hd.cellAt i (by omega)).trans (bv_at (by omega))
            have HO := Lib.hid (fun k (hk : k < (stA l i).es.length) => HM.out i k (by omega) hk)
            have HC := Lib.hid (show canB l o i = (!hasB o i && allR (fun k => hasB o (edA (stA l i).es k).s) (stA l i).es.length) from rfl)
            have hnx := Lib.hid (show canB l o i = true → nextB l o = some i from fun e => leastR_some (by rw [HL.out]; omega) e HJ.out)
            have hno := Lib.hid (show canB l o i = false → ∀ j, j < i + 1 → canB l o j = false from fun h0 j hj => by
              rcases Nat.lt_or_ge j i with h | h
              · exact HJ.out j h
              · obtain rfl : j = i := by omega
                exact h0)
            clear h2
            generalize hasB o i = b0 at *
            generalize stA l i = x at *
            go_wp2
            go_loopg [7, 8] x.es.length (fun g3 s7 s8 wz => ∃ k : Nat, k + g3 = x.es.length ∧ s8 = .int .i64 k ∧ s7 = .bool (!b0 && allR (fun k => hasB o (edA x.es k).s) k) ∧ wz = wr)
            case atStart => exact ⟨0, by omega, rfl, by cases b0 <;> rfl, rfl⟩
            case round =>
              obtain ⟨k, hkg, rfl, rfl, rfl⟩ := hrel
              cases gk with
              | zero =>
                have hkm : ¬ ((k : Int) < (x.es.length : Int)) := by omega
                have HC2 := Lib.hid (show canB l o i = (!b0 && allR (fun k => hasB o (edA x.es k).s) k) from by rw [HC.out, (show k = x.es.length from by omega)])
                generalize (!b0 && allR (fun k => hasB o (edA x.es k).s) k) = b at *
                cases b
                · have hN := Lib.hid (hno.out HC2.out)
                  go_wp2
                  go_roundg g2
                  case measure => omega
                  case rel => exact ⟨i + 1, by omega, by go_num, .inl ⟨rfl, hN⟩, rfl⟩
                · have hN := Lib.hid (hnx.out HC2.out)
                  go_wp2
                  go_roundg g2
                  case measure => omega
                  case rel => exact ⟨i + 1, by omega, by go_num, .inr ⟨i, rfl, by omega, hN⟩, rfl⟩
              | succ g3 =>
                have j0 : (0 : Int) ≤ (k : Int) := by omega
                have j1 : (k : Int) < (x.es.length : Int) := by omega
                obtain ⟨ad3, hB, hh, d0, d1⟩ := G.out.eds.at_ (k := k) (by omega)
                subst hB
                obtain ⟨j, hj, hjl⟩ := HO.out k (by omega)
                rw [HL.out] at hjl
                have hS := Lib.hid (show (!b0 && allR (fun k => hasB o (edA x.es k).s) (k + 1)) = ((!b0 && allR (fun k => hasB o (edA x.es k).s) k) && hasB o (j : Int)) from by
                  show (!b0 && (allR _ k && hasB o (edA x.es k).s)) = _
                  rw [hj, Bool.and_assoc])
                rw [hj] at d0
                have hdj := (hd.cellAt j (by omega)).trans (bv_at hjl)
                have p0 : (0 : Int) ≤ (j : Int) := by omega
                have p1 : (j : Int) < (n : Int) := by omega
                clear hj
                generalize hasB o (j : Int) = bj at *
                generalize (!b0 && allR (fun k => hasB o (edA x.es k).s) k) = b at *
                cases b
                · go_wp2
                  go_roundg g3
                  case measure => omega
                  case rel => exact ⟨k + 1, by omega, by go_num, by rw [hS.out]; rfl, rfl⟩
                · go_wp2
                  go_roundg g3
                  case measure => omega
                  case rel => exact ⟨k + 1, by omega, by go_num, by rw [hS.out]; rfl, rfl⟩
        · have HC := Lib.hid (show placesF l (g + 1) o = placesF l g (o ++ [(q : Int)]) from placesF_some HQ.out)
          have q0 : (0 : Int) ≤ (q : Int) := by omega
          have q1 : (q : Int) < (n : Int) := by omega
          have q2 : ¬ ((q : Int) < 0) := by omega
          have k6 := (hd.cellAt q (by omega)).trans (bv_at hq)
          have f6 := hd.frozenAt q
          have hst := Lib.hid (hd.stored q (.bool true)).1
          have hro := Lib.hid (ownsRow_setCell_below hrow (a := ⟨w.heap.size, q, none⟩) hs1 (.bool true))
          have hbs := Lib.hid (show Below w.heap.size w (wr.setCell ⟨w.heap.size, q, none⟩ (.bool true)) from HB.out.setCell (Nat.le_refl _) _)
          have hss : (wr.setCell ⟨w.heap.size, q, none⟩ (.bool true)).heap.size = wr.heap.size := by simp
          have hrl : o.length ≤ 16 := by omega
          clear hd hb
          by_cases hin : (i : Int) < (n : Int)
          all_goals
            go_wp2_with (at_builtin; refine wpList_append_own _ rfl _ _ 28 rfl w1.heap.size 3 ti (.int .i64 0) 1 8 Try.underlying28 hi hz0 hz1 hz2 rfl (by decide) _ _ _ rfl (hro.out.alloc _) ⟨wr.heap.size, 0, none⟩ 1 1 [.int .i64 q] rfl rfl (by have := cell_one_new (wr.setCell ⟨w.heap.size, q, none⟩ (.bool true)) (.int .i64 q) 3; rw [hss] at this; exact this) (by simp [Value.oneCell']) (by unfold maxLen; omega) (by omega) (by simp; omega) ?_; intro v6 w6 hown6 hgrow6 _; obtain ⟨g6, cap6, rfl⟩ := ownsRow_succ hown6; have hb6 := appended_below hro.out (by rw [hss]; exact hsz) hgrow6)
            go_roundg g
            case measure => omega
            case rel =>
              refine ⟨o ++ [(q : Int)], by simp; omega, Lib.hid (by rw [← HC.out]; exact HP.out), ?_, ?_, hbs.out.trans (hb6.mono (by omega)), ?_⟩
              · rw [iv_snoc, List.length_append]; exact hown6
              · have := own_low hst.out hb6 hs1
                rw [bv_set, bv_cong (fun j => (has_snoc o q j).symm)] at this
                exact this
              · have := hb6.size
                rw [hss] at this
                omega
end Go.Proofs.Ytodgkjmkjahkiaa
