/- The document's tally: New. -/
import Derived.Test.YtodgkjmkjahkiaaU1
import Derived.Deep.DeepCutAuto
namespace Go.Proofs.Ytodgkjmkjahkiaa
open Go.RowKit Go.Maps

theorem RIn.next {w w' : World} {q na nb nc : Nat} {va vb vc : Value} {ns vs cs : List Int} (h : RIn w q va vb vc na nb nc ns vs cs) (hb : Below w.heap.size w w') : RIn w' q va vb vc na nb nc ns vs cs :=
  ⟨h.blk.next hb, own_next h.ra hb, own_next h.rb hb, own_next h.rc hb, h.ab, h.ac, h.bc⟩
theorem pushA_facts {w : World} {q na nb nc : Nat} {va vb vc : Value} {ns vs cs : List Int} {x : Int} (h : RIn w q va vb vc na nb nc ns vs cs) (v' : Value) (w6 : World) (hown : w6.ownsRow (q + 1) 3 1 v' (na + 1) (iv ns ++ [.int .i64 x])) (hg : (w.alloc (.cells #[.int .i64 x] 3)).grownBy w6 va.ownBlock) (hat : v'.ownBlock = va.ownBlock ∨ v'.ownBlock = some (w.alloc (.cells #[.int .i64 x] 3)).heap.size) :
    w6.cell? ⟨q, 0, none⟩ = some va ∧ w6.frozen? ⟨q, 0, none⟩ = false ∧ RIn (w6.setCell ⟨q, 0, none⟩ v') q v' vb vc (na + 1) nb nc (ns ++ [x]) vs cs ∧ Below q w (w6.setCell ⟨q, 0, none⟩ v') := by
  have hqn : va.ownBlock ≠ some q := fun e => by have := (own_blk h.ra e).1; omega
  have hb := h.blk.alloc (.cells #[.int .i64 x] 3)
  have hb6 : Bk w6 q 72 #[va, vb, vc] := (hg.block q hb.lt (fun e => hqn e.symm)).trans hb
  obtain ⟨h1, h2⟩ := h.pushA hown hg hat
  exact ⟨hb6.cell 0 _ rfl, hb6.frozen 0, h1, h2⟩
theorem pushB_facts {w : World} {q na nb nc : Nat} {va vb vc : Value} {ns vs cs : List Int} {x : Int} (h : RIn w q va vb vc na nb nc ns vs cs) (v' : Value) (w6 : World) (hown : w6.ownsRow (q + 1) 3 1 v' (nb + 1) (iv vs ++ [.int .i64 x])) (hg : (w.alloc (.cells #[.int .i64 x] 3)).grownBy w6 vb.ownBlock) (hat : v'.ownBlock = vb.ownBlock ∨ v'.ownBlock = some (w.alloc (.cells #[.int .i64 x] 3)).heap.size) :
    w6.cell? ⟨q, 1, none⟩ = some vb ∧ w6.frozen? ⟨q, 1, none⟩ = false ∧ RIn (w6.setCell ⟨q, 1, none⟩ v') q va v' vc na (nb + 1) nc ns (vs ++ [x]) cs ∧ Below q w (w6.setCell ⟨q, 1, none⟩ v') := by
  have hqn : vb.ownBlock ≠ some q := fun e => by have := (own_blk h.rb e).1; omega
  have hb := h.blk.alloc (.cells #[.int .i64 x] 3)
  have hb6 : Bk w6 q 72 #[va, vb, vc] := (hg.block q hb.lt (fun e => hqn e.symm)).trans hb
  obtain ⟨h1, h2⟩ := h.pushB hown hg hat
  exact ⟨hb6.cell 1 _ rfl, hb6.frozen 1, h1, h2⟩
theorem pushC_facts {w : World} {q na nb nc : Nat} {va vb vc : Value} {ns vs cs : List Int} {x : Int} (h : RIn w q va vb vc na nb nc ns vs cs) (v' : Value) (w6 : World) (hown : w6.ownsRow (q + 1) 3 1 v' (nc + 1) (iv cs ++ [.int .i64 x])) (hg : (w.alloc (.cells #[.int .i64 x] 3)).grownBy w6 vc.ownBlock) (hat : v'.ownBlock = vc.ownBlock ∨ v'.ownBlock = some (w.alloc (.cells #[.int .i64 x] 3)).heap.size) :
    w6.cell? ⟨q, 2, none⟩ = some vc ∧ w6.frozen? ⟨q, 2, none⟩ = false ∧ RIn (w6.setCell ⟨q, 2, none⟩ v') q va vb v' na nb (nc + 1) ns vs (cs ++ [x]) ∧ Below q w (w6.setCell ⟨q, 2, none⟩ v') := by
  have hqn : vc.ownBlock ≠ some q := fun e => by have := (own_blk h.rc e).1; omega
  have hb := h.blk.alloc (.cells #[.int .i64 x] 3)
  have hb6 : Bk w6 q 72 #[va, vb, vc] := (hg.block q hb.lt (fun e => hqn e.symm)).trans hb
  obtain ⟨h1, h2⟩ := h.pushC hown hg hat
  exact ⟨hb6.cell 2 _ rfl, hb6.frozen 2, h1, h2⟩
/-- The node ahead of a place. -/
def lastN (zs : List Int) (i : Nat) : Int := if i = 0 then -1 else zs.getD (i - 1) 0
/-- What the document's New leaves. -/
def RNew (w : World) (n : Nat) (zs : List Int) (e : Ending) (w' : World) : Prop := ((okN zs = false ∧ e = .returned (.pointer none)) ∨ (okN zs = true ∧ ∃ q va vb vc, e = .returned (.pointer (some ⟨q, 0, none⟩)) ∧ RIn w' q va vb vc n n n zs (List.replicate n 0) (List.replicate n (-1)) ∧ w.heap.size ≤ q)) ∧ Below w.heap.size w w'
set_option maxRecDepth 100000 in
set_option maxHeartbeats 8000000 in
theorem rnew_any (A : Option Addr) (n cap : Nat) (zs : List Int) (w : World) (h : Il w A n zs) :
    Calls Try.prog 31 #[.slice A n cap] w (RNew w n zs) := by
  have hde := Lib.hid (show okN zs = (upB (-1) zs && decide (0 < n)) from by rw [← h.len]; rfl)
  have hbig := Lib.hid (show okN zs = true → n ≤ 16 from fun e => by rw [← h.len]; exact okN_len e)
  have hmost := h.most
  unfold maxLen at hmost
  have H := Lib.hid h
  clear h
  obtain ⟨ti, hi, hz0, hz1, hz2⟩ := info_parts info3
  by_cases g1 : n < 1
  · have g1' : (n : Int) < 1 := by omega
    have hT := Lib.hid (show okN zs = false from by rw [hde.out, show decide (0 < n) = false from by simp; omega]; simp)
    go_enter Try.func31, Try.ntmps31
    go_wp2
    go_ret
    exact ⟨.inl ⟨hT.out, rfl⟩, Below.refl _ _⟩
  · have g1' : ¬ ((n : Int) < 1) := by omega
    by_cases g2 : n > 16
    · have g2' : (n : Int) > 16 := by omega
      have hT := Lib.hid (show okN zs = false from by
        cases e : okN zs with
        | false => rfl
        | true => have := hbig.out e; omega)
      go_enter Try.func31, Try.ntmps31
      go_wp2
      go_ret
      exact ⟨.inl ⟨hT.out, rfl⟩, Below.refl _ _⟩
    · have g2' : ¬ ((n : Int) > 16) := by omega
      have kb := Bk.new w 72 #[.slice none 0 0, .slice none 0 0, .slice none 0 0]
      have hlow := Lib.hid (below_alloc w (.cells #[.slice none 0 0, .slice none 0 0, .slice none 0 0] 72))
      have hR0 := Lib.hid (show RIn (w.alloc (.cells #[.slice none 0 0, .slice none 0 0, .slice none 0 0] 72)) w.heap.size (.slice none 0 0) (.slice none 0 0) (.slice none 0 0) 0 0 0 [] [] [] from ⟨kb, World.ownsRow_nil _ _ _ _, World.ownsRow_nil _ _ _ _, World.ownsRow_nil _ _ _ _, (fun g e => by simp [Value.ownBlock] at e), (fun g e => by simp [Value.ownBlock] at e), (fun g e => by simp [Value.ownBlock] at e)⟩)
      clear kb
      go_enter Try.func31, Try.ntmps31
      go_wp2
      generalize w.alloc (.cells #[.slice none 0 0, .slice none 0 0, .slice none 0 0] 72) = w1 at *
      obtain ⟨q, hq0⟩ : ∃ q, q = w.heap.size := ⟨_, rfl⟩
      have HQ := Lib.hid hq0.symm
      rw [← hq0] at hR0 hlow ⊢
      clear hq0
      go_loopg [4] n (fun g s4 wr => ∃ (i : Nat) (va vb vc : Value), i + g = n ∧ s4 = .int .i64 i ∧ RIn wr q va vb vc i i i (zs.take i) (List.replicate i 0) (List.replicate i (-1)) ∧ Hid (upB (-1) zs = upB (lastN zs i) (zs.drop i) ∧ -1 ≤ lastN zs i) ∧ Below q w wr)
      case atStart => exact ⟨0, _, _, _, by omega, rfl, hR0.out, Lib.hid ⟨rfl, show (-1 : Int) ≤ -1 by omega⟩, hlow.out⟩
      case round =>
        obtain ⟨i, va, vb, vc, hig, rfl, hR, HU, hb⟩ := hrel
        cases gk with
        | zero =>
          obtain rfl : i = n := by omega
          have hlt : ¬ ((i : Int) < (i : Int)) := by omega
          have hT := Lib.hid (show okN zs = true from by
            rw [hde.out, HU.out.1, List.drop_eq_nil_of_le (by rw [H.out.len]; exact Nat.le_refl _), show decide (0 < i) = true from by simp; omega]; rfl)
          have ht := Lib.hid (show zs.take i = zs from List.take_of_length_le (by rw [H.out.len]; exact Nat.le_refl _))
          rw [ht.out] at hR
          go_wp2
          go_ret
          exact ⟨.inr ⟨hT.out, q, va, vb, vc, rfl, hR, by rw [HQ.out]; exact Nat.le_refl _⟩, by rw [HQ.out]; exact hb⟩
        | succ g =>
          have i0 : (0 : Int) ≤ (i : Int) := by omega
          have i1 : (i : Int) < (n : Int) := by omega
          have hsz := hb.size
          have hsz0 : q ≤ wr.heap.size := by have := hR.blk.lt; omega
          have HI := Lib.hid (show IntsAt wr A zs from H.out.ints.next (by have := hb; rw [← HQ.out] at this; exact this))
          obtain ⟨ad, rfl, h1, h2⟩ := HI.out.at_ (k := i) (by rw [H.out.len]; omega)
          have HD := Lib.hid (show upB (-1) zs = (decide (lastN zs i < zs.getD i 0) && decide (zs.getD i 0 < 16) && upB (zs.getD i 0) (zs.drop (i + 1))) from by
            rw [HU.out.1, List.drop_eq_getElem_cons (by rw [H.out.len]; omega)]
            unfold upB
            rw [List.getD_eq_getElem?_getD, List.getElem?_eq_getElem (by rw [H.out.len]; omega)]
            cases zs.drop (i + 1) <;> rfl)
          have HL := Lib.hid (show lastN zs (i + 1) = zs.getD i 0 from by unfold lastN; rw [if_neg (by omega)]; rfl)
          have HT := Lib.hid (show zs.take (i + 1) = zs.take i ++ [zs.getD i 0] from by
            rw [List.take_add_one, List.getElem?_eq_getElem (by rw [H.out.len]; omega), List.getD_eq_getElem?_getD, List.getElem?_eq_getElem (by rw [H.out.len]; omega)]; rfl)
          have hlge := HU.out.2
          have hF := Lib.hid (show ¬ (lastN zs i < zs.getD i 0 ∧ zs.getD i 0 < 16) → okN zs = false from fun hh => by
            rw [hde.out, HD.out]
            cases e1 : decide (lastN zs i < zs.getD i 0)
            · simp
            · cases e2 : decide (zs.getD i 0 < 16)
              · simp
              · exact absurd ⟨of_decide_eq_true e1, of_decide_eq_true e2⟩ hh)
          obtain ⟨b, hb0⟩ : ∃ b, b = lastN zs i := ⟨_, rfl⟩
          obtain ⟨z, hz0⟩ : ∃ z, z = zs.getD i 0 := ⟨_, rfl⟩
          rw [← hz0] at h2 HD HL HT hF
          rw [← hb0] at HD hlge hF
          have HB0 := Lib.hid hb0
          obtain ⟨bb, hbb0⟩ : ∃ bb : Bool, bb = !(decide (b < z) && decide (z < 16)) := ⟨_, rfl⟩
          have hbb := Lib.hid hbb0
          clear hz0 hb0 hbb0 HU
          go_upto_region 7 with fail
          go_cut [48] (fun s48 wx => s48 = .bool bb ∧ Below wr.heap.size wr wx)
          case first =>
            by_cases z0 : z < 0
            · have HBB : bb = true := by rw [hbb.out, show decide (b < z) = false from by simp; omega]; rfl
              have q0 : decide (z < 0) = true := by simpa using z0
              clear z0
              go_quiet (fail)
              go_wp2
              go_meet
              exact ⟨by rw [HBB], below_drewN' (Below.refl _ _) _⟩
            · have q0 : decide (z < 0) = false := by simpa using z0
              by_cases z1 : z > 15
              · have HBB : bb = true := by rw [hbb.out, show decide (z < 16) = false from by simp; omega]; simp
                have q1 : decide (15 < z) = true := by simpa using z1
                clear z0 z1
                go_quiet (fail)
                go_wp2
                go_meet
                exact ⟨by rw [HBB], below_drewN' (Below.refl _ _) _⟩
              · have q1 : decide (15 < z) = false := by simpa using z1
                by_cases hi0 : i = 0
                · have q2 : decide (0 < i) = false := by simp; omega
                  have HBB : bb = false := by
                    have : b = -1 := by rw [HB0.out]; unfold lastN; rw [if_pos hi0]
                    rw [hbb.out, show decide (b < z) = true from by simp; omega, show decide (z < 16) = true from by simp; omega]; rfl
                  clear z0 z1 hi0
                  go_quiet (fail)
                  go_wp2
                  go_meet
                  exact ⟨by rw [HBB], below_drewN' (Below.refl _ _) _⟩
                · have q2 : decide (0 < i) = true := by simp; omega
                  have hl0 : b = zs.getD (i - 1) 0 := by rw [HB0.out]; unfold lastN; rw [if_neg hi0]
                  obtain ⟨i', hi'⟩ : ∃ i', i' = i - 1 := ⟨_, rfl⟩
                  have h5 := (HI.out.cellAt' (k := i') (by rw [H.out.len]; omega)).1
                  rw [hi', ← hl0, ← hi'] at h5
                  have hsub : (i : Int) - 1 = (i' : Int) := by omega
                  have j0 : (0 : Int) ≤ (i' : Int) := by omega
                  have j1 : (i' : Int) < (n : Int) := by omega
                  have HBB : Hid (bb = !decide (b < z)) := Lib.hid (by rw [hbb.out, show decide (z < 16) = true from by simp; omega]; simp)
                  clear hl0 hi0 hi' z0 z1
                  by_cases zb : z ≤ b
                  · have HB2 : bb = true := by rw [HBB.out, show decide (b < z) = false from by simp; omega]; rfl
                    have q3 : decide (z ≤ b) = true := by simpa using zb
                    clear zb
                    go_quiet (fail)
                    go_wp2
                    go_meet
                    exact ⟨by rw [HB2], below_drewN' (Below.refl _ _) _⟩
                  · have HB2 : bb = false := by rw [HBB.out, show decide (b < z) = true from by simp; omega]; rfl
                    have q3 : decide (z ≤ b) = false := by simpa using zb
                    clear zb
                    go_quiet (fail)
                    go_wp2
                    go_meet
                    exact ⟨by rw [HB2], below_drewN' (Below.refl _ _) _⟩
          case rest =>
            obtain ⟨rfl, hbc⟩ := hcut
            have hbW : Below q w wc := hb.trans (hbc.mono hsz0)
            cases bb
            · have hbz : b < z ∧ z < 16 := by
                have := hbb.out
                cases e1 : decide (b < z)
                · rw [e1] at this; simp at this
                · cases e2 : decide (z < 16)
                  · rw [e2] at this; simp at this
                  · exact ⟨of_decide_eq_true e1, of_decide_eq_true e2⟩
              have HN := Lib.hid (show upB (-1) zs = upB (lastN zs (i + 1)) (zs.drop (i + 1)) ∧ -1 ≤ lastN zs (i + 1) from ⟨by rw [HD.out, HL.out, decide_eq_true hbz.1, decide_eq_true hbz.2]; rfl, by rw [HL.out]; omega⟩)
              have hRW := hR.next hbc
              have hCW := (hbc.cell (p := ad.add i) (by rw [block_add]; exact h1)).trans h2
              have hsW := hbW.size
              clear hF HD HL hlge hbb hbz h1 h2 hR hb hsz hbc HI
              go_upto_region 9 with fail
              have c0 := hRW.blk.cell 0 _ rfl
              have hqW := hRW.blk.lt
              have hRd := hRW.next (Below.refl _ _).drew
              have HNX := Lib.hid (fun v' w6 q1 q2 q3 => pushA_facts (x := z) hRd v' w6 q1 q2 q3)
              go_cut [] (fun wx => ∃ va', RIn wx q va' vb vc (i + 1) i i (zs.take i ++ [z]) (List.replicate i 0) (List.replicate i (-1)) ∧ Below q w wx)
              case first =>
                go_region_law (first | (refine app_i rfl (.tmp 53) (.tmp 58) rfl (q + 1) i va (iv (zs.take i)) z rfl (hRd.ra.alloc _) wc.heap.size 1 rfl (Bk.new _ _ _) (by omega) (by simp; omega) ?_; intro v' w6 hown' hg' hat'; obtain ⟨z1, z2, z3, z4⟩ := HNX.out v' w6 hown' hg' hat'; obtain ⟨A', cap', rfl⟩ := own_form hown'))
                all_goals
                  have hb7 := hbW.drew.trans z4
                  go_wp2
                  go_meet
                  exact ⟨_, z3, hb7⟩
              case rest =>
                obtain ⟨va', hR7, hb7⟩ := hcut
                clear c0 hRd HNX hRW hCW hbW hsW
                go_upto_region 10 with fail
                have c1 := hR7.blk.cell 1 _ rfl
                have hs7 := hb7.size
                have HR7 := Lib.hid hR7
                obtain ⟨W7, hW7⟩ : ∃ x, x = wc := ⟨_, rfl⟩
                subst hW7
                go_cut [] (fun wx => ∃ vb', RIn wx q va' vb' vc (i + 1) (i + 1) i (zs.take i ++ [z]) (List.replicate i 0 ++ [0]) (List.replicate i (-1)) ∧ Below q w wx)
                case first =>
                  go_wp2_with (at_builtin; refine wpList_append_own_at _ rfl _ _ 28 rfl (q + 1) 3 ti (.int .i64 0) 1 8 Try.underlying28 hi hz0 hz1 hz2 rfl (by decide) _ _ _ rfl (HR7.out.rb.alloc _) ⟨W7.heap.size, 0, none⟩ 1 1 [.int .i64 0] rfl rfl (cell_one_new _ _ _) (by simp [Value.oneCell']) (by unfold maxLen; omega) (by omega) (by have := HR7.out.blk.lt; simp; omega) ?_; intro v8 w8 hown8 hg8 _ hat8; obtain ⟨y1, y2, y3, y4⟩ := pushB_facts HR7.out v8 w8 hown8 hg8 hat8; obtain ⟨A8, cap8, rfl⟩ := own_form hown8)
                  go_meet
                  exact ⟨_, y3, hb7.trans y4⟩
                case rest =>
                  obtain ⟨vb', hR9, hb9⟩ := hcut
                  clear c1 HR7 hR7 hb7 hs7
                  go_upto_region 11 with fail
                  have c2 := hR9.blk.cell 2 _ rfl
                  have hs9 := hb9.size
                  have HR9 := Lib.hid hR9
                  obtain ⟨W9, hW9⟩ : ∃ x, x = wc := ⟨_, rfl⟩
                  subst hW9
                  go_wp2_with (at_builtin; refine wpList_append_own_at _ rfl _ _ 28 rfl (q + 1) 3 ti (.int .i64 0) 1 8 Try.underlying28 hi hz0 hz1 hz2 rfl (by decide) _ _ _ rfl (HR9.out.rc.alloc _) ⟨W9.heap.size, 0, none⟩ 1 1 [.int .i64 (-1)] rfl rfl (cell_one_new _ _ _) (by simp [Value.oneCell']) (by unfold maxLen; omega) (by omega) (by have := HR9.out.blk.lt; simp; omega) ?_; intro v10 w10 hown10 hg10 _ hat10; obtain ⟨x1, x2, x3, x4⟩ := pushC_facts HR9.out v10 w10 hown10 hg10 hat10; obtain ⟨A10, cap10, rfl⟩ := own_form hown10)
                  have hb10 := hb9.trans x4
                  rw [← HT.out, ← List.replicate_succ', ← List.replicate_succ'] at x3
                  go_roundg g
                  case measure => omega
                  case rel => exact ⟨i + 1, _, _, _, by omega, by go_num, x3, HN, hb10⟩
            · have hT := Lib.hid (hF.out (fun hh => by have := hbb.out; rw [decide_eq_true hh.1, decide_eq_true hh.2] at this; cases this))
              go_wp2
              go_ret
              exact ⟨.inl ⟨hT.out, rfl⟩, by rw [HQ.out]; exact hbW⟩
end Go.Proofs.Ytodgkjmkjahkiaa
