/- The document's pool: Reserve. -/
import Derived.Test.YthmlibapjhmdbaaQ35
import Derived.OneCell
namespace Go.Proofs.Ythmlibapjhmdbaa
open Go.RowKit Go.Shelf Go.Maps

/-- Who has what, once these masks' cores are somebody's. -/
def gvs (ms : List (List Nat)) (n : Int) (Ow : List Int) (na : Nat) : List Int := ms.foldl (fun o m => gv m n o na) Ow
theorem gvs_snoc (ms : List (List Nat)) (n : Int) (Ow : List Int) (na j : Nat) (m : List Nat) (h : ms[j]? = some m) : gvs (ms.take (j + 1)) n Ow na = gv m n (gvs (ms.take j) n Ow na) na := by
  unfold gvs
  rw [takeM_snoc ms j m h, List.foldl_append]
  rfl
/-- What the document's Reserve tells. -/
def rrE (s q : Nat) (Ow : List Int) (na : Nat) (n r pe d : Int) : Int := if isOwn n = false then 1 else if rh Ow n = true then 14 else asE (Mk.ofL (hv Ow (-1) na)) s q r pe d
/-- What it gives: these masks. -/
def RGot (w w' : World) (r s q : Nat) (va vb : Value) (na nb : Nat) (Ow Dn : List Int) (n : Int) (ms : List (List Nat)) (e : Ending) : Prop :=
  ∃ gm R cap, e = .returned (.tuple #[.slice (some ⟨gm, 0, none⟩) R cap, .int .i64 0]) ∧ MasksAt w' w'.heap.size gm ms ∧ (∀ m ∈ ms, Mk.W4 m) ∧ ms.length = R ∧ R ≤ 32 ∧ RPool w' r s q va vb na nb (gvs ms n Ow na) Dn ∧ Td (RX r va vb) w w'
theorem RPool.far {w : World} {r s q na nb B : Nat} {va vb : Value} {Ow Dn : List Int} (h : RPool w r s q va vb na nb Ow Dn) (hr : r ≠ B) (ha : va.ownBlock ≠ some B) (hb : vb.ownBlock ≠ some B) (i : Nat) (x : Value) : RPool (w.setCell ⟨B, i, none⟩ x) r s q va vb na nb Ow Dn :=
  ⟨bk_far h.blk (a := ⟨B, i, none⟩) hr x, ownsRow_setCell_other h.ra (a := ⟨B, i, none⟩) ha x, ownsRow_setCell_other h.rb (a := ⟨B, i, none⟩) hb x, h.ab, h.la, h.lb⟩
theorem RPool.far4 {w : World} {r s q na nb B : Nat} {va vb : Value} {Ow Dn : List Int} (h : RPool w r s q va vb na nb Ow Dn) (hr : r ≠ B) (ha : va.ownBlock ≠ some B) (hb : vb.ownBlock ≠ some B) (x y z u : Value) : RPool ((((w.setCell ⟨B, 0, none⟩ x).setCell ⟨B, 1, none⟩ y).setCell ⟨B, 2, none⟩ z).setCell ⟨B, 3, none⟩ u) r s q va vb na nb Ow Dn :=
  (((h.far hr ha hb 0 x).far hr ha hb 1 y).far hr ha hb 2 z).far hr ha hb 3 u
theorem bset4 {B gg : Nat} {w V : World} (h : Below B w V) (hg : B ≤ gg) (a b c d : Value) : Below B w ((((V.setCell ⟨gg, 0, none⟩ a).setCell ⟨gg, 1, none⟩ b).setCell ⟨gg, 2, none⟩ c).setCell ⟨gg, 3, none⟩ d) :=
  (((h.setCell (p := ⟨gg, 0, none⟩) hg a).setCell (p := ⟨gg, 1, none⟩) hg b).setCell (p := ⟨gg, 2, none⟩) hg c).setCell (p := ⟨gg, 3, none⟩) hg d
theorem masks_grown {w w' : World} {g gm : Nat} {ms : List (List Nat)} (h : MasksAt w w.heap.size gm ms) (hg : w.grownBy w' (some g)) (hne : gm ≠ g) : MasksAt w' w'.heap.size gm ms := by
  refine ⟨Nat.lt_of_lt_of_le h.1 hg.size, fun k m hm j hj => ?_⟩
  rw [← h.2 k m hm j hj]
  unfold World.cell?
  rw [hg.block gm h.1 (fun e => hne (Option.some.inj e))]
set_option maxRecDepth 100000 in
set_option maxHeartbeats 8000000 in
theorem rreserve_any {w : World} {r s q na nb : Nat} {va vb : Value} {Ow Dn : List Int} (h : RPool w r s q va vb na nb Ow Dn) (hL : LOk s q) (hm : na ≤ 256) (h1 : 1 ≤ na) (n : Int) (x0 x1 x2 x3 rk_ pe d : Int) :
    Calls Try.prog 31 #[.pointer (some ⟨r, 0, none⟩), .int .i64 n, .agg #[.int .u64 x0, .int .u64 x1, .int .u64 x2, .int .u64 x3, .int .i64 rk_, .int .i64 pe, .int .i64 d]] w fun e w' =>
      (rrE s q Ow na n rk_ pe d ≠ 0 ∧ e = .returned (.tuple #[.slice none 0 0, .int .i64 (rrE s q Ow na n rk_ pe d)]) ∧ Below w.heap.size w w') ∨
      (rrE s q Ow na n rk_ pe d = 0 ∧ RGot w w' r s q va vb na nb Ow Dn n (asM (Mk.ofL (hv Ow (-1) na)) s q rk_ pe d) e) := by
  have hba := (Below.refl _ w).alloc (Nat.le_refl _) (.cells #[.int .u64 x0, .int .u64 x1, .int .u64 x2, .int .u64 x3, .int .i64 rk_, .int .i64 pe, .int .i64 d] 37)
  have k0 := Bk.new w 37 #[.int .u64 x0, .int .u64 x1, .int .u64 x2, .int .u64 x3, .int .i64 rk_, .int .i64 pe, .int .i64 d]
  have KO := Lib.hid (rowner_any n)
  have HH := Lib.hid (h.next hba)
  have hr := h.blk.lt
  have hra : r ≠ w.heap.size := by omega
  have hva : va.ownBlock ≠ some w.heap.size := fun e => by have := (own_blk h.ra e).2; omega
  have hvb : vb.ownBlock ≠ some w.heap.size := fun e => by have := (own_blk h.rb e).2; omega
  obtain ⟨er, her⟩ : ∃ er, er = rrE s q Ow na n rk_ pe d := ⟨_, rfl⟩
  rw [← her]
  unfold rrE at her
  clear h
  cases ho : isOwn n with
  | false =>
    rw [if_pos ho] at her
    rw [ho] at KO
    subst her
    clear ho
    go_enter Try.func31, Try.ntmps31
    go_wp2_with fail
    refine (KO.out _).mono ?_
    rintro _ w1 ⟨rfl, rfl⟩
    go_wp2_with fail
    go_ret2
    exact .inl ⟨by decide, rfl, hba⟩
  | true =>
    rw [if_neg (by rw [ho]; decide)] at her
    rw [ho] at KO
    clear ho
    have KH := Lib.hid (rhas_any HH.out hm n)
    cases hh : rh Ow n with
    | true =>
      rw [if_pos hh] at her
      rw [hh] at KH
      subst her
      clear hh
      go_enter Try.func31, Try.ntmps31
      go_wp2_with fail
      refine (KO.out _).mono ?_
      rintro _ w1 ⟨rfl, rfl⟩
      go_wp2_with fail
      refine KH.out.mono ?_
      rintro _ w2 ⟨rfl, hb⟩
      go_wp2_with fail
      go_ret2
      exact .inl ⟨by decide, rfl, bmore hba hb⟩
    | false =>
      rw [if_neg (by rw [hh]; decide)] at her
      rw [hh] at KH
      clear hh
      obtain ⟨F, hFe⟩ : ∃ F, Mk.ofL (hv Ow (-1) na) = F := ⟨_, rfl⟩
      have hF : Mk.W4 F := by rw [← hFe]; exact Mk.ofL_W4 (hv_lt hm)
      rw [hFe] at her ⊢
      obtain ⟨f0, f1, f2, f3, rfl⟩ : ∃ f0 f1 f2 f3, F = [f0, f1, f2, f3] := ⟨_, _, _, _, Mk.len4 hF.1⟩
      have KF := Lib.hid (show ∀ V, RPool V r s q va vb na nb Ow Dn → Calls Try.prog 14 #[.pointer (some ⟨r, 0, none⟩)] V fun e w' => e = .returned (.agg #[.int .u64 f0, .int .u64 f1, .int .u64 f2, .int .u64 f3]) ∧ Below V.heap.size V w' from fun V hV => by
        have := rfree_any hV hm
        rw [hFe] at this
        exact this)
      have KA := Lib.hid (fun V => rassign_ex s q d rk_ pe f0 f1 f2 f3 V hL hF)
      obtain ⟨ms, hms⟩ : ∃ ms, asM [f0, f1, f2, f3] s q rk_ pe d = ms := ⟨_, rfl⟩
      rw [hms] at KA ⊢
      rw [← her] at KA
      clear her hms hFe hF hL
      obtain ⟨g, cap, rfl⟩ := own_some HH.out.ra h1
      go_enter Try.func31, Try.ntmps31
      go_wp2_with fail
      refine (KO.out _).mono ?_
      rintro _ w1 ⟨rfl, rfl⟩
      go_wp2_with fail
      refine KH.out.mono ?_
      rintro _ w2 ⟨rfl, hb⟩
      have H2 := Lib.hid (HH.out.next hb)
      replace k0 := k0.next hb
      replace hba := bmore hba hb
      clear hb KH KO HH
      go_wp2_with fail
      refine (KF.out _ H2.out).mono ?_
      rintro _ w4 ⟨rfl, hb⟩
      have H4 := H2.out.next hb
      replace k0 := k0.next hb
      replace hba := bmore hba hb
      clear hb KF H2
      have y0 := k0.cell 0 _ rfl
      have y1 := k0.cell 1 _ rfl
      have y2 := k0.cell 2 _ rfl
      have y3 := k0.cell 3 _ rfl
      have z0 := k0.frozen 0
      have z1 := k0.frozen 1
      have z2 := k0.frozen 2
      have z3 := k0.frozen 3
      have HP := Lib.hid (H4.far4 hra hva hvb (.int .u64 f0) (.int .u64 f1) (.int .u64 f2) (.int .u64 f3))
      have HJ := Lib.hid (k0.set7 (.int .u64 f0) (.int .u64 f1) (.int .u64 f2) (.int .u64 f3))
      have HB := Lib.hid (bset4 hba (Nat.le_refl _) (.int .u64 f0) (.int .u64 f1) (.int .u64 f2) (.int .u64 f3))
      clear H4 k0 hba
      go_wp2_with fail
      clear y0 y1 y2 y3 z0 z1 z2 z3
      generalize (((w4.setCell ⟨w.heap.size, 0, none⟩ (.int .u64 f0)).setCell ⟨w.heap.size, 1, none⟩ (.int .u64 f1)).setCell ⟨w.heap.size, 2, none⟩ (.int .u64 f2)).setCell ⟨w.heap.size, 3, none⟩ (.int .u64 f3) = w5 at *
      have st : RPool w5 r s q (.slice (some ⟨g, 0, none⟩) na cap) vb na nb Ow Dn ∧ Bk w5 w.heap.size 37 #[.int .u64 f0, .int .u64 f1, .int .u64 f2, .int .u64 f3, .int .i64 rk_, .int .i64 pe, .int .i64 d] ∧ Below w.heap.size w w5 := ⟨HP.out, HJ.out, HB.out⟩
      have KS : Hid (∀ V, RPool V r s q (.slice (some ⟨g, 0, none⟩) na cap) vb na nb Ow Dn ∧ Bk V w.heap.size 37 #[.int .u64 f0, .int .u64 f1, .int .u64 f2, .int .u64 f3, .int .i64 rk_, .int .i64 pe, .int .i64 d] ∧ Below w.heap.size w V → V.cell? ⟨r, 0, none⟩ = some (.int .i64 s) ∧ V.cell? ⟨r, 1, none⟩ = some (.int .i64 q) ∧ V.cell? ⟨w.heap.size, 0, none⟩ = some (.int .u64 f0) ∧ V.cell? ⟨w.heap.size, 1, none⟩ = some (.int .u64 f1) ∧ V.cell? ⟨w.heap.size, 2, none⟩ = some (.int .u64 f2) ∧ V.cell? ⟨w.heap.size, 3, none⟩ = some (.int .u64 f3) ∧ V.cell? ⟨w.heap.size, 4, none⟩ = some (.int .i64 rk_) ∧ V.cell? ⟨w.heap.size, 5, none⟩ = some (.int .i64 pe) ∧ V.cell? ⟨w.heap.size, 6, none⟩ = some (.int .i64 d)) := Lib.hid (fun V hV => ⟨hV.1.blk.cell 0 _ rfl, hV.1.blk.cell 1 _ rfl, hV.2.1.cell 0 _ rfl, hV.2.1.cell 1 _ rfl, hV.2.1.cell 2 _ rfl, hV.2.1.cell 3 _ rfl, hV.2.1.cell 4 _ rfl, hV.2.1.cell 5 _ rfl, hV.2.1.cell 6 _ rfl⟩)
      have KX : Hid (∀ V V', RPool V r s q (.slice (some ⟨g, 0, none⟩) na cap) vb na nb Ow Dn ∧ Bk V w.heap.size 37 #[.int .u64 f0, .int .u64 f1, .int .u64 f2, .int .u64 f3, .int .i64 rk_, .int .i64 pe, .int .i64 d] ∧ Below w.heap.size w V → Below V.heap.size V V' → RPool V' r s q (.slice (some ⟨g, 0, none⟩) na cap) vb na nb Ow Dn ∧ Bk V' w.heap.size 37 #[.int .u64 f0, .int .u64 f1, .int .u64 f2, .int .u64 f3, .int .i64 rk_, .int .i64 pe, .int .i64 d] ∧ Below w.heap.size w V') := Lib.hid (fun V V' hV hb => ⟨hV.1.next hb, hV.2.1.next hb, bmore hV.2.2 hb⟩)
      have KY := Lib.hid (KX.out w5 w5.drew st (Below.refl _ _).drew)
      clear HP HJ HB
      by_cases he : er = 0
      · have KA2 := Lib.hid (show ∀ V : World, Calls Try.prog 51 #[.agg #[.int .i64 s, .int .i64 q], .agg #[.int .u64 f0, .int .u64 f1, .int .u64 f2, .int .u64 f3, .int .i64 rk_, .int .i64 pe, .int .i64 d]] V (fun x w' => GavX V w' ms x) from fun V => (KA.out V).mono fun x w' hx => by
          rcases hx with ⟨h2, _⟩ | ⟨_, h2⟩
          · exact absurd he h2
          · exact h2)
        have HE := Lib.hid he
        clear KA he
        go_region_held3 (fun W => W.cell? ⟨r, 0, none⟩ = some (.int .i64 s) ∧ W.cell? ⟨r, 1, none⟩ = some (.int .i64 q) ∧ W.cell? ⟨w.heap.size, 0, none⟩ = some (.int .u64 f0) ∧ W.cell? ⟨w.heap.size, 1, none⟩ = some (.int .u64 f1) ∧ W.cell? ⟨w.heap.size, 2, none⟩ = some (.int .u64 f2) ∧ W.cell? ⟨w.heap.size, 3, none⟩ = some (.int .u64 f3) ∧ W.cell? ⟨w.heap.size, 4, none⟩ = some (.int .i64 rk_) ∧ W.cell? ⟨w.heap.size, 5, none⟩ = some (.int .i64 pe) ∧ W.cell? ⟨w.heap.size, 6, none⟩ = some (.int .i64 d))
          (first | exact KS.out _ st | exact KS.out _ KY.out)
          (first | (go_at_call 51; refine (KA2.out _).mono ?_; rintro y wn ⟨gm, R, cap2, rfl, hgm, hM, hW4, hlen, hR32, hbn⟩; (first | replace hbn := undrew hbn | skip); have hgg := (own_blk st.1.ra rfl).2; replace st := KX.out _ _ st hbn; clear hbn))
        all_goals
          have hne := Lib.hid (show gm ≠ g from by first | (simp at hgm; omega) | omega)
          have HR6 := Lib.hid st.1
          have hB6 := Lib.hid (Td.of_below (X := RX r (.slice (some ⟨g, 0, none⟩) na cap) vb) st.2.2)
          have HW4 := Lib.hid hW4
          have HLN := Lib.hid hlen
          obtain ⟨w6, hw6⟩ : ∃ x, x = wn := ⟨_, rfl⟩
          subst hw6
          clear KY KX KS KA2 st hgm hgg hW4 hlen
          go_wp2_with fail
          go_loopg [10] R (fun c s10 wr => ∃ j : Nat, j + c = R ∧ s10 = .int .i64 j ∧ Hid (RPool wr r s q (.slice (some ⟨g, 0, none⟩) na cap) vb na nb (gvs (ms.take j) n Ow na) Dn) ∧ Hid (MasksAt wr wr.heap.size gm ms) ∧ Hid (Td (RX r (.slice (some ⟨g, 0, none⟩) na cap) vb) w wr))
          case atStart => exact ⟨0, by omega, rfl, HR6, Lib.hid hM, hB6⟩
          case round =>
            clear HR6 hB6 hM
            obtain ⟨j, hj, rfl, HR, HM, HBr⟩ := hrel
            cases gk with
            | zero =>
              obtain rfl : j = R := by omega
              have hlt : ¬ ((j : Int) < (j : Int)) := by omega
              have HT := Lib.hid (show ms.take j = ms from List.take_of_length_le (by have := HLN.out; omega))
              go_wp2_with fail
              go_ret2
              exact .inr ⟨HE.out, gm, j, cap2, rfl, HM.out, HW4.out, HLN.out, hR32, by have := HR.out; rw [HT.out] at this; exact this, HBr.out⟩
            | succ g1 =>
              have p0 : (0 : Int) ≤ (j : Int) := by omega
              have p1 : (j : Int) < (R : Int) := by omega
              obtain ⟨m, em⟩ : ∃ m, ms[j]? = some m := ⟨_, List.getElem?_eq_getElem (by have := HLN.out; omega)⟩
              have hm4 := HW4.out m (List.mem_of_getElem? em)
              have HS := Lib.hid (gvs_snoc ms n Ow na j m em)
              have hmc := HM.out.2 j m em
              have a0 := hmc 0 (by decide)
              have a1 := hmc 1 (by decide)
              have a2 := hmc 2 (by decide)
              have a3 := hmc 3 (by decide)
              simp only [Nat.add_zero] at a0
              have e4 := Mk.len4 hm4.1
              have KG := Lib.hid (give_any HR.out hm n (Mk.nth m 0) (Mk.nth m 1) (Mk.nth m 2) (Mk.nth m 3) (by rw [← e4]; exact hm4))
              rw [← e4, ← HS.out] at KG
              clear hmc em e4 hm4
              go_wp2_with fail
              refine KG.out.mono ?_
              rintro _ w7 ⟨⟨u, rfl⟩, hR7, hG7⟩
              have hgb : r + 1 ≤ g := (own_blk HR.out.ra rfl).1
              have hrl := HR.out.blk.lt
              have HB7 := Lib.hid (HBr.out.trans (Td.grown hG7 (fun k e => .inr (.inl e))))
              have HM7 := Lib.hid (masks_grown HM.out hG7 hne.out)
              have HR7 := Lib.hid hR7
              clear hR7 hG7 a0 a1 a2 a3 HR HM HBr KG hrl
              go_wp2_with fail
              go_roundg g1
              case measure => omega
              case rel => exact ⟨j + 1, by omega, by go_num, HR7, HM7, HB7⟩
      · have KA2 := Lib.hid (show ∀ V : World, Calls Try.prog 51 #[.agg #[.int .i64 s, .int .i64 q], .agg #[.int .u64 f0, .int .u64 f1, .int .u64 f2, .int .u64 f3, .int .i64 rk_, .int .i64 pe, .int .i64 d]] V (fun x w' => x = .returned (.tuple #[.slice none 0 0, .int .i64 er]) ∧ Below V.heap.size V w') from fun V => (KA.out V).mono fun x w' hx => by
          rcases hx with ⟨_, h2⟩ | ⟨h2, _⟩
          · exact h2
          · exact absurd h2 he)
        have HE := Lib.hid he
        clear KA he
        go_region_held3 (fun W => W.cell? ⟨r, 0, none⟩ = some (.int .i64 s) ∧ W.cell? ⟨r, 1, none⟩ = some (.int .i64 q) ∧ W.cell? ⟨w.heap.size, 0, none⟩ = some (.int .u64 f0) ∧ W.cell? ⟨w.heap.size, 1, none⟩ = some (.int .u64 f1) ∧ W.cell? ⟨w.heap.size, 2, none⟩ = some (.int .u64 f2) ∧ W.cell? ⟨w.heap.size, 3, none⟩ = some (.int .u64 f3) ∧ W.cell? ⟨w.heap.size, 4, none⟩ = some (.int .i64 rk_) ∧ W.cell? ⟨w.heap.size, 5, none⟩ = some (.int .i64 pe) ∧ W.cell? ⟨w.heap.size, 6, none⟩ = some (.int .i64 d))
          (first | exact KS.out _ st | exact KS.out _ KY.out)
          (first | (go_at_call 51; refine (KA2.out _).mono ?_; rintro y wn ⟨rfl, hbn⟩; (first | replace hbn := undrew hbn | skip); replace st := KX.out _ _ st hbn; clear hbn))
        all_goals
          have HX := Lib.hid st.2.2
          clear KY KX KS KA2 st
          go_wp2_with fail
          go_loopg [10] 0 (fun c s10 wr => s10 = .int .i64 0 ∧ wr = wn)
          case atStart => exact ⟨rfl, rfl⟩
          case round =>
            obtain ⟨rfl, rfl⟩ := hrel
            go_wp2_with fail
            go_ret2
            exact .inl ⟨HE.out, rfl, HX.out⟩
end Go.Proofs.Ythmlibapjhmdbaa
