/- The document's pool: Reserve. -/
import Derived.Test.YthmlibapjhmdbaaGQ32xQ33xQ35
import Derived.OneCell
namespace Go.Proofs.Ythmlibapjhmdbaa
open Go.RowKit Go.Shelf Go.Maps

/-- Who has what, once these masks' cores are somebody's. -/
def gvs (ms : List (List Nat)) (n : Int) (Ow : List Int) (na : Nat) : List Int := ms.foldl (fun o m => gv m n o na) Ow
theorem gvs_snoc (ms : List (List Nat)) (n : Int) (Ow : List Int) (na j : Nat) (m : List Nat) (h : ms[j]? = some m) : gvs (ms.take (j + 1)) n Ow na = gv m n (gvs (ms.take j) n Ow na) na := by
  unfold gvs
  rw [takeM_snoc ms j m h, List.foldl_append]
  rfl
/-- What the document's Reserve tells. -/
def rrE (s q : Nat) (Ow : List Int) (na : Nat) (n r pe d : Int) : Int := if isOwn n = false then 1 else if rh Ow n = true then 14 else asE (Mk.ofL (hv Ow (-1) na)) s q r pe d
/-- What it gives: these masks. -/
def RGot (w w' : World) (r s q : Nat) (va vb : Value) (na nb : Nat) (Ow Dn : List Int) (n : Int) (ms : List (List Nat)) (e : Ending) : Prop :=
  ∃ gm R cap, e = .returned (.tuple #[.slice (some ⟨gm, 0, none⟩) R cap, .int .i64 0]) ∧ MasksAt w' w'.heap.size gm ms ∧ (∀ m ∈ ms, Mk.W4 m) ∧ ms.length = R ∧ R ≤ 32 ∧ RPool w' r s q va vb na nb (gvs ms n Ow na) Dn ∧ Td (RX r va vb) w w'
theorem RPool.far {w : World} {r s q na nb B : Nat} {va vb : Value} {Ow Dn : List Int} (h : RPool w r s q va vb na nb Ow Dn) (hr : r ≠ B) (ha : va.ownBlock ≠ some B) (hb : vb.ownBlock ≠ some B) (i : Nat) (x : Value) : RPool (w.setCell ⟨B, i, none⟩ x) r s q va vb na nb Ow Dn :=
  ⟨bk_far h.blk (a := ⟨B, i, none⟩) hr x, ownsRow_setCell_other h.ra (a := ⟨B, i, none⟩) ha x, ownsRow_setCell_other h.rb (a := ⟨B, i, none⟩) hb x, h.ab, h.la, h.lb⟩
theorem RPool.far4 {w : World} {r s q na nb B : Nat} {va vb : Value} {Ow Dn : List Int} (h : RPool w r s q va vb na nb Ow Dn) (hr : r ≠ B) (ha : va.ownBlock ≠ some B) (hb : vb.ownBlock ≠ some B) (x y z u : Value) : RPool ((((w.setCell ⟨B, 0, none⟩ x).setCell ⟨B, 1, none⟩ y).setCell ⟨B, 2, none⟩ z).setCell ⟨B, 3, none⟩ u) r s q va vb na nb Ow Dn :=
  (((h.far hr ha hb 0 x).far hr ha hb 1 y).far hr ha hb 2 z).far hr ha hb 3 u
theorem bset4 {B gg : Nat} {w V : World} (h : Below B w V) (hg : B ≤ gg) (a b c d : Value) : Below B w ((((V.setCell ⟨gg, 0, none⟩ a).setCell ⟨gg, 1, none⟩ b).setCell ⟨gg, 2, none⟩ c).setCell ⟨gg, 3, none⟩ d) :=
  (((h.setCell (p := ⟨gg, 0, none⟩) hg a).setCell (p := ⟨gg, 1, none⟩) hg b).setCell (p := ⟨gg, 2, none⟩) hg c).setCell (p := ⟨gg, 3, none⟩) hg d
theorem masks_grown {w w' : World} {g gm : Nat} {ms : List (List Nat)} (h : MasksAt w w.heap.size gm ms) (hg : w.grownBy w' (some g)) (hne : gm ≠ g) : MasksAt w' w'.heap.size gm ms := by
  refine ⟨Nat.lt_of_lt_of_le h.1 hg.size, fun k m hm j hj => ?_⟩
  rw [← h.2 k m hm j hj]
  unfold World.cell?
  rw [hg.block gm h.1 (fun e => hne (Option.some.inj e))]
set_option maxRecDepth 100000 in
set_option maxHeartbeats 8000000 in
theorem rreserve_any {w : World} {r s q na nb : Nat} {va vb : Value} {Ow Dn : List Int} (h : RPool w r s q va vb na nb Ow Dn) (hL : LOk s q) (hm : na ≤ 256) (h1 : 1 ≤ na) (n : Int) (x0 x1 x2 x3 rk_ pe d : Int) :
    Calls Try.prog 31 #[.pointer (some ⟨r, 0, none⟩), .int .i64 n, .agg #[.int .u64 x0, .int .u64 x1, .int .u64 x2, .int .u64 x3, .int .i64 rk_, .int .i64 pe, .int .i64 d]] w fun e w' =>
      (rrE s q Ow na n rk_ pe d ≠ 0 ∧ e = .returned (.tuple #[.slice none 0 0, .int .i64 (rrE s q Ow na n rk_ pe d)]) ∧ Below w.heap.size w w') ∨
      (rrE s q Ow na n rk_ pe d = 0 ∧ RGot w w' r s q va vb na nb Ow Dn n (asM (Mk.ofL (hv Ow (-1) na)) s q rk_ pe d) e) := by
  have hba := (Below.refl _ w).alloc (Nat.le_refl _) (.cells #[.int .u64 x0, .int .u64 x1, .int .u64 x2, .int .u64 x3, .int .i64 rk_, .int .i64 pe, .int .i64 d] 37)
  have k0 := Bk.new w 37 #[.int .u64 x0, .int .u64 x1, .int .u64 x2, .int .u64 x3, .int .i64 rk_, .int .i64 pe, .int .i64 d]
  have KO := Lib.hid (rowner_any n)
  have HH := Lib.hid (h.next hba)
  have hr := h.blk.lt
  have hra : r ≠ w.heap.size := by omega
  have hva : va.ownBlock ≠ some w.heap.size := fun e => by have := (own_blk h.ra e).2; omega
  have hvb : vb.ownBlock ≠ some w.heap.size := fun e => by have := (own_blk h.rb e).2; omega
  obtain ⟨er, her⟩ : ∃ er, er = rrE s q Ow na n rk_ pe d := ⟨_, rfl⟩
  rw [← her]
  unfold rrE at her
  clear h
  cases ho : isOwn n with
  | false =>
    rw [if_pos ho] at her
    rw [ho] at KO
    subst her
    clear ho
    go_enter Try.func31, Try.ntmps31
    go_wp2_with fail
    refine (KO.out _).mono ?_
    rintro _ w1 ⟨rfl, rfl⟩
    go_wp2_with fail
    go_ret2
    exact .inl ⟨by decide, rfl, hba⟩
  | true =>
    rw [if_neg (by rw [ho]; decide)] at her
    rw [ho] at KO
    clear ho
    have KH := Lib.hid (rhas_any HH.out hm n)
    cases hh : rh Ow n with
    | true =>
      rw [if_pos hh] at her
      rw [hh] at KH
      subst her
      clear hh
      go_enter Try.func31, Try.ntmps31
      go_wp2_with fail
      refine (KO.out _).mono ?_
      rintro _ w1 ⟨rfl, rfl⟩
      go_wp2_with fail
      refine KH.out.mono ?_
      rintro _ w2 ⟨rfl, hb⟩
      go_wp2_with fail
      go_ret2
      exact .inl ⟨by decide, rfl, bmore hba hb⟩
    | false =>
      rw [if_neg (by rw [hh]; decide)] at her
      rw [hh] at KH
      clear hh
      obtain ⟨F, hFe⟩ : ∃ F, Mk.ofL (hv Ow (-1) na) = F := ⟨_, rfl⟩
      have hF : Mk.W4 F := by rw [← hFe]; exact Mk.ofL_W4 (hv_lt hm)
      rw [hFe] at her ⊢
      obtain ⟨f0, f1, f2, f3, rfl⟩ : ∃ f0 f1 f2 f3, F = [f0, f1, f2, f3] := ⟨_, _, _, _, Mk.len4 hF.1⟩
      have KF := Lib.hid (show ∀ V, RPool V r s q va vb na nb Ow Dn → Calls Try.prog 14 #[.pointer (some ⟨r, 0, none⟩)] V fun e w' => e = .returned (.agg #[.int .u64 f0, .int .u64 f1, .int .u64 f2, .int .u64 f3]) ∧ Below V.heap.size V w' from fun V hV => by
        have := rfree_any hV hm
        rw [hFe] at this
        exact this)
      have KA := Lib.hid (fun V => rassign_ex s q d rk_ pe f0 f1 f2 f3 V hL hF)
      obtain ⟨ms, hms⟩ : ∃ ms, asM [f0, f1, f2, f3] s q rk_ pe d = ms := ⟨_, rfl⟩
      rw [hms] at KA ⊢
      rw [← her] at KA
      clear her hms hFe hF hL
      obtain ⟨g, cap, rfl⟩ := own_some HH.out.ra h1
      go_enter Try.func31, Try.ntmps31
      go_wp2_with fail
      refine (KO.out _).mono ?_
      rintro _ w1 ⟨rfl, rfl⟩
      go_wp2_with fail
      refine KH.out.mono ?_
      rintro _ w2 ⟨rfl, hb⟩
      have H2 := Lib.hid (HH.out.next hb)
      replace k0 := k0.next hb
      replace hba := bmore hba hb
      clear hb KH KO HH
      go_wp2_with fail
      refine (KF.out _ H2.out).mono ?_
      rintro _ w4 ⟨rfl, hb⟩
      have H4 := H2.out.next hb
      replace k0 := k0.next hb
      replace hba := bmore hba hb
      clear hb KF H2
      have y0 := k0.cell 0 _ rfl
      have y1 := k0.cell 1 _ rfl
      have y2 := k0.cell 2 _ rfl
      have y3 := k0.cell 3 _ rfl
      have z0 := k0.frozen 0
      have z1 := k0.frozen 1
      have z2 := k0.frozen 2
      have z3 := k0.frozen 3
      have HP := Lib.hid (H4.far4 hra hva hvb (.int .u64 f0) (.int .u64 f1) (.int .u64 f2) (.int .u64 f3))
      have HJ := Lib.hid (k0.set7 (.int .u64 f0) (.int .u64 f1) (.int .u64 f2) (.int .u64 f3))
      have HB := Lib.hid (bset4 hba (Nat.le_refl _) (.int .u64 f0) (.int .u64 f1) (.int .u64 f2) (.int .u64 f3))
      clear H4 k0 hba
      go_wp2_with fail
      clear y0 y1 y2 y3 z0 z1 z2 z3
      generalize (((w4.setCell ⟨w.heap.size, 0, none⟩ (.int .u64 f0)).setCell ⟨w.heap.size, 1, none⟩ (.int .u64 f1)).setCell ⟨w.heap.size, 2, none⟩ (.int .u64 f2)).setCell ⟨w.heap.size, 3, none⟩ (.int .u64 f3) = w5 at *
      have st : RPool w5 r s q (.slice (some ⟨g, 0, none⟩) na cap) vb na nb Ow Dn ∧ Bk w5 w.heap.size 37 #[.int .u64 f0, .int .u64 f1, .int .u64 f2, .int .u64 f3, .int .i64 rk_, .int .i64 pe, .int .i64 d] ∧ Below w.heap.size w w5 := ⟨HP.out, HJ.out, HB.out⟩
      have KS : Hid (∀ V, RPool V r s q (.slice (some ⟨g, 0, none⟩) na cap) vb na nb Ow Dn ∧ Bk V w.heap.size 37 #[.int .u64 f0, .int .u64 f1, .int .u64 f2, .int .u64 f3, .int .i64 rk_, .int .i64 pe, .int .i64 d] ∧ Below w.heap.size w V → V.cell? ⟨r, 0, none⟩ = some (.int .i64 s) ∧ V.cell? ⟨r, 1, none⟩ = some (.int .i64 q) ∧ V.cell? ⟨w.heap.size, 0, none⟩ = some (.int .u64 f0) ∧ V.cell? ⟨w.heap.size, 1, none⟩ = some (.int .u64 f1) ∧ V.cell? ⟨w.heap.size, 2, none⟩ = some (.int .u64 f2) ∧ V.cell? ⟨w.heap.size, 3, none⟩ = some (.int .u64 f3) ∧ V.cell? ⟨w.heap.size, 4, none⟩ = some (.int .i64 rk_) ∧ V.cell? ⟨w.heap.size, 5, none⟩ = some (.int .i64 pe) ∧ V.cell? ⟨w.heap.size, 6, none⟩ = some (.int .i64 d)) := Lib.hid (fun V hV => ⟨hV.1.blk.cell 0 _ rfl, hV.1.blk.cell 1 _ rfl, hV.2.1.cell 0 _ rfl, hV.2.1.cell 1 _ rfl, hV.2.1.cell 2 _ rfl, hV.2.1.cell 3 _ rfl, hV.2.1.cell 4 _ rfl, hV.2.1.cell 5 _ rfl, hV.2.1.cell 6 _ rfl⟩)
      have KX : Hid (∀ V V', RPool V r s q (.slice (some ⟨g, 0, none⟩) na cap) vb na nb Ow Dn ∧ Bk V w.heap.size 37 #[.int .u64 f0, .int .u64 f1, .int .u64 f2, .int .u64 f3, .int .i64 rk_, .int .i64 pe, .int .i64 d] ∧ Below w.heap.size w V → Below V.heap.size V V' → RPool V' r s q (.slice (some ⟨g, 0, none⟩) na cap) vb na nb Ow Dn ∧ Bk V' w.heap.size 37 #[.int .u64 f0, .int .u64 f1, .int .u64 f2, .int .u64 f3, .int .i64 rk_, .int .i64 pe, .int .i64 d] ∧ Below w.heap.size w V') := Lib.hid (fun V V' hV hb => ⟨hV.1.next hb, hV.2.1.next hb, bmore hV.2.2 hb⟩)
      have KY := Lib.hid (KX.out w5 w5.drew st (Below.refl _ _).drew)
      clear HP HJ HB
      by_cases he : er = 0
      · have KA2 := Lib.hid (show ∀ V : World, Calls Try.prog 51 #[.agg #[.int .i64 s, .int .i64 q], .agg #[.int .u64 f0, .int .u64 f1, .int .u64 f2, .int .u64 f3, .int .i64 rk_, .int .i64 pe, .int .i64 d]] V (fun x w' => GavX V w' ms x) from fun V => (KA.out V).mono fun x w' hx => by
          rcases hx with ⟨h2, _⟩ | ⟨_, h2⟩
          · exact absurd he h2
          · exact h2)
        have HE := Lib.hid he
        clear KA he
        go_region_held3 (fun W => W.cell? ⟨r, 0, none⟩ = some (.int .i64 s) ∧ W.cell? ⟨r, 1, none⟩ = some (.int .i64 q) ∧ W.cell? ⟨w.heap.size, 0, none⟩ = some (.int .u64 f0) ∧ W.cell? ⟨w.heap.size, 1, none⟩ = some (.int .u64 f1) ∧ W.cell? ⟨w.heap.size, 2, none⟩ = some (.int .u64 f2) ∧ W.cell? ⟨w.heap.size, 3, none⟩ = some (.int .u64 f3) ∧ W.cell? ⟨w.heap.size, 4, none⟩ = some (.int .i64 rk_) ∧ W.cell? ⟨w.heap.size, 5, none⟩ = some (.int .i64 pe) ∧ W.cell? ⟨w.heap.size, 6, none⟩ = some (.int .i64 d))
          (first | exact KS.out _ st | exact KS.out _ KY.out)
          (first | (go_at_call 51; refine (KA2.out _).mono ?_; rintro y wn ⟨gm, R, cap2, rfl, hgm, hM, hW4, hlen, hR32, hbn⟩; (first | replace hbn := undrew hbn | skip); have hgg := (own_blk st.1.ra rfl).2; replace st := KX.out _ _ st hbn; clear hbn))
        all_goals
          have hne := Lib.hid (show gm ≠ g from by first | (simp at hgm; omega) | omega)
          have HR6 := Lib.hid st.1
          have hB6 := Lib.hid (Td.of_below (X := RX r (.slice (some ⟨g, 0, none⟩) na cap) vb) st.2.2)
          have HW4 := Lib.hid hW4
          have HLN := Lib.hid hlen
          obtain ⟨w6, hw6⟩ : ∃ x, x = wn := ⟨_, rfl⟩
          subst hw6
          clear KY KX KS KA2 st hgm hgg hW4 hlen
          go_wp2_with fail
          go_loopg [10] R (fun c s10 wr => ∃ j : Nat, j + c = R ∧ s10 = .int .i64 j ∧ Hid (RPool wr r s q (.slice (some ⟨g, 0, none⟩) na cap) vb na nb (gvs (ms.take j) n Ow na) Dn) ∧ Hid (MasksAt wr wr.heap.size gm ms) ∧ Hid (Td (RX r (.slice (some ⟨g, 0, none⟩) na cap) vb) w wr))
          case atStart => exact ⟨0, by omega, rfl, HR6, Lib.hid hM, hB6⟩
          case round =>
            clear HR6 hB6 hM
            obtain ⟨j, hj, rfl, HR, HM, HBr⟩ := hrel
            cases gk with
            | zero =>
              obtain rfl : j = R := by omega
              have hlt : ¬ ((j : Int) < (j : Int)) := by omega
              have HT := Lib.hid (show ms.take j = ms from List.take_of_length_le (by have := HLN.out; omega))
              go_wp2_with fail
              go_ret2
              exact .inr ⟨HE.out, gm, j, cap2, rfl, HM.out, HW4.out, HLN.out, hR32, by have := HR.out; rw [HT.out] at this; exact this, HBr.out⟩
            | succ g1 =>
              have p0 : (0 : Int) ≤ (j : Int) := by omega
              have p1 : (j : Int) < (R : Int) := by omega
              obtain ⟨m, em⟩ : ∃ m, ms[j]? = some m := ⟨_, List.getElem?_eq_getElem (by have := HLN.out; omega)⟩
              have hm4 := HW4.out m (List.mem_of_getElem? em)
              have HS := Lib.hid (gvs_snoc ms n Ow na j m em)
              have hmc := HM.out.2 j m em
              have a0 := hmc 0 (by decide)
              have a1 := hmc 1 (by decide)
              have a2 := hmc 2 (by decide)
              have a3 := hmc 3 (by decide)
              simp only [Nat.add_zero] at a0
              have e4 := Mk.len4 hm4.1
              have KG := Lib.hid (give_any HR.out hm n (Mk.nth m 0) (Mk.nth m 1) (Mk.nth m 2) (Mk.nth m 3) (by rw [← e4]; exact hm4))
              rw [← e4, ← HS.out] at KG
              clear hmc em e4 hm4
              go_wp2_with fail
              refine KG.out.mono ?_
              rintro _ w7 ⟨⟨u, rfl⟩, hR7, hG7⟩
              have hgb : r + 1 ≤ g := (own_blk HR.out.ra rfl).1
              have hrl := HR.out.blk.lt
              have HB7 := Lib.hid (HBr.out.trans (Td.grown hG7 (fun k e => .inr (.inl e))))
              have HM7 := Lib.hid (masks_grown HM.out hG7 hne.out)
              have HR7 := Lib.hid hR7
              clear hR7 hG7 a0 a1 a2 a3 HR HM HBr KG hrl
              go_wp2_with fail
              go_roundg g1
              case measure => omega
              case rel => exact ⟨j + 1, by omega, by go_num, HR7, HM7, HB7⟩
      · have KA2 := Lib.hid (show ∀ V : World, Calls Try.prog 51 #[.agg #[.int .i64 s, .int .i64 q], .agg #[.int .u64 f0, .int .u64 f1, .int .u64 f2, .int .u64 f3, .int .i64 rk_, .int .i64 pe, .int .i64 d]] V (fun x w' => x = .returned (.tuple #[.slice none 0 0, .int .i64 er]) ∧ Below V.heap.size V w') from fun V => (KA.out V).mono fun x w' hx => by
          rcases hx with ⟨_, h2⟩ | ⟨h2, _⟩
          · exact h2
          · exact absurd h2 he)
        have HE := Lib.hid he
        clear KA he
        go_region_held3 (fun W => W.cell? ⟨r, 0, none⟩ = some (.int .i64 s) ∧ W.cell? ⟨r, 1, none⟩ = some (.int .i64 q) ∧ W.cell? ⟨w.heap.size, 0, none⟩ = some (.int .u64 f0) ∧ W.cell? ⟨w.heap.size, 1, none⟩ = some (.int .u64 f1) ∧ W.cell? ⟨w.heap.size, 2, none⟩ = some (.int .u64 f2) ∧ W.cell? ⟨w.heap.size, 3, none⟩ = some (.int .u64 f3) ∧ W.cell? ⟨w.heap.size, 4, none⟩ = some (.int .i64 rk_) ∧ W.cell? ⟨w.heap.size, 5, none⟩ = some (.int .i64 pe) ∧ W.cell? ⟨w.heap.size, 6, none⟩ = some (.int .i64 d))
          (first | exact KS.out _ st | exact KS.out _ KY.out)
          (first | (go_at_call 51; refine (KA2.out _).mono ?_; rintro y wn ⟨rfl, hbn⟩; (first | replace hbn := undrew hbn | skip); replace st := KX.out _ _ st hbn; clear hbn))
        all_goals
          have HX := Lib.hid st.2.2
          clear KY KX KS KA2 st
          go_wp2_with fail
          go_loopg [10] 0 (fun c s10 wr => s10 = .int .i64 0 ∧ wr = wn)
          case atStart => exact ⟨rfl, rfl⟩
          case round =>
            obtain ⟨rfl, rfl⟩ := hrel
            go_wp2_with fail
            go_ret2
            exact .inl ⟨HE.out, rfl, HX.out⟩
end Go.Proofs.Ythmlibapjhmdbaa
/- The law's told of masks. -/
namespace Go.Proofs.Ythmlibapjhmdbaa
open Go.RowKit Go.Shelf Go.Maps

set_option maxRecDepth 100000 in
set_option maxHeartbeats 400000 in
theorem told_nil (w : World) : Calls Try.prog 33 #[.slice none 0 0] w fun e w' => e = .returned (.slice none 0 0) ∧ w = w' := by
  go_enter Try.func33, Try.ntmps33
  go_wp2_with fail
  go_loop [3, 4] (fun a i => a = .slice none 0 0 ∧ i = .int .i64 0) (fun _ _ => 0)
  case atStart => exact ⟨rfl, rfl⟩
  case round =>
    obtain ⟨rfl, rfl⟩ := hrel
    go_wp2_with fail
    go_ret
    exact ⟨rfl, rfl⟩
/-- What told gives: the masks again. -/
def Tms (w w' : World) (ms : List (List Nat)) (n : Nat) (e : Ending) : Prop :=
  ∃ (gt cap : Nat), e = .returned (.slice (some ⟨gt, 0, none⟩) n cap) ∧ MasksAt w' w'.heap.size gt ms ∧ Below w.heap.size w w'
set_option maxRecDepth 100000 in
set_option maxHeartbeats 4000000 in
theorem told_any {w : World} {gm n cap : Nat} {ms : List (List Nat)} (hA : MasksAt w w.heap.size gm ms) (hn : ms.length = n) (h1 : 1 ≤ n) (hl : n ≤ 32) :
    Calls Try.prog 33 #[.slice (some ⟨gm, 0, none⟩) n cap] w fun e w' => Tms w w' ms n e := by
  have HN := Lib.hid hn
  obtain ⟨j0, hj, hy0, hy1, hy2⟩ := info_parts infoB
  clear hn
  go_enter Try.func33, Try.ntmps33
  go_wp2_with fail
  go_loopg [3, 4] n (fun c s3 s4 wr => ∃ j : Nat, j + c = n ∧ s4 = .int .i64 j ∧ wr.ownsRow w.heap.size 35 4 s3 j (mv (ms.take j)) ∧ Below w.heap.size w wr)
  case atStart => exact ⟨0, by omega, rfl, World.ownsRow_nil _ _ _ _, Below.refl _ _⟩
  case round =>
    obtain ⟨j, hjc, rfl, hrow, hb⟩ := hrel
    obtain ⟨A2, cap2, rfl⟩ := own_form hrow
    cases gk with
    | zero =>
      obtain rfl : j = n := by omega
      have hlt : ¬ ((j : Int) < (j : Int)) := by omega
      rw [List.take_of_length_le (by have := HN.out; omega)] at hrow
      obtain ⟨g, cap3, hg⟩ := own_some hrow (by omega)
      obtain ⟨rfl, rfl⟩ : A2 = some ⟨g, 0, none⟩ ∧ cap2 = cap3 := by injection hg with e1 _ e2; exact ⟨e1, e2⟩
      have HM := Lib.hid (masks_own HN.out hrow)
      clear hrow hg
      go_wp2_with fail
      go_ret
      exact ⟨_, _, rfl, HM.out, hb⟩
    | succ g1 =>
      have p0 : (0 : Int) ≤ (j : Int) := by omega
      have p1 : (j : Int) < (n : Int) := by omega
      obtain ⟨m, em⟩ : ∃ m, ms[j]? = some m := ⟨_, List.getElem?_eq_getElem (by have := HN.out; omega)⟩
      have HT := Lib.hid (takeM_snoc _ _ _ em)
      have hmc := (hA.below hb).2 j m em
      have a0 := hmc 0 (by decide)
      have a1 := hmc 1 (by decide)
      have a2 := hmc 2 (by decide)
      have a3 := hmc 3 (by decide)
      simp only [Nat.add_zero] at a0
      have hsz := hb.size
      clear hmc em
      go_wp2_with (at_builtin; refine wpList_append_own _ rfl _ _ 71 rfl w.heap.size 35 j0 (.agg #[.int .u64 0, .int .u64 0, .int .u64 0, .int .u64 0]) 4 32 Try.underlying71 hj hy0 hy1 hy2 rfl (by decide) _ _ _ rfl (hrow.alloc _) ⟨wr.heap.size, 0, none⟩ 1 1 (w4 m) rfl rfl (World.news_of_block (Bk.new wr 35 #[.int .u64 (Mk.nth m 0 : Nat), .int .u64 (Mk.nth m 1 : Nat), .int .u64 (Mk.nth m 2 : Nat), .int .u64 (Mk.nth m 3 : Nat)])) (by simp [w4, Value.oneCell']) (by unfold maxLen; omega) (by omega) (by simp; omega) ?_; intro v' w6 hown' hgrow _; obtain ⟨g', cap', rfl⟩ := ownsRow_succ hown'; have hb6 := appended_below hrow hsz hgrow)
      go_roundg g1
      case measure => omega
      case rel => exact ⟨j + 1, by omega, by go_num, by rw [HT.out, mv_snoc]; exact hown', hb.trans hb6⟩
end Go.Proofs.Ythmlibapjhmdbaa
/- Both pools say the same, as plain facts. -/
namespace Go.Proofs.Ythmlibapjhmdbaa
open Go.RowKit Go.Shelf Go.Maps

theorem hv_mem {Ow : List Int} {n : Int} {k x : Nat} : x ∈ hv Ow n k ↔ x < k ∧ Ow[x]? = some n := by
  unfold hv
  rw [List.mem_filter, List.mem_range, decide_eq_true_eq]
theorem gv_get (m : List Nat) (n : Int) (Ow : List Int) (x : Nat) (hx : x < Ow.length) : ∀ k, (gv m n Ow k)[x]? = if x < k ∧ Mk.hasB m x = true then some n else Ow[x]?
  | 0 => by simp [gv]
  | k + 1 => by
    have ih := gv_get m n Ow x hx k
    unfold gv
    by_cases hk : Mk.hasB m k = true
    · rw [if_pos hk, List.getElem?_set]
      by_cases e : k = x
      · subst e
        rw [if_pos rfl, gv_len, if_pos hx, if_pos ⟨by omega, hk⟩]
      · rw [if_neg e, ih]
        by_cases hc : Mk.hasB m x = true
        · by_cases hlt : x < k
          · rw [if_pos ⟨hlt, hc⟩, if_pos ⟨by omega, hc⟩]
          · rw [if_neg (fun h => hlt h.1), if_neg (fun h => by omega)]
        · rw [if_neg (fun h => hc h.2), if_neg (fun h => hc h.2)]
    · rw [if_neg hk, ih]
      by_cases hc : Mk.hasB m x = true
      · have e : x ≠ k := fun e => hk (e ▸ hc)
        by_cases hlt : x < k
        · rw [if_pos ⟨hlt, hc⟩, if_pos ⟨by omega, hc⟩]
        · rw [if_neg (fun h => hlt h.1), if_neg (fun h => by omega)]
      · rw [if_neg (fun h => hc h.2), if_neg (fun h => hc h.2)]
theorem gvs_len (n : Int) (na : Nat) : ∀ (ms : List (List Nat)) (Ow : List Int), (gvs ms n Ow na).length = Ow.length
  | [], _ => rfl
  | m :: ms, Ow => (gvs_len n na ms (gv m n Ow na)).trans (gv_len m n Ow na)
theorem gvs_get (n : Int) (na x : Nat) : ∀ (ms : List (List Nat)) (Ow : List Int), x < Ow.length → x < na → (gvs ms n Ow na)[x]? = if ∃ m, m ∈ ms ∧ Mk.hasB m x = true then some n else Ow[x]?
  | [], Ow, _, _ => by simp [gvs]
  | m :: ms, Ow, hx, hk => by
    have ih := gvs_get n na x ms (gv m n Ow na) (by rw [gv_len]; exact hx) hk
    show (gvs ms n (gv m n Ow na) na)[x]? = _
    rw [ih, gv_get m n Ow x hx na]
    by_cases h1 : ∃ m, m ∈ ms ∧ Mk.hasB m x = true
    · obtain ⟨m', h2, h3⟩ := h1
      rw [if_pos ⟨m', h2, h3⟩, if_pos ⟨m', List.mem_cons_of_mem _ h2, h3⟩]
    · rw [if_neg h1]
      by_cases h2 : Mk.hasB m x = true
      · rw [if_pos ⟨hk, h2⟩, if_pos ⟨m, List.mem_cons_self, h2⟩]
      · rw [if_neg (fun h => h2 h.2), if_neg]
        rintro ⟨m', h3, h4⟩
        rcases List.mem_cons.1 h3 with rfl | h3
        · exact h2 h4
        · exact h1 ⟨m', h3, h4⟩
/-- Both say the same: of N cores, who has which; who committed. -/
structure Agr (N : Nat) (g : Int → Option Sh) (Ow Dn : List Int) : Prop where
  len : Ow.length = N
  own : ∀ x n, x < N → 0 ≤ n → (Ow[x]? = some n ↔ ∃ c, g n = some c ∧ Mk.hasB c.m x = true)
  free : ∀ x, x < N → (Ow[x]? = some (-1) ↔ ∀ n c, g n = some c → Mk.hasB c.m x = false)
  done : ∀ n, n ∈ Dn ↔ ∃ c, g n = some c ∧ c.t = true
  isO : ∀ n c, g n = some c → isOwn n = true
  apt : Apt (Mk.ofL (List.range N)) g
  some_ : ∀ n c, g n = some c → c.m ≠ Mk.zero
theorem isOwn_ge {n : Int} (h : isOwn n = true) : 0 ≤ n := by
  unfold isOwn at h
  simp at h
  omega
theorem Agr.start (N : Nat) : Agr N (fun _ => none) (List.replicate N (-1)) [] := by
  refine ⟨by simp, fun x n hx hn => ?_, fun x hx => ?_, fun n => by simp, fun n c h => (by cases h), Apt.none _, fun n c h => (by cases h)⟩
  · rw [List.getElem?_replicate, if_pos hx]
    constructor
    · intro e
      cases e
      omega
    · rintro ⟨c, h, _⟩
      cases h
  · rw [List.getElem?_replicate, if_pos hx]
    exact ⟨fun _ n c h => (by cases h), fun _ => rfl⟩
section
variable {N : Nat} {g : Int → Option Sh} {Ow Dn : List Int}
theorem Agr.inN (h : Agr N g Ow Dn) (hN : N ≤ 256) {n : Int} {c : Sh} (hc : g n = some c) {x : Nat} (hx : x < 256) (hb : Mk.hasB c.m x = true) : x < N := by
  have := h.apt.in_ n c hc x hx hb
  rw [Mk.has_ofL (fun y hy => by have := List.mem_range.1 hy; omega), decide_eq_true_eq, List.mem_range] at this
  exact this
/-- The cores of an owner, of both. -/
theorem Agr.of (h : Agr N g Ow Dn) (hN : N ≤ 256) {n : Int} (hn : 0 ≤ n) : Mk.ofL (hv Ow n N) = ((g n).getD Sh.none).m :=
  Mk.ext (Mk.ofL_W4 (hv_lt hN)) ((g n).getD Sh.none).ok fun x hx => by
    rw [Mk.has_ofL (hv_lt hN), Bool.eq_iff_iff, decide_eq_true_eq, hv_mem]
    constructor
    · rintro ⟨h1, h2⟩
      obtain ⟨c, h3, h4⟩ := (h.own x n h1 hn).1 h2
      rw [h3]
      exact h4
    · intro h1
      cases hg : g n with
      | none => rw [hg] at h1; simp [Sh.none, Mk.has_zero] at h1
      | some c =>
        rw [hg] at h1
        have hlt := h.inN hN hg hx h1
        exact ⟨hlt, (h.own x n hlt hn).2 ⟨c, hg, h1⟩⟩
/-- The free ones, of both. -/
theorem Agr.fr (h : Agr N g Ow Dn) (hN : N ≤ 256) : Mk.ofL (hv Ow (-1) N) = freeM (Mk.ofL (List.range N)) g :=
  Mk.ext (Mk.ofL_W4 (hv_lt hN)) (freeM_W4 _ g) fun x hx => by
    rw [Mk.has_ofL (hv_lt hN), Bool.eq_iff_iff, decide_eq_true_eq, hv_mem, freeM_has _ g hx, Mk.has_ofL (fun y hy => by have := List.mem_range.1 hy; omega), decide_eq_true_eq, List.mem_range]
    exact ⟨fun h1 => ⟨h1.1, (h.free x h1.1).1 h1.2⟩, fun h1 => ⟨h1.1, (h.free x h1.1).2 h1.2⟩⟩
theorem Agr.rh (h : Agr N g Ow Dn) (hN : N ≤ 256) (n : Int) : rh Ow n = (g n).isSome := by
  unfold Ythmlibapjhmdbaa.rh
  rw [h.len]
  cases ho : isOwn n with
  | false =>
    cases hg : g n with
    | none => rfl
    | some c => rw [h.isO n c hg] at ho; cases ho
  | true =>
    rw [h.of hN (isOwn_ge ho)]
    cases hg : g n with
    | none => simp [Sh.none]
    | some c => simp [h.some_ n c hg]
theorem Agr.rs (h : Agr N g Ow Dn) (hN : N ≤ 256) {s q : Nat} (hs : s * q = N) (n r pe d : Int) : rrE s q Ow N n r pe d = rsE s q g n r pe d := by
  unfold rrE rsE
  rw [h.rh hN, h.fr hN, hs]
theorem Agr.tk (h : Agr N g Ow Dn) (hN : N ≤ 256) {s q : Nat} (hs : s * q = N) (n : Int) (m : List Nat) : rtE Ow n m = tkE s q g n m := by
  unfold rtE tkE
  rw [h.rh hN, h.len, h.fr hN, hs]
/-- Somebody is given cores that were free. -/
theorem Agr.put (h : Agr N g Ow Dn) (hN : N ≤ 256) {n : Int} {c : Sh} (hg : (g n).isSome = false) (ho : isOwn n = true) (hc : c.m ≠ Mk.zero) (hf : ∀ x, x < 256 → Mk.hasB c.m x = true → Mk.hasB (freeM (Mk.ofL (List.range N)) g) x = true) {Ow' Dn' : List Int} (hl : Ow'.length = N) (hO : ∀ x, x < N → Ow'[x]? = if Mk.hasB c.m x = true then some n else Ow[x]?) (hD : ∀ k, k ∈ Dn' ↔ k ∈ Dn ∨ (k = n ∧ c.t = true)) :
    Agr N (fun m => if m = n then some c else g m) Ow' Dn' := by
  have hn := isOwn_ge ho
  refine ⟨hl, fun x k hx hk => ?_, fun x hx => ?_, fun k => ?_, fun k d hd => ?_, h.apt.put n hf, fun k d hd => ?_⟩
  · rw [hO x hx]
    by_cases hb : Mk.hasB c.m x = true
    · rw [if_pos hb]
      have hfx := ((freeM_has _ g (by omega)).1 (hf x (by omega) hb)).2
      constructor
      · intro e
        cases e
        exact ⟨c, by rw [if_pos rfl], hb⟩
      · rintro ⟨d, h1, h2⟩
        by_cases e : k = n
        · rw [e]
        · rw [if_neg e] at h1
          rw [hfx k d h1] at h2
          cases h2
    · rw [if_neg hb, h.own x k hx hk]
      constructor
      · rintro ⟨d, h1, h2⟩
        have e : k ≠ n := fun e => by rw [e] at h1; rw [h1] at hg; cases hg
        exact ⟨d, by rw [if_neg e]; exact h1, h2⟩
      · rintro ⟨d, h1, h2⟩
        by_cases e : k = n
        · rw [if_pos e] at h1
          cases h1
          exact absurd h2 hb
        · rw [if_neg e] at h1
          exact ⟨d, h1, h2⟩
  · rw [hO x hx]
    by_cases hb : Mk.hasB c.m x = true
    · rw [if_pos hb]
      constructor
      · intro e
        cases e
        omega
      · intro h1
        have := h1 n c (by rw [if_pos rfl])
        rw [hb] at this
        cases this
    · rw [if_neg hb, h.free x hx]
      constructor
      · intro h1 k d hd
        by_cases e : k = n
        · rw [if_pos e] at hd
          cases hd
          simpa using hb
        · rw [if_neg e] at hd
          exact h1 k d hd
      · intro h1 k d hd
        have e : k ≠ n := fun e => by rw [e] at hd; rw [hd] at hg; cases hg
        exact h1 k d (by rw [if_neg e]; exact hd)
  · rw [hD k, h.done k]
    constructor
    · rintro (⟨d, h1, h2⟩ | ⟨rfl, h2⟩)
      · have e : k ≠ n := fun e => by rw [e] at h1; rw [h1] at hg; cases hg
        exact ⟨d, by rw [if_neg e]; exact h1, h2⟩
      · exact ⟨c, by rw [if_pos rfl], h2⟩
    · rintro ⟨d, h1, h2⟩
      by_cases e : k = n
      · rw [if_pos e] at h1
        cases h1
        exact .inr ⟨e, h2⟩
      · rw [if_neg e] at h1
        exact .inl ⟨d, h1, h2⟩
  · by_cases e : k = n
    · rw [e]; exact ho
    · simp only [if_neg e] at hd
      exact h.isO k d hd
  · by_cases e : k = n
    · simp only [if_pos e] at hd
      cases hd
      exact hc
    · simp only [if_neg e] at hd
      exact h.some_ k d hd
/-- Somebody commits. -/
theorem Agr.commit (h : Agr N g Ow Dn) {n : Int} {c : Sh} (hg : g n = some c) : Agr N (fun m => if m = n then some ⟨c.m, true, c.ok⟩ else g m) Ow (Dn ++ [n]) := by
  have key : ∀ k x, (∃ d, (if k = n then some (⟨c.m, true, c.ok⟩ : Sh) else g k) = some d ∧ Mk.hasB d.m x = true) ↔ ∃ d, g k = some d ∧ Mk.hasB d.m x = true := fun k x => by
    by_cases e : k = n
    · subst e
      rw [if_pos rfl, hg]
      simp
    · rw [if_neg e]
  refine ⟨h.len, fun x k hx hk => ?_, fun x hx => ?_, fun k => ?_, fun k d hd => ?_, h.apt.commit hg, fun k d hd => ?_⟩
  · rw [h.own x k hx hk]
    exact (key k x).symm
  · rw [h.free x hx]
    constructor
    · intro h1 k d hd
      cases hb : Mk.hasB d.m x with
      | false => rfl
      | true =>
        obtain ⟨d', h2, h3⟩ := (key k x).1 ⟨d, hd, hb⟩
        rw [h1 k d' h2] at h3
        cases h3
    · intro h1 k d hd
      cases hb : Mk.hasB d.m x with
      | false => rfl
      | true =>
        obtain ⟨d', h2, h3⟩ := (key k x).2 ⟨d, hd, hb⟩
        rw [h1 k d' h2] at h3
        cases h3
  · rw [List.mem_append, List.mem_singleton, h.done k]
    by_cases e : k = n
    · subst e
      simp
    · simp [e]
  · by_cases e : k = n
    · rw [e]; exact h.isO n c hg
    · simp only [if_neg e] at hd
      exact h.isO k d hd
  · by_cases e : k = n
    · simp only [if_pos e] at hd
      cases hd
      exact h.some_ n c hg
    · simp only [if_neg e] at hd
      exact h.some_ k d hd
/-- Somebody's cores are made free. -/
theorem Agr.del (h : Agr N g Ow Dn) (hN : N ≤ 256) {n : Int} (hg : (g n).isSome = true) : Agr N (fun m => if m = n then none else g m) (gv (Mk.ofL (hv Ow n N)) (-1) Ow N) (rmD Dn n) := by
  obtain ⟨c, hc⟩ := Option.isSome_iff_exists.1 hg
  have hn := isOwn_ge (h.isO n c hc)
  have hO : ∀ x, x < N → (gv (Mk.ofL (hv Ow n N)) (-1) Ow N)[x]? = if Ow[x]? = some n then some (-1) else Ow[x]? := fun x hx => by
    have hM : Mk.hasB (Mk.ofL (hv Ow n N)) x = true ↔ Ow[x]? = some n := by
      rw [Mk.has_ofL (hv_lt hN), decide_eq_true_eq, hv_mem]
      exact ⟨fun h => h.2, fun e => ⟨hx, e⟩⟩
    rw [gv_get _ _ _ x (by rw [h.len]; exact hx)]
    by_cases e : Ow[x]? = some n
    · rw [if_pos ⟨hx, hM.2 e⟩, if_pos e]
    · rw [if_neg (fun h => e (hM.1 h.2)), if_neg e]
  refine ⟨by rw [gv_len, h.len], fun x k hx hk => ?_, fun x hx => ?_, fun k => ?_, fun k d hd => ?_, h.apt.del n, fun k d hd => ?_⟩
  · rw [hO x hx]
    by_cases e : Ow[x]? = some n
    · rw [if_pos e]
      obtain ⟨c', h1, h2⟩ := (h.own x n hx hn).1 e
      constructor
      · intro e2
        cases e2
        omega
      · rintro ⟨d, h3, h4⟩
        by_cases e3 : k = n
        · rw [if_pos e3] at h3
          cases h3
        · rw [if_neg e3] at h3
          have := h.apt.apart n k c' d (fun e => e3 e.symm) h1 h3 x (by omega) h2
          rw [h4] at this
          cases this
    · rw [if_neg e, h.own x k hx hk]
      by_cases e3 : k = n
      · rw [e3]
        constructor
        · intro h4
          exact absurd ((h.own x n hx hn).2 h4) e
        · rintro ⟨d, h3, _⟩
          rw [if_pos rfl] at h3
          cases h3
      · rw [if_neg e3]
  · rw [hO x hx]
    by_cases e : Ow[x]? = some n
    · rw [if_pos e]
      obtain ⟨c', h1, h2⟩ := (h.own x n hx hn).1 e
      refine ⟨fun _ k d hd => ?_, fun _ => rfl⟩
      by_cases e3 : k = n
      · rw [if_pos e3] at hd
        cases hd
      · rw [if_neg e3] at hd
        exact h.apt.apart n k c' d (fun e => e3 e.symm) h1 hd x (by omega) h2
    · rw [if_neg e, h.free x hx]
      constructor
      · intro h1 k d hd
        by_cases e3 : k = n
        · rw [if_pos e3] at hd
          cases hd
        · rw [if_neg e3] at hd
          exact h1 k d hd
      · intro h1 k d hd
        by_cases e3 : k = n
        · cases hb : Mk.hasB d.m x with
          | false => rfl
          | true =>
            rw [e3] at hd
            exact absurd ((h.own x n hx hn).2 ⟨d, hd, hb⟩) e
        · exact h1 k d (by rw [if_neg e3]; exact hd)
  · unfold rmD
    rw [List.mem_filter, decide_eq_true_eq, h.done k]
    by_cases e : k = n
    · simp [e]
    · simp [e]
  · by_cases e : k = n
    · simp only [if_pos e] at hd
      cases hd
    · simp only [if_neg e] at hd
      exact h.isO k d hd
  · by_cases e : k = n
    · simp only [if_pos e] at hd
      cases hd
    · simp only [if_neg e] at hd
      exact h.some_ k d hd
end
end Go.Proofs.Ythmlibapjhmdbaa
