/- The document's pool: Release. -/
import Derived.Test.YthmlibapjhmdbaaQ29
namespace Go.Proofs.Ythmlibapjhmdbaa
open Go.RowKit Go.Shelf Go.Maps

theorem own_some {w : World} {base e size n : Nat} {v : Value} {xs : List Value} (h : w.ownsRow base e size v n xs) (hn : 0 < n) : ∃ g cap, v = .slice (some ⟨g, 0, none⟩) n cap := by
  rcases h.2 with ⟨rfl, h0⟩ | ⟨g, cap, cur, rfl, _⟩
  · omega
  · exact ⟨g, cap, rfl⟩
theorem RPool.left {w : World} {r s q na nb k B : Nat} {va vb v : Value} {Ow Dn xs : List Int} (h : RPool w r s q va vb na nb Ow Dn) (hB : ∀ g, va.ownBlock = some g → g < B) (hr : r + 1 ≤ B) (hv : w.ownsRow B 3 1 v k (iv xs)) (hk : xs.length = k) :
    RPool (w.setCell ⟨r, 3, none⟩ v) r s q va v na k Ow xs := by
  refine ⟨by simpa [Bk] using heap_setCell_same w r 3 _ 69 v h.blk, ownsRow_setCell_below h.ra (by simp) _, ownsRow_setCell_below (Joins.ownsRow_le hv hr) (by simp) _, fun g e e2 => ?_, h.la, hk⟩
  have := hB g e
  have := (own_blk hv e2).1
  omega
set_option maxRecDepth 100000 in
set_option maxHeartbeats 4000000 in
theorem rrelease_any {w : World} {r s q na nb : Nat} {va vb : Value} {Ow Dn : List Int} (h : RPool w r s q va vb na nb Ow Dn) (hm : na ≤ 256) (h1 : 1 ≤ na) (hd : nb ≤ 1000) (n : Int) :
    Calls Try.prog 36 #[.pointer (some ⟨r, 0, none⟩), .int .i64 n] w fun e w' => (rh Ow n = false ∧ e = .returned (.int .i64 14) ∧ Below w.heap.size w w') ∨ (rh Ow n = true ∧ e = .returned (.int .i64 0) ∧ (∃ vb' nb', nb' ≤ nb ∧ RPool w' r s q va vb' na nb' (gv (Mk.ofL (hv Ow n na)) (-1) Ow na) (rmD Dn n)) ∧ Td (RX r va vb) w w') := by
  have KH := Lib.hid (rhas_any h hm n)
  have HH := Lib.hid h
  have hr := h.blk.lt
  clear h
  by_cases hh : rh Ow n = false
  · rw [hh] at KH
    replace hh := Lib.hid hh
    go_enter Try.func36, Try.ntmps36
    go_wp2_with fail
    refine KH.out.mono ?_
    rintro _ w1 ⟨rfl, hb⟩
    go_wp2_with fail
    go_ret
    exact .inl ⟨hh.out, rfl, hb⟩
  · replace hh : rh Ow n = true := by simpa using hh
    rw [hh] at KH
    replace hh := Lib.hid hh
    obtain ⟨g, cap, rfl⟩ := own_some HH.out.ra h1
    obtain ⟨i0, hi, hz0, hz1, hz2⟩ := info_parts info3
    have hF := Mk.ofL_W4 (hv_lt (Ow := Ow) (n := n) hm)
    obtain ⟨m, hme⟩ : ∃ m, Mk.ofL (hv Ow n na) = m := ⟨_, rfl⟩
    rw [hme] at hF ⊢
    replace hme := Lib.hid hme
    obtain ⟨m0, m1, m2, m3, rfl⟩ : ∃ m0 m1 m2 m3, m = [m0, m1, m2, m3] := ⟨_, _, _, _, Mk.len4 hF.1⟩
    replace hF := Lib.hid hF
    go_enter Try.func36, Try.ntmps36
    go_wp2_with fail
    refine KH.out.mono ?_
    rintro _ w1 ⟨rfl, hb⟩
    have H1 := Lib.hid (HH.out.next hb)
    have KV := Lib.hid (having_any H1.out hm n)
    rw [hme.out] at KV
    replace KV : Hid (Calls Try.prog 37 #[.pointer (some ⟨r, 0, none⟩), .int .i64 n] w1 fun e w' => e = .returned (.agg #[.int .u64 m0, .int .u64 m1, .int .u64 m2, .int .u64 m3]) ∧ Below w1.heap.size w1 w') := KV
    replace hb : Td (RX r (.slice (some ⟨g, 0, none⟩) na cap) vb) w w1 := Td.of_below hb
    go_wp2_with fail
    refine KV.out.mono ?_
    rintro _ w2 ⟨rfl, hb2⟩
    have H2 := Lib.hid (H1.out.next hb2)
    have hr1 := H1.out.blk.lt
    replace hb := hb.trans (Td.of_below hb2)
    clear hb2 KV KH
    have KG := Lib.hid (give_any H2.out hm (-1) m0 m1 m2 m3 hF.out)
    go_wp2_with fail
    refine KG.out.mono ?_
    rintro _ w3 ⟨⟨u, rfl⟩, hR3, hG3⟩
    have hgb : r + 1 ≤ g ∧ g < w3.heap.size := own_blk hR3.ra rfl
    have hr2 := H2.out.blk.lt
    replace hb := hb.trans (Td.grown hG3 (fun k e => .inr (.inl e)))
    have H3 := Lib.hid hR3
    clear hR3 hG3 KG H1 H2 HH
    obtain ⟨A, capB, rfl⟩ := own_form H3.out.rb
    have HA := Lib.hid (row_at H3.out.rb)
    have hL := Lib.hid H3.out.lb
    have hr3 := H3.out.blk.lt
    go_wp2_with fail
    go_loopg [5, 6] nb (fun c s5 s6 wr => ∃ j k : Nat, j + c = nb ∧ k ≤ j ∧ s6 = .int .i64 j ∧ wr.ownsRow w3.heap.size 3 1 s5 k (iv (rmD (Dn.take j) n)) ∧ Hid ((rmD (Dn.take j) n).length = k) ∧ Below w3.heap.size w3 wr)
    case atStart => exact ⟨0, 0, by omega, Nat.le_refl _, rfl, by simpa [rmD] using World.ownsRow_nil _ _ _ _, Lib.hid (by simp [rmD]), Below.refl _ _⟩
    case round =>
      obtain ⟨j, k, hj, hkj, rfl, hrow, HK, hbr⟩ := hrel
      obtain ⟨A2, cap2, rfl⟩ := own_form hrow
      have HR := H3.out.next hbr
      have c3 := HR.blk.cell 3 _ rfl
      have hsz := hbr.size
      cases gk with
      | zero =>
        obtain rfl : j = nb := by omega
        have hlt : ¬ ((j : Int) < (j : Int)) := by omega
        have hT : rmD (Dn.take j) n = rmD Dn n := by rw [List.take_of_length_le (by have := hL.out; omega)]
        rw [hT] at hrow HK
        have f3 := HR.blk.frozen 3
        have HX := Lib.hid (HR.left (fun g' e => by have e2 : g = g' := Option.some.inj e; omega) (by omega) hrow HK.out)
        have HB := Lib.hid (hb.trans ((Td.of_below hbr).trans (Td.set ⟨r, 3, none⟩ (.inl rfl) (.slice A2 k cap2))))
        clear HR hrow HA hT
        go_wp2_with fail
        go_ret
        exact .inr ⟨hh.out, rfl, ⟨_, k, hkj, HX.out⟩, HB.out⟩
      | succ g1 =>
        have p0 : (0 : Int) ≤ (j : Int) := by omega
        have p1 : (j : Int) < (nb : Int) := by omega
        obtain ⟨gz, rfl, hgz, hat⟩ : ∃ gz, A = some ⟨gz, 0, none⟩ ∧ gz < w3.heap.size ∧ ∀ j z, j < nb → Dn[j]? = some z → w3.cell? ⟨gz, j, none⟩ = some (.int .i64 z) := by
          rcases HA.out with e | e
          · omega
          · exact e
        obtain ⟨z, ez⟩ : ∃ z, Dn[j]? = some z := ⟨_, List.getElem?_eq_getElem (by have := hL.out; omega)⟩
        have a0 := (hbr.cell (p := ⟨gz, j, none⟩) hgz).trans (hat j z (by omega) ez)
        have HS := rmD_snoc Dn n z j ez
        by_cases e : z = n
        · have t0 : (z == n) = true := by simpa using e
          rw [if_pos e] at HS
          replace HS := Lib.hid HS
          clear hat ez e HR
          go_wp2_with fail
          go_roundg g1
          case measure => omega
          case rel => exact ⟨j + 1, k, by omega, by omega, by go_num, by rw [HS.out]; exact hrow, by rw [HS.out]; exact HK, hbr⟩
        · have t0 : (z == n) = false := by simpa using e
          rw [if_neg e] at HS
          replace HS := Lib.hid HS
          clear hat ez e HR
          go_wp2_with (at_builtin; refine wpList_append_own _ rfl _ _ 44 rfl w3.heap.size 3 i0 (.int .i64 0) 1 8 Try.underlying44 hi hz0 hz1 hz2 rfl (by decide) _ _ _ rfl (hrow.alloc _) ⟨wr.heap.size, 0, none⟩ 1 1 [.int .i64 z] rfl rfl (cell_one_new _ _ _) (by simp [Value.oneCell']) (by unfold maxLen; omega) (by omega) (by simp; omega) ?_; intro v' w5 hown' hgrow _; obtain ⟨g', cap', rfl⟩ := ownsRow_succ hown'; have hb5 := appended_below hrow (by omega) hgrow)
          go_roundg g1
          case measure => omega
          case rel => exact ⟨j + 1, k + 1, by omega, by omega, by go_num, by rw [HS.out, iv_snoc]; exact hown', Lib.hid (by rw [HS.out, List.length_append, HK.out]; rfl), hbr.trans (hb5.mono (by omega))⟩
end Go.Proofs.Ythmlibapjhmdbaa
