/- The document's pool: Owners, Of. -/
import Derived.Test.YthmlibapjhmdbaaGQ43xQ44xQ46
namespace Go.Proofs.Ythmlibapjhmdbaa
open Go.RowKit Go.Shelf Go.Maps

/-- What the document's Owners tells. -/
def ROw (w w' : World) (l : List Int) (e : Ending) : Prop := ∃ v, e = .returned v ∧ w'.ownsRow w.heap.size 3 1 v l.length (iv l) ∧ Below w.heap.size w w'
set_option maxRecDepth 100000 in
set_option maxHeartbeats 8000000 in
theorem rowners_any {w : World} {r s q na nb : Nat} {va vb : Value} {Ow Dn : List Int} (h : RPool w r s q va vb na nb Ow Dn) (hm : na ≤ 256) :
    Calls Try.prog 17 #[.pointer (some ⟨r, 0, none⟩)] w fun e w' => ROw w w' (ows Ow na) e := by
  obtain ⟨A, cap, rfl⟩ := own_form h.ra
  have HA := Lib.hid (row_at h.ra)
  have HB := Lib.hid h.blk
  have HL := Lib.hid h.la
  have hr := h.blk.lt
  clear h
  obtain ⟨i0, hi, hz0, hz1, hz2⟩ := info_parts info3
  go_enter Try.func17, Try.ntmps17
  go_wp2_with fail
  go_loopg [3, 4] na (fun c s3 s4 wr => ∃ j k : Nat, j + c = na ∧ s4 = .int .i64 j ∧ wr.ownsRow w.heap.size 3 1 s3 k (iv (ows Ow j)) ∧ Hid ((ows Ow j).length = k) ∧ Below w.heap.size w wr)
  case atStart => exact ⟨0, 0, by omega, rfl, World.ownsRow_nil _ _ _ _, Lib.hid rfl, Below.refl _ _⟩
  case round =>
    obtain ⟨j, k, hj, rfl, hrow, HK, hb⟩ := hrel
    obtain ⟨A2, cap2, rfl⟩ := own_form hrow
    have c2 := ((HB.out.below hb hr)).cell 2 _ rfl
    cases gk with
    | zero =>
      obtain rfl : j = na := by omega
      have hlt : ¬ ((j : Int) < (j : Int)) := by omega
      go_wp2_with fail
      go_ret
      exact ⟨_, rfl, by rw [HK.out]; exact hrow, hb⟩
    | succ g1 =>
      have p0 : (0 : Int) ≤ (j : Int) := by omega
      have p1 : (j : Int) < (na : Int) := by omega
      obtain ⟨gz, rfl, hgz, hat⟩ : ∃ gz, A = some ⟨gz, 0, none⟩ ∧ gz < w.heap.size ∧ ∀ j z, j < na → Ow[j]? = some z → w.cell? ⟨gz, j, none⟩ = some (.int .i64 z) := by
        rcases HA.out with e | e
        · omega
        · exact e
      obtain ⟨z, ez⟩ : ∃ z, Ow[j]? = some z := ⟨_, List.getElem?_eq_getElem (by have := HL.out; omega)⟩
      have a0 := (hb.cell (p := ⟨gz, j, none⟩) hgz).trans (hat j z (by omega) ez)
      have HS := ows_snoc ez
      by_cases hz : z < 0
      · have t0 : decide (z < 0) = true := by simpa using hz
        rw [if_pos hz] at HS
        replace HS := Lib.hid HS
        clear hat ez hz
        go_wp2_with fail
        go_roundg g1
        case measure => omega
        case rel => exact ⟨j + 1, k, by omega, by go_num, by rw [HS.out]; exact hrow, by rw [HS.out]; exact HK, hb⟩
      · have t0 : decide (z < 0) = false := by simpa using hz
        rw [if_neg hz] at HS
        replace HS := Lib.hid HS
        have hup := ows_up Ow j
        have hk256 : k ≤ j := by have := ows_len Ow j; rw [HK.out] at this; exact this
        have HR := Lib.hid (row_at hrow)
        obtain ⟨out, hout⟩ : ∃ out, out = ows Ow j := ⟨_, rfl⟩
        rw [← hout] at HS hup HR HK
        have HU := Lib.hid hup
        obtain ⟨wo, hwo⟩ : ∃ x, x = wr := ⟨_, rfl⟩
        subst hwo
        have hsz := hb.size
        have HBO := Lib.hid hb
        clear hat ez hz hup hrow hb hout
        go_wp2_with fail
        go_loopg [6, 7, 8] k (fun c s6 s7 s8 wx => ∃ i m : Nat, i + c = k ∧ s8 = .int .i64 i ∧ s7 = .bool ((out.take i).foldl (insS z) ([], false)).2 ∧ wx.ownsRow wo.heap.size 3 1 s6 m (iv ((out.take i).foldl (insS z) ([], false)).1) ∧ Hid (((out.take i).foldl (insS z) ([], false)).1.length = m) ∧ Below wo.heap.size wo wx)
        case atStart => exact ⟨0, 0, by omega, rfl, rfl, World.ownsRow_nil _ _ _ _, Lib.hid rfl, Below.refl _ _⟩
        case round =>
          obtain ⟨i, m, hik, rfl, rfl, hrow2, HM, hb2⟩ := hrel
          obtain ⟨A3, cap3, rfl⟩ := own_form hrow2
          have hm258 : m ≤ i + 1 := by
            have h1 := ins_len (n := z) (HU.out.sublist (List.take_sublist i out))
            rw [HM.out, List.length_take] at h1
            omega
          have hsz2 := hb2.size
          cases gk with
          | succ g2 =>
            have r0 : (0 : Int) ≤ (i : Int) := by omega
            have r1 : (i : Int) < (k : Int) := by omega
            obtain ⟨gz2, rfl, hgz2, hat2⟩ : ∃ gz, A2 = some ⟨gz, 0, none⟩ ∧ gz < wo.heap.size ∧ ∀ j z, j < k → out[j]? = some z → wo.cell? ⟨gz, j, none⟩ = some (.int .i64 z) := by
              rcases HR.out with e | e
              · omega
              · exact e
            obtain ⟨x, ex⟩ : ∃ x, out[i]? = some x := ⟨_, List.getElem?_eq_getElem (by have := HK.out; omega)⟩
            have b0 := (hb2.cell (p := ⟨gz2, i, none⟩) hgz2).trans (hat2 i x (by omega) ex)
            have HT : (out.take (i + 1)).foldl (insS z) ([], false) = insS z ((out.take i).foldl (insS z) ([], false)) x := by
              rw [List.take_add_one, ex, List.foldl_append]
              rfl
            replace HT := Lib.hid HT
            clear hat2 ex
            generalize (out.take i).foldl (insS z) ([], false) = st at *
            obtain ⟨n1, laid⟩ := st
            dsimp only at hrow2 HM
            cases laid with
            | true =>
              by_cases e : x = z
              · have t1 : (x != z) = false := by simpa using e
                have HQ := Lib.hid (show insS z (n1, true) x = (n1, true) from by unfold insS; simp [e])
                clear e
                go_wp2_with fail
                go_roundg g2
                case measure => omega
                case rel => exact ⟨i + 1, m, by omega, by go_num, by rw [HT.out, HQ.out], by rw [HT.out, HQ.out]; exact hrow2, by rw [HT.out, HQ.out]; exact HM, hb2⟩
              · have t1 : (x != z) = true := by simpa using e
                have HQ := Lib.hid (show insS z (n1, true) x = (n1 ++ [x], true) from by unfold insS; simp [e])
                clear e
                go_wp2_with (at_builtin; refine wpList_append_own _ rfl _ _ 44 rfl wo.heap.size 3 i0 (.int .i64 0) 1 8 Try.underlying44 hi hz0 hz1 hz2 rfl (by decide) _ _ _ rfl (hrow2.alloc _) ⟨_, 0, none⟩ 1 1 [.int .i64 x] rfl rfl (cell_one_new _ _ _) (by simp [Value.oneCell']) (by unfold maxLen; omega) (by omega) (by simp; omega) ?_; intro v8 w8 hownA hgA _; obtain ⟨g_w8, cap_w8, rfl⟩ := ownsRow_succ hownA; have hbA := appended_below hrow2 (by omega) hgA; have hsA := hbA.size)
                go_roundg g2
                case measure => omega
                case rel => exact ⟨i + 1, m + 1, by omega, by go_num, by rw [HT.out, HQ.out], by rw [HT.out, HQ.out, iv_snoc]; exact hownA, Lib.hid (by rw [HT.out, HQ.out, List.length_append, HM.out]; rfl), hb2.trans hbA⟩
            | false =>
              by_cases hle : z ≤ x
              · have t2 : decide (z ≤ x) = true := by simpa using hle
                by_cases e : x = z
                · have t1 : (x != z) = false := by simpa using e
                  have HQ := Lib.hid (show insS z (n1, false) x = (n1 ++ [z], true) from by unfold insS; simp [e])
                  clear e hle
                  go_wp2_with (at_builtin; refine wpList_append_own _ rfl _ _ 44 rfl wo.heap.size 3 i0 (.int .i64 0) 1 8 Try.underlying44 hi hz0 hz1 hz2 rfl (by decide) _ _ _ rfl (hrow2.alloc _) ⟨_, 0, none⟩ 1 1 [.int .i64 z] rfl rfl (cell_one_new _ _ _) (by simp [Value.oneCell']) (by unfold maxLen; omega) (by omega) (by simp; omega) ?_; intro v8 w8 hownA hgA _; obtain ⟨g_w8, cap_w8, rfl⟩ := ownsRow_succ hownA; have hbA := appended_below hrow2 (by omega) hgA; replace b0 := (hbA.cell (p := ⟨gz2, i, none⟩) hgz2).trans b0; have hsA := hbA.size)
                  go_roundg g2
                  case measure => omega
                  case rel => exact ⟨i + 1, m + 1, by omega, by go_num, by rw [HT.out, HQ.out], by rw [HT.out, HQ.out, iv_snoc]; exact hownA, Lib.hid (by rw [HT.out, HQ.out, List.length_append, HM.out]; rfl), hb2.trans hbA⟩
                · have t1 : (x != z) = true := by simpa using e
                  have HQ := Lib.hid (show insS z (n1, false) x = (n1 ++ [z] ++ [x], true) from by unfold insS; simp [hle, e])
                  clear e hle
                  go_wp2_with (first | (at_builtin; refine wpList_append_own _ rfl _ _ 44 rfl wo.heap.size 3 i0 (.int .i64 0) 1 8 Try.underlying44 hi hz0 hz1 hz2 rfl (by decide) _ _ _ rfl (hrow2.alloc _) ⟨_, 0, none⟩ 1 1 [.int .i64 z] rfl rfl (cell_one_new _ _ _) (by simp [Value.oneCell']) (by unfold maxLen; omega) (by omega) (by simp; omega) ?_; intro v8 w8 hownA hgA _; obtain ⟨g_w8, cap_w8, rfl⟩ := ownsRow_succ hownA; have hbA := appended_below hrow2 (by omega) hgA; replace b0 := (hbA.cell (p := ⟨gz2, i, none⟩) hgz2).trans b0; have hsA := hbA.size) | (at_builtin; refine wpList_append_own _ rfl _ _ 44 rfl wo.heap.size 3 i0 (.int .i64 0) 1 8 Try.underlying44 hi hz0 hz1 hz2 rfl (by decide) _ _ _ rfl (hownA.alloc _) ⟨_, 0, none⟩ 1 1 [.int .i64 x] rfl rfl (cell_one_new _ _ _) (by simp [Value.oneCell']) (by unfold maxLen; omega) (by omega) (by simp; omega) ?_; intro v9 w9 hownB hgB _; obtain ⟨g_w9, cap_w9, rfl⟩ := ownsRow_succ hownB; have hbB := appended_below hownA (by omega) hgB))
                  go_roundg g2
                  case measure => omega
                  case rel => exact ⟨i + 1, m + 1 + 1, by omega, by go_num, by rw [HT.out, HQ.out], by rw [HT.out, HQ.out, iv_snoc, iv_snoc]; exact hownB, Lib.hid (by rw [HT.out, HQ.out, List.length_append, List.length_append, HM.out]; rfl), (hb2.trans hbA).trans hbB⟩
              · have t2 : decide (z ≤ x) = false := by simpa using hle
                have e : ¬ x = z := by omega
                have t1 : (x != z) = true := by simpa using e
                have HQ := Lib.hid (show insS z (n1, false) x = (n1 ++ [x], false) from by unfold insS; simp [hle, e])
                clear e hle
                go_wp2_with (at_builtin; refine wpList_append_own _ rfl _ _ 44 rfl wo.heap.size 3 i0 (.int .i64 0) 1 8 Try.underlying44 hi hz0 hz1 hz2 rfl (by decide) _ _ _ rfl (hrow2.alloc _) ⟨_, 0, none⟩ 1 1 [.int .i64 x] rfl rfl (cell_one_new _ _ _) (by simp [Value.oneCell']) (by unfold maxLen; omega) (by omega) (by simp; omega) ?_; intro v8 w8 hownA hgA _; obtain ⟨g_w8, cap_w8, rfl⟩ := ownsRow_succ hownA; have hbA := appended_below hrow2 (by omega) hgA; have hsA := hbA.size)
                go_roundg g2
                case measure => omega
                case rel => exact ⟨i + 1, m + 1, by omega, by go_num, by rw [HT.out, HQ.out], by rw [HT.out, HQ.out, iv_snoc]; exact hownA, Lib.hid (by rw [HT.out, HQ.out, List.length_append, HM.out]; rfl), hb2.trans hbA⟩
          | zero =>
            obtain rfl : i = k := by omega
            have hlt : ¬ ((i : Int) < (i : Int)) := by omega
            have HF : insO z out = if (out.foldl (insS z) ([], false)).2 = true then (out.foldl (insS z) ([], false)).1 else (out.foldl (insS z) ([], false)).1 ++ [z] := rfl
            rw [List.take_of_length_le (by have := HK.out; omega)] at hrow2 HM ⊢
            generalize out.foldl (insS z) ([], false) = st at *
            obtain ⟨n1, laid⟩ := st
            dsimp only at hrow2 HM HF
            cases laid with
            | true =>
              replace HF := Lib.hid HF
              go_wp2_with fail
              go_roundg g1
              case measure => omega
              case rel => exact ⟨j + 1, m, by omega, by go_num, by rw [HS.out, HF.out]; exact Joins.ownsRow_le hrow2 hsz, by rw [HS.out, HF.out]; exact HM, HBO.out.trans (hb2.mono hsz)⟩
            | false =>
              replace HF := Lib.hid HF
              go_wp2_with (at_builtin; refine wpList_append_own _ rfl _ _ 44 rfl wo.heap.size 3 i0 (.int .i64 0) 1 8 Try.underlying44 hi hz0 hz1 hz2 rfl (by decide) _ _ _ rfl (hrow2.alloc _) ⟨_, 0, none⟩ 1 1 [.int .i64 z] rfl rfl (cell_one_new _ _ _) (by simp [Value.oneCell']) (by unfold maxLen; omega) (by omega) (by simp; omega) ?_; intro v8 w8 hownA hgA _; obtain ⟨g_w8, cap_w8, rfl⟩ := ownsRow_succ hownA; have hbA := appended_below hrow2 (by omega) hgA; have hsA := hbA.size)
              go_roundg g1
              case measure => omega
              case rel => exact ⟨j + 1, m + 1, by omega, by go_num, by rw [HS.out, HF.out]; show World.ownsRow _ _ _ _ _ _ (iv (n1 ++ [z])); rw [iv_snoc]; exact Joins.ownsRow_le hownA hsz, Lib.hid (by rw [HS.out, HF.out]; show (n1 ++ [z]).length = _; rw [List.length_append, HM.out]; rfl), HBO.out.trans ((hb2.trans hbA).mono hsz)⟩
theorem Row.set4 {w : World} {g : Nat} {t : TypeId} (h : Row .u64 t w g Mk.zero) (a0 a1 a2 a3 : Nat) : Row .u64 t ((((w.setCell ⟨g, 0, none⟩ (.int .u64 a0)).setCell ⟨g, 1, none⟩ (.int .u64 a1)).setCell ⟨g, 2, none⟩ (.int .u64 a2)).setCell ⟨g, 3, none⟩ (.int .u64 a3)) g [a0, a1, a2, a3] :=
  (((h.set 0 a0).set 1 a1).set 2 a2).set 3 a3
set_option maxRecDepth 100000 in
set_option maxHeartbeats 4000000 in
theorem rof_any {w : World} {r s q na nb : Nat} {va vb : Value} {Ow Dn : List Int} (h : RPool w r s q va vb na nb Ow Dn) (hm : na ≤ 256) (hd : nb ≤ 1000) (n : Int) (m0 m1 m2 m3 : Nat) (hw : (if rh Ow n = true then Mk.ofL (hv Ow n na) else Mk.zero) = [m0, m1, m2, m3]) :
    Calls Try.prog 19 #[.pointer (some ⟨r, 0, none⟩), .int .i64 n] w fun e w' => e = .returned (.tuple #[.agg #[.int .u64 m0, .int .u64 m1, .int .u64 m2, .int .u64 m3], .bool (rh Ow n && decide (n ∈ Dn))]) ∧ Below w.heap.size w w' := by
  have hba := (Below.refl _ w).alloc (Nat.le_refl _) (.cells #[.int .u64 0, .int .u64 0, .int .u64 0, .int .u64 0] 35)
  have r0 := Row.new w .u64 35 Mk.zero #[.int .u64 0, .int .u64 0, .int .u64 0, .int .u64 0] rfl
  have HH := Lib.hid (h.next hba)
  have hr := h.blk.lt
  have hz : (Try.prog.info? 35).map (·.size) = some [m0, m1, m2, m3].length := info40 rfl
  clear h
  have KH := Lib.hid (rhas_any HH.out hm n)
  cases hh : rh Ow n with
  | false =>
    rw [hh] at KH hw
    rw [if_neg (by decide)] at hw
    simp only [Mk.zero, List.cons.injEq, and_true] at hw
    obtain ⟨rfl, rfl, rfl, rfl⟩ := hw
    clear hh
    go_enter Try.func19, Try.ntmps19
    go_wp2_with fail
    refine KH.out.mono ?_
    rintro _ w1 ⟨rfl, hb⟩
    replace r0 := r0.next hb
    replace hba := bmore hba hb
    clear hb KH HH
    have z0 := r0.cell 0 (by simp [Mk.zero])
    have z1 := r0.cell 1 (by simp [Mk.zero])
    have z2 := r0.cell 2 (by simp [Mk.zero])
    have z3 := r0.cell 3 (by simp [Mk.zero])
    have f0 := r0.frozen 0
    have f1 := r0.frozen 1
    have f2 := r0.frozen 2
    have f3 := r0.frozen 3
    have HR := Lib.hid (Row.set4 r0 0 0 0 0)
    have HB := Lib.hid (bset4 hba (Nat.le_refl _) (.int .u64 (0 : Nat)) (.int .u64 (0 : Nat)) (.int .u64 (0 : Nat)) (.int .u64 (0 : Nat)))
    clear r0 hba
    go_wp2_with fail
    exact bodyPost_ret (results_row_tmp rfl _ _ w.heap.size .u64 35 _ _ rfl HR.out Try.underlying35 rfl hz) rfl ⟨rfl, HB.out⟩
  | true =>
    rw [hh] at KH hw
    rw [if_pos rfl] at hw
    clear hh
    have KV := Lib.hid (show ∀ V, RPool V r s q va vb na nb Ow Dn → Calls Try.prog 37 #[.pointer (some ⟨r, 0, none⟩), .int .i64 n] V fun e w' => e = .returned (.agg #[.int .u64 m0, .int .u64 m1, .int .u64 m2, .int .u64 m3]) ∧ Below V.heap.size V w' from fun V hV => by
      have := having_any hV hm n
      rw [hw] at this
      exact this)
    clear hw
    go_enter Try.func19, Try.ntmps19
    go_wp2_with fail
    refine KH.out.mono ?_
    rintro _ w1 ⟨rfl, hb⟩
    have H1 := Lib.hid (HH.out.next hb)
    replace r0 := r0.next hb
    replace hba := bmore hba hb
    clear hb KH HH
    go_wp2_with fail
    refine (KV.out _ H1.out).mono ?_
    rintro _ w2 ⟨rfl, hb⟩
    have H2 := Lib.hid (H1.out.next hb)
    replace r0 := r0.next hb
    replace hba := bmore hba hb
    clear hb KV H1
    go_wp2_with fail
    refine (done_any H2.out hd n).mono ?_
    rintro _ w3 ⟨rfl, rfl⟩
    have z0 := r0.cell 0 (by simp [Mk.zero])
    have z1 := r0.cell 1 (by simp [Mk.zero])
    have z2 := r0.cell 2 (by simp [Mk.zero])
    have z3 := r0.cell 3 (by simp [Mk.zero])
    have f0 := r0.frozen 0
    have f1 := r0.frozen 1
    have f2 := r0.frozen 2
    have f3 := r0.frozen 3
    have HR := Lib.hid (Row.set4 r0 m0 m1 m2 m3)
    have HB := Lib.hid (bset4 hba (Nat.le_refl _) (.int .u64 m0) (.int .u64 m1) (.int .u64 m2) (.int .u64 m3))
    clear r0 hba H2
    go_wp2_with fail
    exact bodyPost_ret (results_row_tmp rfl _ _ w.heap.size .u64 35 _ _ rfl HR.out Try.underlying35 rfl hz) rfl ⟨rfl, HB.out⟩
end Go.Proofs.Ythmlibapjhmdbaa
/- The law on scripts. -/
namespace Go.Proofs.Ythmlibapjhmdbaa
open Go.RowKit Go.Shelf Go.Maps Go.Sort

attribute [local go_sem] eq33 eq40

set_option maxRecDepth 100000 in
set_option maxHeartbeats 1000000 in
theorem rnew_bad (s q : Int) (w : World) (h : LBad s q) : Calls Try.prog 11 #[.agg #[.int .i64 s, .int .i64 q]] w fun e w' => e = .returned (.pointer none) ∧ Below w.heap.size w w' := by
  have hb0 := (Below.refl _ w).alloc (Nat.le_refl _) (.cells #[.int .i64 s, .int .i64 q] 23)
  go_enter Try.func11, Try.ntmps11
  go_wp2_with fail
  refine (rCheck_bad s q _ h).mono ?_
  rintro _ w2 ⟨rfl, hb2⟩
  go_wp2_with fail
  go_ret
  exact ⟨rfl, bmore hb0 hb2⟩
section
variable {N : Nat} {g : Int → Option Sh} {Ow Dn : List Int}
theorem Agr.ofW (h : Agr N g Ow Dn) (hN : N ≤ 256) (n : Int) : (if Ythmlibapjhmdbaa.rh Ow n = true then Mk.ofL (hv Ow n N) else Mk.zero) = ((g n).getD Sh.none).m := by
  rw [h.rh hN]
  cases hg : g n with
  | none => rfl
  | some c =>
    rw [if_pos (show (some c).isSome = true from rfl), h.of hN (isOwn_ge (h.isO n c hg)), hg]
theorem Agr.ofT (h : Agr N g Ow Dn) (hN : N ≤ 256) (n : Int) : (Ythmlibapjhmdbaa.rh Ow n && decide (n ∈ Dn)) = ((g n).getD Sh.none).t := by
  rw [h.rh hN]
  have hd := h.done n
  cases hg : g n with
  | none => rfl
  | some c =>
    rw [hg] at hd
    cases ht : c.t with
    | false =>
      have : n ∉ Dn := fun e => by obtain ⟨c', e1, e2⟩ := hd.1 e; cases e1; rw [ht] at e2; cases e2
      simp [this, ht]
    | true =>
      have : n ∈ Dn := hd.2 ⟨c, rfl, ht⟩
      simp [this, ht]
end
theorem row_nats {w' : World} {L : List Int} {v : Value} {base : Nat} (hz : ∀ z ∈ L, 0 ≤ z) (hrow : w'.ownsRow base 3 1 v L.length (iv L)) : ∃ A cap, v = .slice A L.length cap ∧ NatsAt w' w'.heap.size A (L.map Int.toNat) := by
  obtain ⟨A, cap, rfl⟩ := own_form hrow
  have e : iv L = nv (L.map Int.toNat) := enc_nv hz
  rw [e] at hrow
  exact ⟨A, cap, rfl, nats_nv (by simp) hrow⟩
set_option maxRecDepth 100000 in
set_option maxHeartbeats 8000000 in
theorem scripts_law (s q : Int) (A : Option Addr) (n cap : Nat) (os : List Oq) (w : World) (h : Sq w A n os) :
    Calls Try.prog 3 #[.agg #[.int .i64 s, .int .i64 q], .slice A n cap] w fun e w' => e = .returned (.bool true) ∧ Below w.heap.size w w' := by
  have KL := Lib.hid live_any
  have HS := Lib.hid h
  clear h
  have hb0 := (Below.refl _ w).alloc (Nat.le_refl _) (.cells #[.int .i64 s, .int .i64 q] 23)
  by_cases hn : (60 : Int) < (n : Int)
  · go_enter Try.func3, Try.ntmps3
    go_wp2_with fail
    refine (KL.out _).mono ?_
    rintro _ w9 ⟨rfl, hb9⟩
    go_wp2_with fail
    go_ret
    exact ⟨rfl, bmore hb0 hb9⟩
  have j0 := Bk.new w 23 #[.int .i64 s, .int .i64 q]
  have c0 := j0.cell 0 _ rfl
  have c1 := j0.cell 1 _ rfl
  rcases LOk_or s q with ⟨s', q', rfl, rfl, hL⟩ | hL
  case inr =>
    go_enter Try.func3, Try.ntmps3
    go_wp2_with fail
    refine (own_any s q _).mono ?_
    rintro _ w2 ⟨rfl, hb⟩
    replace hb0 := bmore hb0 hb; replace j0 := j0.next hb; clear hb c0 c1
    go_wp2_with fail
    refine (new_bad s q _ hL).mono ?_
    rintro _ w3 ⟨rfl, hb⟩
    replace hb0 := bmore hb0 hb; replace j0 := j0.next hb; clear hb
    have c0 := j0.cell 0 _ rfl
    have c1 := j0.cell 1 _ rfl
    go_wp2_with fail
    refine (rnew_bad s q _ hL).mono ?_
    rintro _ w4 ⟨rfl, hb⟩
    replace hb0 := bmore hb0 hb; clear hb c0 c1 j0
    go_wp2_with fail
    refine (KL.out _).mono ?_
    rintro _ w9 ⟨rfl, hb9⟩
    go_wp2_with fail
    go_ret
    exact ⟨rfl, bmore hb0 hb9⟩
  have HL := Lib.hid hL
  clear hL
  go_enter Try.func3, Try.ntmps3
  go_wp2_with fail
  refine (own_any s' q' _).mono ?_
  rintro _ w2 ⟨rfl, hb⟩
  replace hb0 := bmore hb0 hb; replace j0 := j0.next hb; clear hb c0 c1
  go_wp2_with fail
  refine (new_ok s' q' _ HL.out).mono ?_
  rintro _ w3 ⟨p, b, rfl, hp, hbb, hP, hb⟩
  have hpl := hP.blk.lt
  have hbl := hP.ltb
  replace j0 := j0.next hb
  have S0 := Lib.hid (show St w w3 p b 0 s' q' (fun _ => Option.none) [] from ⟨hP, bmore hb0 hb, by have := hb0.size; omega, Own.none⟩)
  have hs3 := bmore hb0 hb
  clear hb0 hb hp hbb hP
  have c0 := j0.cell 0 _ rfl
  have c1 := j0.cell 1 _ rfl
  go_wp2_with fail
  refine (rnew_ok s' q' _ HL.out).mono ?_
  rintro _ w4 ⟨r, va, rfl, hr, hR, hb⟩
  have T0 := Lib.hid (show Two w w4 p b 0 s' q' (fun _ => Option.none) [] r 0 va (.slice none 0 0) (List.replicate (s' * q') (-1)) [] from ⟨S0.out.next hb, by omega, by omega, by have := hs3.size; omega, hR⟩)
  have A0 := Lib.hid (Agr.start (s' * q'))
  clear c0 c1 j0 hb hR S0 hs3 hpl hbl hr
  go_wp2_with fail
  go_loopg [7] n (fun c s7 wr => ∃ (i k : Nat) (f : Int → Option Sh) (L : List Int) (nb : Nat) (va vb : Value) (Ow Dn : List Int), i + c = n ∧ s7 = .int .i64 i ∧ k ≤ i ∧ nb ≤ i ∧ Hid (Two w wr p b k s' q' f L r nb va vb Ow Dn) ∧ Hid (Agr (s' * q') f Ow Dn))
  case atStart => exact ⟨0, 0, _, _, 0, _, _, _, _, by omega, rfl, Nat.le_refl _, Nat.le_refl _, T0, A0⟩
  case round =>
    clear T0 A0
    obtain ⟨i, k, f, L, nb, va, vb, Ow, Dn, hig, rfl, hki, hni, HT, HA⟩ := hrel
    cases gk with
    | zero =>
      have hlt : ¬ ((i : Int) < (n : Int)) := by omega
      go_wp2_with fail
      refine (KL.out _).mono ?_
      rintro _ w9 ⟨rfl, hb9⟩
      go_wp2_with fail
      go_ret
      exact ⟨rfl, bmore HT.out.st.low hb9⟩
    | succ gn =>
      have i0 : (0 : Int) ≤ (i : Int) := by omega
      have i1 : (i : Int) < (n : Int) := by omega
      obtain ⟨ad, o, rfl, hwf, hw8, hblk, hat⟩ := HS.out.still8 (i := i) (by omega)
      obtain ⟨c0, c1, c2, c3, c4, c5, c6, c7, c8, c9, c10, c11, c12⟩ := hat wr HT.out.st.low
      have KD := Lib.hid (does_any HT.out HA.out HL.out (by omega) (by omega) o hwf hw8)
      have HAT := Lib.hid hat
      have HWF := Lib.hid hwf
      clear hat hblk hwf hw8 HA
      obtain ⟨od, on, f0, f1, f2, f3, or, op, ods, m0, m1, m2, m3⟩ := o
      dsimp only at c0 c1 c2 c3 c4 c5 c6 c7 c8 c9 c10 c11 c12 KD HWF
      go_wp2_with fail
      refine KD.out.mono ?_
      rintro _ w5 ⟨k', g', L', nb', va', vb', Ow', Dn', rfl, hk', hn', hT, hA, _, _⟩
      have hN := HL.out.2.2.2.2
      have hk5 : k' ≤ i + 1 := by omega
      have hn5 : nb' ≤ i + 1 := by omega
      have hF4 := freeM_W4 (Mk.ofL (List.range (s' * q'))) g'
      have KF0 := hT.free HL.out
      have KG0 := fun (V : World) (hV : Two w V p b k' s' q' g' L' r nb' va' vb' Ow' Dn') => rfree_any hV.rp hN
      rw [hA.fr hN] at KG0
      generalize freeM (Mk.ofL (List.range (s' * q'))) g' = F at KF0 KG0 hF4
      obtain ⟨y0, y1, y2, y3, rfl⟩ := w4_ex hF4
      have KF := Lib.hid (show Calls Try.prog 13 #[.pointer (some ⟨p, 0, none⟩)] w5 fun e w' => e = .returned (.agg #[.int .u64 y0, .int .u64 y1, .int .u64 y2, .int .u64 y3]) ∧ Below w5.heap.size w5 w' from KF0)
      have KG := Lib.hid (show ∀ V : World, Two w V p b k' s' q' g' L' r nb' va' vb' Ow' Dn' → Calls Try.prog 14 #[.pointer (some ⟨r, 0, none⟩)] V fun e w' => e = .returned (.agg #[.int .u64 y0, .int .u64 y1, .int .u64 y2, .int .u64 y3]) ∧ Below V.heap.size V w' from KG0)
      have hz : ∀ z ∈ L', 0 ≤ z := fun z hz => by
        obtain ⟨c, hc⟩ := Option.isSome_iff_exists.1 ((hT.st.own.has z).1 hz)
        exact isOwn_ge (hA.isO z c hc)
      have KO0 := fun (V : World) (hV : Two w V p b k' s' q' g' L' r nb' va' vb' Ow' Dn') => hV.owners (by omega) hA.isO
      have KP0 := fun (V : World) (hV : Two w V p b k' s' q' g' L' r nb' va' vb' Ow' Dn') => rowners_any hV.rp hN
      rw [hA.ows hN hT.st.own] at KP0
      obtain ⟨n1, hn1⟩ : ∃ n1, n1 = L'.length := ⟨_, rfl⟩
      obtain ⟨xs, hxs⟩ : ∃ xs, xs = L'.map Int.toNat := ⟨_, rfl⟩
      have HX := Lib.hid (show xs.length = n1 from by rw [hxs, hn1, List.length_map])
      have hn1s : n1 ≤ 65536 := by have := hT.st.own.len; omega
      have KO := Lib.hid (show ∀ V : World, Two w V p b k' s' q' g' L' r nb' va' vb' Ow' Dn' → Calls Try.prog 16 #[.pointer (some ⟨p, 0, none⟩)] V fun e w' => ∃ A cap, e = .returned (.slice A n1 cap) ∧ NatsAt w' w'.heap.size A xs ∧ Below V.heap.size V w' from fun V hV => (KO0 V hV).mono fun e w' h => by
        obtain ⟨A, cap, h1, h2, _, h4⟩ := h
        rw [← hn1] at h1
        rw [← hxs] at h2
        exact ⟨A, cap, h1, h2, h4⟩)
      have KP := Lib.hid (show ∀ V : World, Two w V p b k' s' q' g' L' r nb' va' vb' Ow' Dn' → Calls Try.prog 17 #[.pointer (some ⟨r, 0, none⟩)] V fun e w' => ∃ A cap, e = .returned (.slice A n1 cap) ∧ NatsAt w' w'.heap.size A xs ∧ Below V.heap.size V w' from fun V hV => (KP0 V hV).mono fun e w' h => by
        obtain ⟨v, rfl, h2, h3⟩ := h
        obtain ⟨A, cap, rfl, h4⟩ := row_nats hz h2
        rw [← hn1]
        rw [← hxs] at h4
        exact ⟨A, cap, rfl, h4, h3⟩)
      have hz4 := ((g' on).getD Sh.none).ok
      have KZ0 := fun (V : World) (hV : Two w V p b k' s' q' g' L' r nb' va' vb' Ow' Dn') => hV.ofO HWF.out
      have hofW := hA.ofW hN on
      have hofT := hA.ofT hN on
      generalize ((g' on).getD Sh.none).t = tt at KZ0 hofT
      generalize ((g' on).getD Sh.none).m = Z at KZ0 hofW hz4
      obtain ⟨z0, z1, z2, z3, rfl⟩ := w4_ex hz4
      have KZ := Lib.hid (show ∀ V : World, Two w V p b k' s' q' g' L' r nb' va' vb' Ow' Dn' → Calls Try.prog 18 #[.pointer (some ⟨p, 0, none⟩), .int .i64 on] V fun e w' => e = .returned (.tuple #[.agg #[.int .u64 z0, .int .u64 z1, .int .u64 z2, .int .u64 z3], .bool tt]) ∧ Below V.heap.size V w' from KZ0)
      have KW := Lib.hid (show ∀ V : World, Two w V p b k' s' q' g' L' r nb' va' vb' Ow' Dn' → Calls Try.prog 19 #[.pointer (some ⟨r, 0, none⟩), .int .i64 on] V fun e w' => e = .returned (.tuple #[.agg #[.int .u64 z0, .int .u64 z1, .int .u64 z2, .int .u64 z3], .bool tt]) ∧ Below V.heap.size V w' from fun V hV => by
        have := rof_any hV.rp hN (by omega) on z0 z1 z2 z3 hofW
        rw [hofT] at this
        exact this)
      have HT5 := Lib.hid hT
      have HA5 := Lib.hid hA
      clear c0 c1 c2 c3 c4 c5 c6 c7 c8 c9 c10 c11 c12 KD hT hA HT hk' hn' hki hni KF0 KG0 hF4 hz KO0 KP0 hn1 hxs KZ0 hofW hofT hz4 hN
      go_wp2_with fail
      refine KF.out.mono ?_
      rintro _ w6 ⟨rfl, hb⟩
      have HT6 := Lib.hid (HT5.out.next hb)
      clear hb KF HT5
      go_wp2_with fail
      refine (KG.out _ HT6.out).mono ?_
      rintro _ w7 ⟨rfl, hb⟩
      have HT7 := Lib.hid (HT6.out.next hb)
      clear hb KG HT6
      go_wp2_with fail
      refine (KO.out _ HT7.out).mono ?_
      rintro _ w8 ⟨A1, cap1, rfl, hN1, hb⟩
      have HT8 := Lib.hid (HT7.out.next hb)
      have HN1 := Lib.hid hN1
      clear hb KO HT7 hN1
      go_wp2_with fail
      refine (KP.out _ HT8.out).mono ?_
      rintro _ w9 ⟨A2, cap2, rfl, hN2, hb⟩
      have HT9 := Lib.hid (HT8.out.next hb)
      have KS := Lib.hid (same_eq A1 A2 cap1 cap2 n1 xs w9 (nats_next HN1.out hb) hN2 HX.out hn1s)
      clear hb KP HT8 hN2 HN1
      go_wp2_with fail
      refine KS.out.mono ?_
      rintro _ w10 ⟨rfl, hb⟩
      have HT10 := Lib.hid (HT9.out.next hb)
      clear hb KS HT9
      obtain ⟨c0, c1, c2, c3, c4, c5, c6, c7, c8, c9, c10, c11, c12⟩ := HAT.out w10 HT10.out.st.low
      dsimp only at c1
      clear c0 c2 c3 c4 c5 c6 c7 c8 c9 c10 c11 c12
      go_wp2_with fail
      refine (KZ.out _ HT10.out).mono ?_
      rintro _ w11 ⟨rfl, hb⟩
      have hba := (Below.refl _ w11).alloc (Nat.le_refl _) (.cells #[.int .u64 z0, .int .u64 z1, .int .u64 z2, .int .u64 z3] 40)
      have HT11 := Lib.hid ((HT10.out.next hb).next hba)
      have HK1 := Lib.hid (Bk.new w11 40 #[.int .u64 z0, .int .u64 z1, .int .u64 z2, .int .u64 z3])
      clear hb hba KZ HT10 c1
      obtain ⟨c0, c1, c2, c3, c4, c5, c6, c7, c8, c9, c10, c11, c12⟩ := HAT.out _ HT11.out.st.low
      dsimp only at c1
      clear c0 c2 c3 c4 c5 c6 c7 c8 c9 c10 c11 c12
      go_wp2_with fail
      refine (KW.out _ HT11.out).mono ?_
      rintro _ w12 ⟨rfl, hb⟩
      have hba := (Below.refl _ w12).alloc (Nat.le_refl _) (.cells #[.int .u64 z0, .int .u64 z1, .int .u64 z2, .int .u64 z3] 35)
      have HT12 := Lib.hid ((HT11.out.next hb).next hba)
      have hk1 := (HK1.out.next hb).next hba
      have e0 := hk1.cell 0 _ rfl
      have e1 := hk1.cell 1 _ rfl
      have e2 := hk1.cell 2 _ rfl
      have e3 := hk1.cell 3 _ rfl
      clear hb hba KW HT11 hk1 HK1 c1
      go_wp2_with fail
      go_roundg gn
      case measure => omega
      case rel => exact ⟨i + 1, k', g', L', nb', va', vb', Ow', Dn', by omega, by go_num, hk5, hn5, HT12, HA5⟩
end Go.Proofs.Ythmlibapjhmdbaa
