/- The document's pool: Commit, Release. -/
import Derived.Test.YthmlibapjhmdbaaGQ26xQ27xQ28
namespace Go.Proofs.Ythmlibapjhmdbaa
open Go.RowKit Go.Shelf Go.Maps

/-- Whether Commit is refused. -/
def rcB (Ow Dn : List Int) (n : Int) : Bool := !rh Ow n || decide (n ∈ Dn)
set_option maxRecDepth 100000 in
set_option maxHeartbeats 2000000 in
theorem rcommit_any {w : World} {r s q na nb : Nat} {va vb : Value} {Ow Dn : List Int} (h : RPool w r s q va vb na nb Ow Dn) (hm : na ≤ 256) (hd : nb ≤ 1000) (n : Int) :
    Calls Try.prog 35 #[.pointer (some ⟨r, 0, none⟩), .int .i64 n] w fun e w' => (rcB Ow Dn n = true ∧ e = .returned (.int .i64 14) ∧ Below w.heap.size w w') ∨ (rcB Ow Dn n = false ∧ e = .returned (.int .i64 0) ∧ (∃ vb', RPool w' r s q va vb' na (nb + 1) Ow (Dn ++ [n])) ∧ Td (RX r va vb) w w') := by
  have KH := Lib.hid (rhas_any h hm n)
  have HH := Lib.hid h
  have hr := h.blk.lt
  clear h
  unfold rcB
  cases hh : rh Ow n with
  | false =>
    rw [hh] at KH
    clear hh
    go_enter Try.func35, Try.ntmps35
    go_wp2_with fail
    refine KH.out.mono ?_
    rintro _ w1 ⟨rfl, hb⟩
    go_wp2_with fail
    go_ret
    exact .inl ⟨rfl, rfl, hb⟩
  | true =>
    rw [hh] at KH
    clear hh
    cases hdn : decide (n ∈ Dn) with
    | true =>
      go_enter Try.func35, Try.ntmps35
      go_wp2_with fail
      refine KH.out.mono ?_
      rintro _ w1 ⟨rfl, hb⟩
      have KD := Lib.hid (done_any (HH.out.next hb) hd n)
      rw [hdn] at KD
      clear hdn
      go_wp2_with fail
      refine KD.out.mono ?_
      rintro _ w2 ⟨rfl, rfl⟩
      go_wp2_with fail
      go_ret
      exact .inl ⟨rfl, rfl, hb⟩
    | false =>
      obtain ⟨i0, hi, hz0, hz1, hz2⟩ := info_parts info3
      go_enter Try.func35, Try.ntmps35
      go_wp2_with fail
      refine KH.out.mono ?_
      rintro _ w1 ⟨rfl, hb⟩
      have KD := Lib.hid (done_any (HH.out.next hb) hd n)
      rw [hdn] at KD
      clear hdn
      go_wp2_with fail
      refine KD.out.mono ?_
      rintro _ w2 ⟨rfl, rfl⟩
      have H1 := Lib.hid (HH.out.next hb)
      have c3 := H1.out.blk.cell 3 _ rfl
      obtain ⟨A, cap, rfl⟩ := own_form H1.out.rb
      have HPB := Lib.hid (fun v' w6 q1 q2 q3 => RPool.pushB (x := n) (vb' := v') (w6 := w6) H1.out q1 q2 q3)
      go_wp2_with (at_builtin; refine wpList_append_own_at _ rfl _ _ 44 rfl (r + 1) 3 i0 (.int .i64 0) 1 8 Try.underlying44 hi hz0 hz1 hz2 rfl (by decide) _ _ _ rfl (H1.out.rb.alloc _) ⟨w1.heap.size, 0, none⟩ 1 1 [.int .i64 n] rfl rfl (cell_one_new _ _ _) (by simp [Value.oneCell']) (by unfold maxLen; omega) (by omega) (by have := H1.out.blk.lt; simp; omega) ?_; intro v8 w8 hown8 hg8 _ hat8; obtain ⟨y1, y2, y3, y4⟩ := HPB.out v8 w8 hown8 hg8 hat8; obtain ⟨A8, cap8, rfl⟩ := own_form hown8)
      go_ret
      exact .inr ⟨rfl, rfl, ⟨_, y3⟩, (Td.of_below hb).trans y4⟩
/-- Who committed, without one. -/
def rmD (Dn : List Int) (n : Int) : List Int := Dn.filter fun z => decide (z ≠ n)
theorem rmD_snoc (Dn : List Int) (n z : Int) (k : Nat) (h : Dn[k]? = some z) : rmD (Dn.take (k + 1)) n = if z = n then rmD (Dn.take k) n else rmD (Dn.take k) n ++ [z] := by
  unfold rmD
  rw [List.take_add_one, h, List.filter_append]
  by_cases e : z = n
  · subst e; simp
  · simp [e]
end Go.Proofs.Ythmlibapjhmdbaa
/- The document's pool: Release. -/
namespace Go.Proofs.Ythmlibapjhmdbaa
open Go.RowKit Go.Shelf Go.Maps

theorem own_some {w : World} {base e size n : Nat} {v : Value} {xs : List Value} (h : w.ownsRow base e size v n xs) (hn : 0 < n) : ∃ g cap, v = .slice (some ⟨g, 0, none⟩) n cap := by
  rcases h.2 with ⟨rfl, h0⟩ | ⟨g, cap, cur, rfl, _⟩
  · omega
  · exact ⟨g, cap, rfl⟩
theorem RPool.left {w : World} {r s q na nb k B : Nat} {va vb v : Value} {Ow Dn xs : List Int} (h : RPool w r s q va vb na nb Ow Dn) (hB : ∀ g, va.ownBlock = some g → g < B) (hr : r + 1 ≤ B) (hv : w.ownsRow B 3 1 v k (iv xs)) (hk : xs.length = k) :
    RPool (w.setCell ⟨r, 3, none⟩ v) r s q va v na k Ow xs := by
  refine ⟨by simpa [Bk] using heap_setCell_same w r 3 _ 69 v h.blk, ownsRow_setCell_below h.ra (by simp) _, ownsRow_setCell_below (Joins.ownsRow_le hv hr) (by simp) _, fun g e e2 => ?_, h.la, hk⟩
  have := hB g e
  have := (own_blk hv e2).1
  omega
set_option maxRecDepth 100000 in
set_option maxHeartbeats 4000000 in
theorem rrelease_any {w : World} {r s q na nb : Nat} {va vb : Value} {Ow Dn : List Int} (h : RPool w r s q va vb na nb Ow Dn) (hm : na ≤ 256) (h1 : 1 ≤ na) (hd : nb ≤ 1000) (n : Int) :
    Calls Try.prog 36 #[.pointer (some ⟨r, 0, none⟩), .int .i64 n] w fun e w' => (rh Ow n = false ∧ e = .returned (.int .i64 14) ∧ Below w.heap.size w w') ∨ (rh Ow n = true ∧ e = .returned (.int .i64 0) ∧ (∃ vb' nb', nb' ≤ nb ∧ RPool w' r s q va vb' na nb' (gv (Mk.ofL (hv Ow n na)) (-1) Ow na) (rmD Dn n)) ∧ Td (RX r va vb) w w') := by
  have KH := Lib.hid (rhas_any h hm n)
  have HH := Lib.hid h
  have hr := h.blk.lt
  clear h
  by_cases hh : rh Ow n = false
  · rw [hh] at KH
    replace hh := Lib.hid hh
    go_enter Try.func36, Try.ntmps36
    go_wp2_with fail
    refine KH.out.mono ?_
    rintro _ w1 ⟨rfl, hb⟩
    go_wp2_with fail
    go_ret
    exact .inl ⟨hh.out, rfl, hb⟩
  · replace hh : rh Ow n = true := by simpa using hh
    rw [hh] at KH
    replace hh := Lib.hid hh
    obtain ⟨g, cap, rfl⟩ := own_some HH.out.ra h1
    obtain ⟨i0, hi, hz0, hz1, hz2⟩ := info_parts info3
    have hF := Mk.ofL_W4 (hv_lt (Ow := Ow) (n := n) hm)
    obtain ⟨m, hme⟩ : ∃ m, Mk.ofL (hv Ow n na) = m := ⟨_, rfl⟩
    rw [hme] at hF ⊢
    replace hme := Lib.hid hme
    obtain ⟨m0, m1, m2, m3, rfl⟩ : ∃ m0 m1 m2 m3, m = [m0, m1, m2, m3] := ⟨_, _, _, _, Mk.len4 hF.1⟩
    replace hF := Lib.hid hF
    go_enter Try.func36, Try.ntmps36
    go_wp2_with fail
    refine KH.out.mono ?_
    rintro _ w1 ⟨rfl, hb⟩
    have H1 := Lib.hid (HH.out.next hb)
    have KV := Lib.hid (having_any H1.out hm n)
    rw [hme.out] at KV
    replace KV : Hid (Calls Try.prog 37 #[.pointer (some ⟨r, 0, none⟩), .int .i64 n] w1 fun e w' => e = .returned (.agg #[.int .u64 m0, .int .u64 m1, .int .u64 m2, .int .u64 m3]) ∧ Below w1.heap.size w1 w') := KV
    replace hb : Td (RX r (.slice (some ⟨g, 0, none⟩) na cap) vb) w w1 := Td.of_below hb
    go_wp2_with fail
    refine KV.out.mono ?_
    rintro _ w2 ⟨rfl, hb2⟩
    have H2 := Lib.hid (H1.out.next hb2)
    have hr1 := H1.out.blk.lt
    replace hb := hb.trans (Td.of_below hb2)
    clear hb2 KV KH
    have KG := Lib.hid (give_any H2.out hm (-1) m0 m1 m2 m3 hF.out)
    go_wp2_with fail
    refine KG.out.mono ?_
    rintro _ w3 ⟨⟨u, rfl⟩, hR3, hG3⟩
    have hgb : r + 1 ≤ g ∧ g < w3.heap.size := own_blk hR3.ra rfl
    have hr2 := H2.out.blk.lt
    replace hb := hb.trans (Td.grown hG3 (fun k e => .inr (.inl e)))
    have H3 := Lib.hid hR3
    clear hR3 hG3 KG H1 H2 HH
    obtain ⟨A, capB, rfl⟩ := own_form H3.out.rb
    have HA := Lib.hid (row_at H3.out.rb)
    have hL := Lib.hid H3.out.lb
    have hr3 := H3.out.blk.lt
    go_wp2_with fail
    go_loopg [5, 6] nb (fun c s5 s6 wr => ∃ j k : Nat, j + c = nb ∧ k ≤ j ∧ s6 = .int .i64 j ∧ wr.ownsRow w3.heap.size 3 1 s5 k (iv (rmD (Dn.take j) n)) ∧ Hid ((rmD (Dn.take j) n).length = k) ∧ Below w3.heap.size w3 wr)
    case atStart => exact ⟨0, 0, by omega, Nat.le_refl _, rfl, by simpa [rmD] using World.ownsRow_nil _ _ _ _, Lib.hid (by simp [rmD]), Below.refl _ _⟩
    case round =>
      obtain ⟨j, k, hj, hkj, rfl, hrow, HK, hbr⟩ := hrel
      obtain ⟨A2, cap2, rfl⟩ := own_form hrow
      have HR := H3.out.next hbr
      have c3 := HR.blk.cell 3 _ rfl
      have hsz := hbr.size
      cases gk with
      | zero =>
        obtain rfl : j = nb := by omega
        have hlt : ¬ ((j : Int) < (j : Int)) := by omega
        have hT : rmD (Dn.take j) n = rmD Dn n := by rw [List.take_of_length_le (by have := hL.out; omega)]
        rw [hT] at hrow HK
        have f3 := HR.blk.frozen 3
        have HX := Lib.hid (HR.left (fun g' e => by have e2 : g = g' := Option.some.inj e; omega) (by omega) hrow HK.out)
        have HB := Lib.hid (hb.trans ((Td.of_below hbr).trans (Td.set ⟨r, 3, none⟩ (.inl rfl) (.slice A2 k cap2))))
        clear HR hrow HA hT
        go_wp2_with fail
        go_ret
        exact .inr ⟨hh.out, rfl, ⟨_, k, hkj, HX.out⟩, HB.out⟩
      | succ g1 =>
        have p0 : (0 : Int) ≤ (j : Int) := by omega
        have p1 : (j : Int) < (nb : Int) := by omega
        obtain ⟨gz, rfl, hgz, hat⟩ : ∃ gz, A = some ⟨gz, 0, none⟩ ∧ gz < w3.heap.size ∧ ∀ j z, j < nb → Dn[j]? = some z → w3.cell? ⟨gz, j, none⟩ = some (.int .i64 z) := by
          rcases HA.out with e | e
          · omega
          · exact e
        obtain ⟨z, ez⟩ : ∃ z, Dn[j]? = some z := ⟨_, List.getElem?_eq_getElem (by have := hL.out; omega)⟩
        have a0 := (hbr.cell (p := ⟨gz, j, none⟩) hgz).trans (hat j z (by omega) ez)
        have HS := rmD_snoc Dn n z j ez
        by_cases e : z = n
        · have t0 : (z == n) = true := by simpa using e
          rw [if_pos e] at HS
          replace HS := Lib.hid HS
          clear hat ez e HR
          go_wp2_with fail
          go_roundg g1
          case measure => omega
          case rel => exact ⟨j + 1, k, by omega, by omega, by go_num, by rw [HS.out]; exact hrow, by rw [HS.out]; exact HK, hbr⟩
        · have t0 : (z == n) = false := by simpa using e
          rw [if_neg e] at HS
          replace HS := Lib.hid HS
          clear hat ez e HR
          go_wp2_with (at_builtin; refine wpList_append_own _ rfl _ _ 44 rfl w3.heap.size 3 i0 (.int .i64 0) 1 8 Try.underlying44 hi hz0 hz1 hz2 rfl (by decide) _ _ _ rfl (hrow.alloc _) ⟨wr.heap.size, 0, none⟩ 1 1 [.int .i64 z] rfl rfl (cell_one_new _ _ _) (by simp [Value.oneCell']) (by unfold maxLen; omega) (by omega) (by simp; omega) ?_; intro v' w5 hown' hgrow _; obtain ⟨g', cap', rfl⟩ := ownsRow_succ hown'; have hb5 := appended_below hrow (by omega) hgrow)
          go_roundg g1
          case measure => omega
          case rel => exact ⟨j + 1, k + 1, by omega, by omega, by go_num, by rw [HS.out, iv_snoc]; exact hown', Lib.hid (by rw [HS.out, List.length_append, HK.out]; rfl), hbr.trans (hb5.mono (by omega))⟩
end Go.Proofs.Ythmlibapjhmdbaa
/- The document's pool: Free; the document's Minus. -/
namespace Go.Proofs.Ythmlibapjhmdbaa
open Go.RowKit Go.Shelf Go.Maps

set_option maxRecDepth 100000 in
set_option maxHeartbeats 2000000 in
theorem rfree_any {w : World} {r s q na nb : Nat} {va vb : Value} {Ow Dn : List Int} (h : RPool w r s q va vb na nb Ow Dn) (hm : na ≤ 256) :
    Calls Try.prog 14 #[.pointer (some ⟨r, 0, none⟩)] w fun e w' => e = .returned (.agg (vs .u64 (Mk.ofL (hv Ow (-1) na)))) ∧ Below w.heap.size w w' := by
  have hba := (Below.refl _ w).alloc (Nat.le_refl _) (.cells (vs .u64 Mk.zero) 35)
  have KV := Lib.hid (having_any (h.next hba) hm (-1))
  have r0 := Row.new w .u64 35 Mk.zero _ rfl
  have hw4 := Lib.hid (Mk.ofL_W4 (hv_lt (Ow := Ow) (n := -1) hm))
  clear h
  obtain ⟨m, hme⟩ : ∃ m, Mk.ofL (hv Ow (-1) na) = m := ⟨_, rfl⟩
  rw [hme] at KV hw4 ⊢
  clear hme
  have hlen := Lib.hid (zero_len hw4.out)
  have hz' := Lib.hid (info40 hw4.out.1)
  go_enter Try.func14, Try.ntmps14
  go_wp2_with fail
  refine KV.out.mono ?_
  rintro _ w5 ⟨rfl, hb5⟩
  replace r0 := r0.next hb5
  have hb := bmore hba hb5
  have hl1 := r0.lt
  clear hb5 KV hba
  go_wp2_with (refine store_law rfl 35 _ _ rfl w.heap.size .u64 Mk.zero m rfl rfl 35 r0 hlen.out hz'.out ?_; intro w7 hw7)
  exact bodyPost_ret (results_row rfl _ _ w.heap.size .u64 35 _ _ rfl (r0.hidSet hw7) Try.underlying35 rfl hz'.out) rfl ⟨rfl, below_hidSet hb hw7 (by omega)⟩
theorem Bk.four {w : World} {g : Nat} {t : TypeId} {a b c d : Value} (h : Bk w g t #[a, b, c, d]) : w.cell? ⟨g, 0, none⟩ = some a ∧ w.cell? ⟨g, 1, none⟩ = some b ∧ w.cell? ⟨g, 2, none⟩ = some c ∧ w.cell? ⟨g, 3, none⟩ = some d :=
  ⟨h.cell 0 _ rfl, h.cell 1 _ rfl, h.cell 2 _ rfl, h.cell 3 _ rfl⟩
theorem fl_succ_yes {p : Nat → Bool} {k : Nat} (h : p k = true) : (List.range (k + 1)).filter p = (List.range k).filter p ++ [k] := by
  rw [List.range_succ, List.filter_append]; simp [h]
theorem fl_succ_no {p : Nat → Bool} {k : Nat} (h : p k = false) : (List.range (k + 1)).filter p = (List.range k).filter p := by
  rw [List.range_succ, List.filter_append]; simp [h]
theorem fl_len (p : Nat → Bool) (k : Nat) : ((List.range k).filter p).length ≤ k := by
  have := List.length_filter_le p (List.range k)
  rwa [List.length_range] at this
theorem fl_lt (p : Nat → Bool) : ∀ x ∈ (List.range 256).filter p, x < 256 := fun x hx => by simpa using (List.mem_filter.1 hx).1
theorem fl_has (p : Nat → Bool) {d : Nat} (hd : d < 256) : Mk.hasB (Mk.ofL ((List.range 256).filter p)) d = p d := by
  rw [Mk.has_ofL (fl_lt p), Bool.eq_iff_iff]
  simp [hd]
theorem fl_minus {a b : List Nat} (ha : Mk.W4 a) (hb : Mk.W4 b) : Mk.ofL ((List.range 256).filter fun c => Mk.hasB a c && !Mk.hasB b c) = zw andN a b :=
  Mk.ext (Mk.ofL_W4 (fl_lt _)) (andN_W4 ha hb) fun d hd => by rw [fl_has _ hd, has_andN ha hb hd]

set_option maxRecDepth 100000 in
set_option maxHeartbeats 1000000 in
theorem rMinus_any (x0 x1 x2 x3 y0 y1 y2 y3 : Nat) (w : World) (hx : Mk.W4 [x0, x1, x2, x3]) (hy : Mk.W4 [y0, y1, y2, y3]) :
    Calls Try.prog 53 #[.agg #[.int .u64 x0, .int .u64 x1, .int .u64 x2, .int .u64 x3], .agg #[.int .u64 y0, .int .u64 y1, .int .u64 y2, .int .u64 y3]] w fun e w' => e = .returned (.agg (vs .u64 (zw andN [x0, x1, x2, x3] [y0, y1, y2, y3]))) ∧ Below w.heap.size w w' := by
  obtain ⟨i0, hi, hz0, hz1, hz2⟩ := info_parts info3
  have HX := Lib.hid hx
  have HY := Lib.hid hy
  have HE := Lib.hid (fl_minus hx hy)
  have HW := Lib.hid (andN_W4 hx hy)
  clear hx hy
  obtain ⟨p, hp⟩ : ∃ p, p = fun c => Mk.hasB [x0, x1, x2, x3] c && !Mk.hasB [y0, y1, y2, y3] c := ⟨_, rfl⟩
  have HP := Lib.hid hp
  rw [← hp] at HE
  clear hp
  have r0 := (((Bk.new w 35 #[.int .u64 x0, .int .u64 x1, .int .u64 x2, .int .u64 x3]).alloc (.cells #[.int .u64 y0, .int .u64 y1, .int .u64 y2, .int .u64 y3] 35)).alloc (.cells #[.int .u64 0, .int .u64 0, .int .u64 0, .int .u64 0] 35))
  have r1 := ((Bk.new (w.alloc (.cells #[.int .u64 x0, .int .u64 x1, .int .u64 x2, .int .u64 x3] 35)) 35 #[.int .u64 y0, .int .u64 y1, .int .u64 y2, .int .u64 y3]).alloc (.cells #[.int .u64 0, .int .u64 0, .int .u64 0, .int .u64 0] 35))
  have r2 := Row.new ((w.alloc (.cells #[.int .u64 x0, .int .u64 x1, .int .u64 x2, .int .u64 x3] 35)).alloc (.cells #[.int .u64 y0, .int .u64 y1, .int .u64 y2, .int .u64 y3] 35)) .u64 35 Mk.zero #[.int .u64 0, .int .u64 0, .int .u64 0, .int .u64 0] rfl
  have hb0 := ((((Below.refl _ w).alloc (Nat.le_refl _) (.cells #[.int .u64 x0, .int .u64 x1, .int .u64 x2, .int .u64 x3] 35)).alloc (by simp) (.cells #[.int .u64 y0, .int .u64 y1, .int .u64 y2, .int .u64 y3] 35)).alloc (by simp; omega) (.cells #[.int .u64 0, .int .u64 0, .int .u64 0, .int .u64 0] 35))
  simp only [size_alloc] at r1 r2
  go_enter Try.func53, Try.ntmps53
  go_wp2_with fail
  go_loopw [5, 6] (fun o i wr => ∃ (k : Nat), k ≤ 256 ∧ i = .int .i64 k ∧ wr.ownsRow (w.heap.size + 3) 3 1 o ((List.range k).filter p).length (nv ((List.range k).filter p)) ∧ Bk wr w.heap.size 35 #[.int .u64 x0, .int .u64 x1, .int .u64 x2, .int .u64 x3] ∧ Bk wr (w.heap.size + 1) 35 #[.int .u64 y0, .int .u64 y1, .int .u64 y2, .int .u64 y3] ∧ Row .u64 35 wr (w.heap.size + 1 + 1) Mk.zero ∧ Below w.heap.size w wr)
    (fun _ i _ => 256 - (intOf i).toNat)
  case atStart => exact ⟨0, Nat.zero_le _, rfl, World.ownsRow_nil _ _ _ _, r0, r1, r2, hb0⟩
  case round =>
    clear r0 r1 r2 hb0
    obtain ⟨k, hk, rfl, hrow, r0, r1, r2, hb⟩ := hrel
    have hlen := fl_len p k
    have hs0 := r2.lt
    by_cases hlt : k < 256
    · have H1 := rHas_in [x0, x1, x2, x3] k
      have H2 := rHas_in [y0, y1, y2, y3] k
      have hpk : Hid (p k = (Mk.hasB [x0, x1, x2, x3] k && !Mk.hasB [y0, y1, y2, y3] k)) := by show _ = _; rw [HP.out]
      obtain ⟨c0, c1, c2, c3⟩ := r0.four
      rcases h1 : Mk.hasB [x0, x1, x2, x3] k with _ | _
      · have hB : p k = false := by rw [hpk.out, h1]; rfl
        have hF := Lib.hid (fl_succ_no hB)
        generalize (List.range k).filter p = f at *
        obtain ⟨A, cap, rfl⟩ := own_form hrow
        rw [h1] at H1
        replace H1 := Lib.hid H1
        clear H2
        go_wp2_with fail
        refine (H1.out _ HX.out hlt).mono ?_
        rintro e w1 ⟨rfl, hb1⟩
        replace hrow := own_next hrow hb1; replace r0 := r0.next hb1; replace r1 := r1.next hb1; replace r2 := r2.next hb1; replace hb := bmore hb hb1
        have hs1 := r2.lt
        clear hb1 c0 c1 c2 c3
        go_wp2_with fail
        go_roundw
        case rel => exact ⟨k + 1, by omega, by go_num, by rw [hF.out]; exact hrow, r0, r1, r2, hb⟩
        case measure => simp [intOf]; omega
      · rw [h1] at H1
        replace H1 := Lib.hid H1
        rcases h2 : Mk.hasB [y0, y1, y2, y3] k with _ | _
        · have hB : p k = true := by rw [hpk.out, h1, h2]; rfl
          have hF := Lib.hid (fl_succ_yes hB)
          generalize (List.range k).filter p = f at *
          obtain ⟨A, cap, rfl⟩ := own_form hrow
          rw [h2] at H2
          replace H2 := Lib.hid H2
          go_wp2_with fail
          refine (H1.out _ HX.out hlt).mono ?_
          rintro e w1 ⟨rfl, hb1⟩
          replace hrow := own_next hrow hb1; replace r0 := r0.next hb1; replace r1 := r1.next hb1; replace r2 := r2.next hb1; replace hb := bmore hb hb1
          clear hb1 c0 c1 c2 c3
          obtain ⟨c0, c1, c2, c3⟩ := r1.four
          go_wp2_with fail
          refine (H2.out _ HY.out hlt).mono ?_
          rintro e w2 ⟨rfl, hb1⟩
          replace hrow := own_next hrow hb1; replace r0 := r0.next hb1; replace r1 := r1.next hb1; replace r2 := r2.next hb1; replace hb := bmore hb hb1
          have hs1 := r2.lt
          clear hb1 c0 c1 c2 c3
          go_wp2_with (at_builtin; refine wpList_append_own _ rfl _ _ 44 rfl (w.heap.size + 3) 3 i0 (.int .i64 0) 1 8 Try.underlying44 hi hz0 hz1 hz2 rfl (by decide) _ _ _ rfl (hrow.alloc _) ⟨w2.heap.size, 0, none⟩ 1 1 [.int .i64 (k : Int)] rfl rfl (cell_one_new _ _ _) (by simp [Value.oneCell']) (by unfold maxLen; omega) (by omega) (by simp; omega) ?_; intro v' w9 hown' hgrow _; obtain ⟨g', cap', rfl⟩ := ownsRow_succ hown'; have hb9 := appended_below hrow (by omega) hgrow)
          go_roundw
          case rel => exact ⟨k + 1, by omega, by go_num, by rw [hF.out, nv_snoc, List.length_append]; exact hown', r0.below hb9 (by omega), r1.below hb9 (by omega), r2.below hb9 (by omega), hb.trans (hb9.mono (by omega))⟩
          case measure => simp [intOf]; omega
        · have hB : p k = false := by rw [hpk.out, h1, h2]; rfl
          have hF := Lib.hid (fl_succ_no hB)
          generalize (List.range k).filter p = f at *
          obtain ⟨A, cap, rfl⟩ := own_form hrow
          rw [h2] at H2
          replace H2 := Lib.hid H2
          go_wp2_with fail
          refine (H1.out _ HX.out hlt).mono ?_
          rintro e w1 ⟨rfl, hb1⟩
          replace hrow := own_next hrow hb1; replace r0 := r0.next hb1; replace r1 := r1.next hb1; replace r2 := r2.next hb1; replace hb := bmore hb hb1
          clear hb1 c0 c1 c2 c3
          obtain ⟨c0, c1, c2, c3⟩ := r1.four
          go_wp2_with fail
          refine (H2.out _ HY.out hlt).mono ?_
          rintro e w2 ⟨rfl, hb1⟩
          replace hrow := own_next hrow hb1; replace r0 := r0.next hb1; replace r1 := r1.next hb1; replace r2 := r2.next hb1; replace hb := bmore hb hb1
          have hs1 := r2.lt
          clear hb1 c0 c1 c2 c3
          go_wp2_with fail
          go_roundw
          case rel => exact ⟨k + 1, by omega, by go_num, by rw [hF.out]; exact hrow, r0, r1, r2, hb⟩
          case measure => simp [intOf]; omega
    · obtain rfl : k = 256 := by omega
      have hwd := Lib.hid (wds_ofL (fl_lt p))
      have hz := Lib.hid (info40 HW.out.1)
      have hl4 := Lib.hid (zero_len HW.out)
      generalize (List.range 256).filter p = f at *
      obtain ⟨A, cap, rfl⟩ := own_form hrow
      have hA := nats_nv rfl hrow
      go_wp2_with fail
      refine (make_any A cap f.length f _ hA rfl (by omega)).mono ?_
      rintro e w2 ⟨rfl, hb2⟩
      rw [hwd.out, HE.out]
      replace r2 := r2.next hb2
      replace hb := bmore hb hb2
      go_wp2_with (refine store_law rfl 35 _ _ rfl (w.heap.size + 1 + 1) .u64 Mk.zero (zw andN [x0, x1, x2, x3] [y0, y1, y2, y3]) rfl rfl 35 r2 hl4.out hz.out ?_; intro w7 hw7)
      exact bodyPost_ret (results_row rfl _ _ (w.heap.size + 1 + 1) .u64 35 _ _ rfl (r2.hidSet hw7) Try.underlying35 rfl hz.out) rfl ⟨rfl, below_hidSet hb hw7 (by omega)⟩

end Go.Proofs.Ythmlibapjhmdbaa
