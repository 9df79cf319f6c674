/- The law on orders. -/
import Derived.Test.YtodgkjmkjahkiaaE2
namespace Go.Proofs.Ytodgkjmkjahkiaa
open Go.RowKit

theorem own_cap {w : World} {base size n cap : Nat} {e : TypeId} {A : Option Addr} {xs : List Value} (h : w.ownsRow base e size (.slice A n cap) n xs) : n ≤ cap := by
  rcases h.2 with ⟨h0, _⟩ | ⟨g, c, cur, h1, h2, h3, h4, _⟩
  · cases h0; exact Nat.le_refl _
  · cases h1; exact h4
theorem IntsAt.cellAt {w : World} {ad : Addr} {zs : List Int} (h : IntsAt w (some ad) zs) {k : Nat} (hk : k < zs.length) : w.cell? (ad.add k) = some (.int .i64 (zs.getD k 0)) ∧ ad.block < w.heap.size := by
  rcases h with rfl | ⟨ad2, e, h1, h2⟩
  · cases hk
  · cases e; exact ⟨h2 k hk, h1⟩
theorem EdsAt.cellAt {w : World} {ad : Addr} {es : List Ed} (h : EdsAt w (some ad) es) {k : Nat} (hk : k < es.length) : EdAt w (ad.add (k * 2)) (edA es k) ∧ ad.block < w.heap.size := by
  rcases h with rfl | ⟨ad2, e, h1, h2⟩
  · cases hk
  · cases e; exact ⟨h2 k hk, h1⟩
theorem IntsAt.take {w : World} {A : Option Addr} {zs : List Int} (h : IntsAt w A zs) (i : Nat) : IntsAt w A (zs.take i) := by
  rcases h with rfl | ⟨ad, rfl, h1, h2⟩
  · exact .inl (by simp)
  · refine .inr ⟨ad, rfl, h1, fun j hj => ?_⟩
    rw [List.length_take] at hj
    rw [h2 j (by omega)]
    simp [List.getD, (by omega : j < i)]
theorem Good.out {l : List St} {o : List Int} (h : Good l o) {i : Nat} (hi : i < o.length) : ∃ q : Nat, o.getD i 0 = q ∧ q < l.length ∧ hasB (o.take i) q = false ∧ ∀ k, k < (stA l q).es.length → hasB (o.take i) (edA (stA l q).es k).s = true := by
  have hx : o[i]? = some o[i] := List.getElem?_eq_getElem hi
  obtain ⟨h1, h2, h3⟩ := h i _ hx
  obtain ⟨q, hq⟩ : ∃ q : Nat, o[i] = q := ⟨o[i].toNat, by omega⟩
  rw [hq] at h1 h2 h3
  refine ⟨q, by rw [List.getD_eq_getElem?_getD, hx, hq]; rfl, by omega, ?_, fun k hk => hasB_iff.2 (h3 _ (edA_mem hk))⟩
  rw [← Bool.not_eq_true, hasB_iff]
  exact h2
set_option maxRecDepth 100000 in
set_option maxHeartbeats 4000000 in
theorem order_law (A : Option Addr) (n cap : Nat) (l : List St) (w : World) (h : Sl w A n cap l) :
    Calls Try.prog 5 #[.slice A n cap] w fun e w' => e = .returned (.bool true) ∧ Below w.heap.size w w' := by
  have KL := Lib.hid live_any
  have K1 := Lib.hid (small_any A n cap l w h.sts h.len h.most)
  have K2 := Lib.hid (order_any A n cap l w h)
  have K3 := Lib.hid (fun V (hb : Below w.heap.size w V) => check_any A n cap l V (h.next hb))
  have H := Lib.hid h
  clear h
  cases hs : smallB l
  · rw [hs] at K1
    go_enter Try.func5, Try.ntmps5
    go_wp2_with (first
      | (go_at_call 15; (with_reducible refine K1.out.mono ?_); rintro y w ⟨rfl, rfl⟩)
      | (go_at_call 16; (with_reducible refine (KL.out _).mono ?_); rintro y w1 ⟨rfl, hb1⟩))
    go_ret
    exact ⟨rfl, hb1⟩
  · rw [hs] at K1
    clear hs
    by_cases hc : checkB l = 0
    · have ho := Lib.hid (show orderB l = placesB l from by unfold orderB; rw [if_pos hc])
      have hg := Lib.hid (Good.places l)
      have hlen := (check_ok hc).2
      have h16 := (may_len (check_ok hc).1).2
      rw [H.out.len] at hlen h16
      rw [ho.out] at K2
      rw [hc] at K3
      clear hc ho
      generalize placesB l = o at *
      go_enter Try.func5, Try.ntmps5
      go_wp2_with (first
        | (go_at_call 15; (with_reducible refine K1.out.mono ?_); rintro y w ⟨rfl, rfl⟩)
        | (go_at_call 20; (with_reducible refine K2.out.mono ?_); rintro y w1 ⟨v, rfl, hrow, hb1⟩; obtain ⟨A1, cap1, rfl⟩ := own_form hrow)
        | (go_at_call 17; (with_reducible refine (K3.out _ hb1).mono ?_); rintro y w2 ⟨rfl, hb2⟩))
      have hI := Lib.hid ((ints_iv rfl hrow).next hb2)
      have HB := Lib.hid (bmore hb1 hb2)
      have hcap := own_cap hrow
      clear hrow hb1 hb2
      go_loopg [4] o.length (fun g s4 wr => ∃ i : Nat, i + g = o.length ∧ s4 = .int .i64 i ∧ Below w2.heap.size w2 wr)
      case atStart => exact ⟨0, by omega, rfl, Below.refl _ _⟩
      case round =>
        obtain ⟨i, hig, rfl, hb⟩ := hrel
        obtain ⟨wo, hwo⟩ : ∃ x, x = wr := ⟨_, rfl⟩
        subst hwo
        cases gk with
        | zero =>
          have hlt : ¬ ((i : Int) < (o.length : Int)) := by omega
          have hle : ((o.length : Int) == (n : Int)) = true := by simp; omega
          go_wp2_with (go_at_call 16; (with_reducible refine (KL.out _).mono ?_); rintro y w5 ⟨rfl, hb5⟩)
          go_ret
          exact ⟨by first | rfl | simp_all, bmore HB.out (bmore hb hb5)⟩
        | succ g =>
          have i0 : (0 : Int) ≤ (i : Int) := by omega
          have i1 : (i : Int) < (o.length : Int) := by omega
          have hI2 := Lib.hid (hI.out.next hb)
          obtain ⟨ad, rfl, h1, h2⟩ := hI2.out.at_ (k := i) (by omega)
          obtain ⟨q, hq, hql, hno, hyes⟩ := hg.out.out (i := i) (by omega)
          rw [hq] at h2
          have HQ := Lib.hid hq
          clear hq
          rw [H.out.len] at hql
          have q0 : decide ((q : Int) < 0) = false := by simp
          have q1 : decide (n ≤ q) = false := by simp; omega
          have q2 : (0 : Int) ≤ (q : Int) := by omega
          have q3 : (q : Int) < (n : Int) := by omega
          have HN := Lib.hid hno
          have HY := Lib.hid hyes
          have hcap2 : (i : Int) ≤ (cap1 : Int) := by omega
          clear hno hyes
          have hI3 := Lib.hid (hI2.out.take i)
          have htl := Lib.hid (show (o.take i).length = i from by rw [List.length_take]; omega)
          have K28 := Lib.hid (fun (m : In wo.heap.size wo) x b (hx : hasB (o.take i) x = b) => hx ▸ in_any (some ad) i cap1 (o.take i) x m.val (hI3.out.next m.ok) htl.out (by unfold maxLen; omega))
          have h3 := Lib.hid h2
          have hIn := inNonempty wo.heap.size wo
          replace h2 := In.cell (B := wo.heap.size) (by rw [block_add]; exact h1) h2
          go_wp2_with fail
          refine region_in wo.heap.size (by kernel_rfl) (by kernel_rfl) ?_
          repeat (go_big_quiet_step (first
            | (go_at_call 28; with_reducible exact Calls.in_eq (K28.out _ _ _ HN.out))))
          refine wpQuiet_nil ?_
          intro w4 hb4
          clear h2 hIn K28
          have hI4 := Lib.hid (hI2.out.next hb4)
          have hb5 := Lib.hid (bmore hb hb4)
          obtain ⟨ad2, B, c, rfl, g1, g2⟩ := (H.out.sts.next (bmore HB.out hb5.out)).at_ (i := q) (by rw [H.out.len]; exact hql)
          have G := Lib.hid g2
          have lm := g2.lm
          unfold maxLen at lm
          have hqv := Lib.hid (show o.getD i 0 = (q : Int) from HQ.out)
          have c4 := g2.c4
          have h2 := (hI4.out.cellAt (k := i) (by omega)).1
          rw [hqv.out] at h2
          clear h3 g2 HQ
          generalize stA l q = x at *
          go_wp2
          go_loopg [5] x.es.length (fun g3 s5 wz => ∃ k : Nat, k + g3 = x.es.length ∧ s5 = .int .i64 k ∧ Below w4.heap.size w4 wz)
          case atStart => exact ⟨0, by omega, rfl, Below.refl _ _⟩
          case round =>
            obtain ⟨k, hkg, rfl, hb6⟩ := hrel
            have hI6 := Lib.hid (hI4.out.next hb6)
            have h6 := hI6.out.cellAt (k := i) (by omega)
            rw [hqv.out] at h6
            have G6 := Lib.hid (G.out.next hb6 (by rw [block_add]; exact g1))
            have d4 := G6.out.c4
            obtain ⟨h6, h6b⟩ := h6
            cases gk with
            | zero =>
              have hkm : ¬ ((k : Int) < (x.es.length : Int)) := by omega
              go_wp2
              go_roundg g
              case measure => omega
              case rel => exact ⟨i + 1, by omega, by go_num, bmore hb5.out hb6⟩
            | succ g3 =>
              have j0 : (0 : Int) ≤ (k : Int) := by omega
              have j1 : (k : Int) < (x.es.length : Int) := by omega
              obtain ⟨ad3, rfl, hh, e0, e1⟩ := G6.out.eds.at_ (k := k) (by omega)
              have hy := Lib.hid (HY.out k (by omega))
              have hI3 := Lib.hid (hI6.out.take i)
              have K28 := Lib.hid (fun (m : In wr.heap.size wr) x b (hx : hasB (o.take i) x = b) => hx ▸ in_any (some ad) i cap1 (o.take i) x m.val (hI3.out.next m.ok) htl.out (by unfold maxLen; omega))
              have hIn := inNonempty wr.heap.size wr
              generalize edA x.es k = e at *
              go_wp2
              replace h6 := In.cell (B := wr.heap.size) (by rw [block_add]; exact h6b) h6
              replace d4 := In.cell (B := wr.heap.size) (by show (Addr.add _ _).block < _; rw [block_add]; exact Nat.lt_of_lt_of_le g1 hb6.size) d4
              replace e0 := In.cell (B := wr.heap.size) (by rw [block_add]; exact hh) e0
              refine region_in wr.heap.size (by kernel_rfl) (by kernel_rfl) ?_
              repeat (go_big_quiet_step (first
                | (go_at_call 28; with_reducible exact Calls.in_eq (K28.out _ _ _ hy.out))))
              refine wpQuiet_nil ?_
              intro w7 hb7
              clear h6 d4 e0 hIn K28
              go_wp2
              go_roundg g3
              case measure => omega
              case rel => exact ⟨k + 1, by omega, by go_num, bmore hb6 hb7⟩
    · have ho := Lib.hid (show orderB l = [] from by unfold orderB; rw [if_neg hc])
      have hc' : (checkB l == 0) = false := by simpa using hc
      have hc2 : (checkB l != 0) = true := by unfold bne; rw [hc']; rfl
      rw [ho.out] at K2
      generalize checkB l = c at *
      clear hc
      go_enter Try.func5, Try.ntmps5
      go_wp2_with (first
        | (go_at_call 15; (with_reducible refine K1.out.mono ?_); rintro y w ⟨rfl, rfl⟩)
        | (go_at_call 20; (with_reducible refine K2.out.mono ?_); rintro y w1 ⟨v, rfl, hrow, hb1⟩; obtain ⟨A1, cap1, rfl⟩ := own_form hrow)
        | (go_at_call 17; (with_reducible refine (K3.out _ hb1).mono ?_); rintro y w2 ⟨rfl, hb2⟩)
        | (go_at_call 16; (with_reducible refine (KL.out _).mono ?_); rintro y w3 ⟨rfl, hb3⟩))
      go_ret
      exact ⟨rfl, bmore (bmore hb1 hb2) hb3⟩
end Go.Proofs.Ytodgkjmkjahkiaa
