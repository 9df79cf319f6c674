/- The document's pool in memory; what it has. -/
import Derived.Test.YthmlibapjhmdbaaQ24
import Derived.Laws.OwnMore
namespace Go.Proofs.Ythmlibapjhmdbaa
open Go.RowKit Go.Shelf Go.Maps

abbrev iv (zs : List Int) : List Value := zs.map fun z => .int .i64 z
theorem own_blk {w : World} {base size n g : Nat} {e : TypeId} {v : Value} {xs : List Value} (h : w.ownsRow base e size v n xs) (hb : v.ownBlock = some g) : base ≤ g ∧ g < w.heap.size := by
  rcases h.2 with ⟨rfl, _⟩ | ⟨g', c, cu, rfl, h2, h3, _⟩
  · simp [Value.ownBlock] at hb
  · have e : g' = g := by simpa [Value.ownBlock] using hb
    subst e
    exact ⟨h2, (Array.getElem?_eq_some_iff.1 h3).1⟩
theorem own_kept {w w' : World} {base size n : Nat} {e : TypeId} {v : Value} {xs : List Value} {o : Option Nat} (h : w.ownsRow base e size v n xs) (hg : w.grownBy w' o) (hne : ∀ g, v.ownBlock = some g → o ≠ some g) : w'.ownsRow base e size v n xs := by
  refine ⟨h.1, ?_⟩
  rcases h.2 with h0 | ⟨g, cap, cur, h1, h2, h3, h4⟩
  · exact .inl h0
  · subst h1
    exact .inr ⟨g, cap, cur, rfl, h2, (hg.block g (Array.getElem?_eq_some_iff.1 h3).1 (fun q => hne g (by simp [Value.ownBlock]) q.symm)).trans h3, h4⟩
theorem iv_set (zs : List Int) (i : Nat) (x : Int) : (iv zs).set i (.int .i64 x) = iv (zs.set i x) := by simp [iv, List.map_set]
theorem iv_snoc (zs : List Int) (x : Int) : iv (zs ++ [x]) = iv zs ++ [.int .i64 x] := by simp [iv]
/-- The document's pool: its struct, its two rows (of each core its owner; who committed). -/
structure RPool (w : World) (r : Nat) (s q : Nat) (va vb : Value) (na nb : Nat) (Ow Dn : List Int) : Prop where
  blk : Bk w r 69 #[.int .i64 s, .int .i64 q, va, vb]
  ra : w.ownsRow (r + 1) 3 1 va na (iv Ow)
  rb : w.ownsRow (r + 1) 3 1 vb nb (iv Dn)
  ab : ∀ g, va.ownBlock = some g → vb.ownBlock ≠ some g
  la : Ow.length = na
  lb : Dn.length = nb
theorem RPool.next {w w' : World} {r s q na nb : Nat} {va vb : Value} {Ow Dn : List Int} (h : RPool w r s q va vb na nb Ow Dn) (hb : Below w.heap.size w w') : RPool w' r s q va vb na nb Ow Dn := ⟨h.blk.next hb, own_next h.ra hb, own_next h.rb hb, h.ab, h.la, h.lb⟩
theorem row_at {w : World} {base : Nat} {A : Option Addr} {n cap : Nat} {L : List Int} (h : w.ownsRow base 3 1 (.slice A n cap) n (iv L)) : n = 0 ∨ ∃ g', A = some ⟨g', 0, none⟩ ∧ g' < w.heap.size ∧ ∀ j z, j < n → L[j]? = some z → w.cell? ⟨g', j, none⟩ = some (.int .i64 z) := by
  rcases h.2 with ⟨h0, h1⟩ | ⟨g', cap', cur, h1, h2, h3, h4, h5, h6, h7⟩
  · exact .inl h1
  · cases h1
    refine .inr ⟨_, rfl, (Array.getElem?_eq_some_iff.1 h3).1, fun j z hn hj => ?_⟩
    rw [cell_of_row w g' j cur 3 (0, 0) h3]
    have e1 : cur[j]? = (iv L)[j]? := by
      rw [← h7, List.getElem?_take, if_pos (by omega)]; simp
    rw [e1]
    simp [iv, hj]
/-- The cores of an owner, up to a core. -/
def hv (Ow : List Int) (n : Int) (k : Nat) : List Nat := (List.range k).filter fun c => decide (Ow[c]? = some n)
theorem hv_snoc (Ow : List Int) (n z : Int) (k : Nat) (h : Ow[k]? = some z) : hv Ow n (k + 1) = if z = n then hv Ow n k ++ [k] else hv Ow n k := by
  unfold hv
  rw [List.range_succ, List.filter_append]
  by_cases e : z = n
  · subst e; simp [h]
  · simp [h, e]
theorem hv_len (Ow : List Int) (n : Int) (k : Nat) : (hv Ow n k).length ≤ k := by
  have := List.length_filter_le (fun c => decide (Ow[c]? = some n)) (List.range k)
  simpa [hv] using this
theorem hv_lt {Ow : List Int} {n : Int} {k : Nat} (hk : k ≤ 256) : ∀ x ∈ hv Ow n k, x < 256 := fun x hx => by
  have := List.mem_range.1 (List.mem_filter.1 hx).1
  omega
set_option maxRecDepth 100000 in
set_option maxHeartbeats 2000000 in
theorem done_any {w : World} {r s q na nb : Nat} {va vb : Value} {Ow Dn : List Int} (h : RPool w r s q va vb na nb Ow Dn) (hm : nb ≤ 1000) (n : Int) :
    Calls Try.prog 41 #[.pointer (some ⟨r, 0, none⟩), .int .i64 n] w fun e w' => e = .returned (.bool (decide (n ∈ Dn))) ∧ w = w' := by
  obtain ⟨A, cap, rfl⟩ := own_form h.rb
  have HA := Lib.hid (row_at h.rb)
  have c3 := h.blk.cell 3 _ rfl
  have HL := Lib.hid h.lb
  clear h
  go_enter Try.func41, Try.ntmps41
  go_wp2_with fail
  go_loopg [5] nb (fun g s5 wr => ∃ j : Nat, j + g = nb ∧ s5 = .int .i64 j ∧ Hid (n ∉ Dn.take j) ∧ wr = w)
  case atStart => exact ⟨0, by omega, rfl, Lib.hid (by simp), rfl⟩
  case round =>
    obtain ⟨j, hj, rfl, HN, rfl⟩ := hrel
    cases gk with
    | zero =>
      obtain rfl : j = nb := by omega
      have hlt : ¬ ((j : Int) < (j : Int)) := by omega
      have hf : decide (n ∈ Dn) = false := by
        have := HN.out
        rw [List.take_of_length_le (by have := HL.out; omega)] at this
        simpa using this
      replace hf := Lib.hid hf
      go_wp2_with fail
      go_ret
      exact ⟨by rw [hf.out]; rfl, rfl⟩
    | succ g1 =>
      have p0 : (0 : Int) ≤ (j : Int) := by omega
      have p1 : (j : Int) < (nb : Int) := by omega
      obtain ⟨gz, rfl, hgz, hat⟩ : ∃ gz, A = some ⟨gz, 0, none⟩ ∧ gz < wr.heap.size ∧ ∀ j z, j < nb → Dn[j]? = some z → wr.cell? ⟨gz, j, none⟩ = some (.int .i64 z) := by
        rcases HA.out with e | e
        · omega
        · exact e
      obtain ⟨z, ez⟩ : ∃ z, Dn[j]? = some z := ⟨_, List.getElem?_eq_getElem (by have := HL.out; omega)⟩
      have a0 := hat j z (by omega) ez
      by_cases e : z = n
      · have hf : decide (n ∈ Dn) = true := by rw [← e]; simpa using List.mem_of_getElem? ez
        have t0 : (z == n) = true := by simpa using e
        replace hf := Lib.hid hf
        clear hat ez e
        go_wp2_with fail
        go_ret
        exact ⟨by rw [hf.out]; rfl, rfl⟩
      · have t0 : (z == n) = false := by simpa using e
        have HN2 := Lib.hid (show n ∉ Dn.take (j + 1) from by
          rw [List.take_add_one, ez]
          have e2 : ¬ n = z := fun h => e h.symm
          simpa [e2] using HN.out)
        clear hat ez e
        go_wp2_with fail
        go_roundg g1
        case measure => omega
        case rel => exact ⟨j + 1, by omega, by go_num, HN2, rfl⟩
set_option maxRecDepth 100000 in
set_option maxHeartbeats 2000000 in
theorem having_any {w : World} {r s q na nb : Nat} {va vb : Value} {Ow Dn : List Int} (h : RPool w r s q va vb na nb Ow Dn) (hm : na ≤ 256) (n : Int) :
    Calls Try.prog 37 #[.pointer (some ⟨r, 0, none⟩), .int .i64 n] w fun e w' => e = .returned (.agg (vs .u64 (Mk.ofL (hv Ow n na)))) ∧ Below w.heap.size w w' := by
  obtain ⟨A, cap, rfl⟩ := own_form h.ra
  have HA := Lib.hid (row_at h.ra)
  have HB := Lib.hid h.blk
  have HL := Lib.hid h.la
  have hr := h.blk.lt
  clear h
  obtain ⟨i0, hi, hz0, hz1, hz2⟩ := info_parts info3
  go_enter Try.func37, Try.ntmps37
  go_wp2_with fail
  go_loopg [5, 6] na (fun g s5 s6 wr => ∃ j k : Nat, j + g = na ∧ k ≤ j ∧ s6 = .int .i64 j ∧ wr.ownsRow (w.heap.size + 1) 3 1 s5 k (nv (hv Ow n j)) ∧ Hid ((hv Ow n j).length = k) ∧ Row .u64 35 wr w.heap.size Mk.zero ∧ Below w.heap.size w wr)
  case atStart => exact ⟨0, 0, by omega, Nat.le_refl _, rfl, World.ownsRow_nil _ _ _ _, Lib.hid rfl, Row.new w .u64 35 Mk.zero _ rfl, (Below.refl _ _).alloc (Nat.le_refl _) _⟩
  case round =>
    obtain ⟨j, k, hj, hkj, rfl, hrow, HK, r0, hb⟩ := hrel
    obtain ⟨A2, cap2, rfl⟩ := own_form hrow
    have c2 := ((HB.out.below hb hr)).cell 2 _ rfl
    have hsz := hb.size
    have hl1 := r0.lt
    cases gk with
    | zero =>
      obtain rfl : j = na := by omega
      have hlt : ¬ ((j : Int) < (j : Int)) := by omega
      have KM := Lib.hid (make_any A2 cap2 k (hv Ow n j) wr (nats_nv HK.out hrow) HK.out (by omega))
      rw [wds_ofL (hv_lt hm)] at KM
      have hz := Lib.hid (info40 Mk.W4.zero.1)
      have hw4 := Lib.hid (Mk.ofL_W4 (hv_lt (Ow := Ow) (n := n) hm))
      obtain ⟨m, hme⟩ : ∃ m, Mk.ofL (hv Ow n j) = m := ⟨_, rfl⟩
      rw [hme] at KM hw4
      replace hme := Lib.hid hme
      have hlen := Lib.hid (zero_len hw4.out)
      have hz' := Lib.hid (info40 hw4.out.1)
      go_wp2_with fail
      refine KM.out.mono ?_
      rintro _ w5 ⟨rfl, hb5⟩
      replace r0 := r0.next hb5
      replace hb := bmore hb hb5
      clear hb5 c2 hrow KM
      go_wp2_with (refine store_law rfl 35 _ _ rfl w.heap.size .u64 Mk.zero m rfl rfl 35 r0 hlen.out hz'.out ?_; intro w7 hw7)
      exact bodyPost_ret (results_row rfl _ _ w.heap.size .u64 35 _ _ rfl (r0.hidSet hw7) Try.underlying35 rfl hz'.out) rfl ⟨by rw [hme.out], below_hidSet hb hw7 (by omega)⟩
    | succ g1 =>
      have p0 : (0 : Int) ≤ (j : Int) := by omega
      have p1 : (j : Int) < (na : Int) := by omega
      obtain ⟨gz, rfl, hgz, hat⟩ : ∃ gz, A = some ⟨gz, 0, none⟩ ∧ gz < w.heap.size ∧ ∀ j z, j < na → Ow[j]? = some z → w.cell? ⟨gz, j, none⟩ = some (.int .i64 z) := by
        rcases HA.out with e | e
        · omega
        · exact e
      obtain ⟨z, ez⟩ : ∃ z, Ow[j]? = some z := ⟨_, List.getElem?_eq_getElem (by have := HL.out; omega)⟩
      have a0 := (hb.cell (p := ⟨gz, j, none⟩) hgz).trans (hat j z (by omega) ez)
      have HS := hv_snoc Ow n z j ez
      by_cases e : z = n
      · have t0 : (z == n) = true := by simpa using e
        rw [if_pos e] at HS
        replace HS := Lib.hid HS
        clear hat ez e
        go_wp2_with (at_builtin; refine wpList_append_own _ rfl _ _ 44 rfl (w.heap.size + 1) 3 i0 (.int .i64 0) 1 8 Try.underlying44 hi hz0 hz1 hz2 rfl (by decide) _ _ _ rfl (hrow.alloc _) ⟨wr.heap.size, 0, none⟩ 1 1 [.int .i64 (j : Int)] rfl rfl (cell_one_new _ _ _) (by simp [Value.oneCell']) (by unfold maxLen; omega) (by omega) (by simp; omega) ?_; intro v' w1 hown' hgrow _; obtain ⟨g', cap', rfl⟩ := ownsRow_succ hown'; have hb1 := appended_below hrow (by omega) hgrow)
        go_roundg g1
        case measure => omega
        case rel => exact ⟨j + 1, k + 1, by omega, by omega, by go_num, by rw [HS.out, nv_snoc]; exact hown', Lib.hid (by rw [HS.out, List.length_append, HK.out]; rfl), r0.below hb1 (by omega), hb.trans (hb1.mono (by omega))⟩
      · have t0 : (z == n) = false := by simpa using e
        rw [if_neg e] at HS
        replace HS := Lib.hid HS
        clear hat ez e
        go_wp2_with fail
        go_roundg g1
        case measure => omega
        case rel => exact ⟨j + 1, k, by omega, by omega, by go_num, by rw [HS.out]; exact hrow, by rw [HS.out]; exact HK, r0, hb⟩
end Go.Proofs.Ythmlibapjhmdbaa
