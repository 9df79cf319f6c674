/- The document's Revoke. -/
import Derived.Test.YtiokpflciagdoaaT3
namespace Go.Proofs.Ytiokpflciagdoaa
open Go.RowKit Go.Maps

theorem info63 : (Try.prog.info? 63).map (fun i => (i.zero, i.size, i.bytes)) = some (some (.agg #[.int .i64 0, .int .i64 0]), 2, 16) := by kernel_rfl
/-- Those taken back, one of them perhaps further. -/
def updT (T : List (Jb × Int)) (j : Jb) (e : Int) : List (Jb × Int) := T.map fun p => if p.1 = j then (j, max p.2 e) else p
theorem updT_len (T : List (Jb × Int)) (j : Jb) (e : Int) : (updT T j e).length = T.length := by simp [updT]
theorem tRow_snoc (T : List (Jb × Int)) (p : Jb × Int) : tRow (T ++ [p]) = tRow T ++ [.int .i64 p.1.n, .int .i64 p.2] := by simp [tRow]
theorem updT_in {T : List (Jb × Int)} {j : Jb} {e : Int} {k : Nat} {y : Jb × Int} (hy : T[k]? = some y) (h : y.1 = j) : updT (T.take (k + 1)) j e = updT (T.take k) j e ++ [(j, max y.2 e)] := by rw [take_at hy]; simp [updT, h]
theorem updT_out {T : List (Jb × Int)} {j : Jb} {e : Int} {k : Nat} {y : Jb × Int} (hy : T[k]? = some y) (h : y.1 ≠ j) : updT (T.take (k + 1)) j e = updT (T.take k) j e ++ [y] := by rw [take_at hy]; simp [updT, h]
theorem hasL_in {T : List (Jb × Int)} {j : Jb} {k : Nat} {y : Jb × Int} (hy : T[k]? = some y) (h : y.1 = j) : hasL (T.take (k + 1)) j = true := by rw [take_at hy]; simp [hasL, h]
theorem hasL_out {T : List (Jb × Int)} {j : Jb} {k : Nat} {y : Jb × Int} (hy : T[k]? = some y) (h : y.1 ≠ j) : hasL (T.take (k + 1)) j = hasL (T.take k) j := by rw [take_at hy]; simp [hasL, h]
theorem updT_none {T : List (Jb × Int)} {j : Jb} {e : Int} (h : hasL T j = false) : updT T j e = T := by
  unfold updT
  conv => rhs; rw [← List.map_id T]
  refine List.map_congr_left (fun p hp => ?_)
  have := List.any_eq_false.1 h p hp
  rw [if_neg (by simpa using this)]
  rfl
theorem updT_some {T : List (Jb × Int)} (hT : Apart T) {j : Jb} {e g : Int} (h : getL T j = some g) : updT T j e = setL T j (max g e) := by
  unfold updT setL
  refine List.map_congr_left (fun p hp => ?_)
  by_cases hj : p.1 = j
  · rw [if_pos hj, if_pos hj]
    have h2 := getL_of_mem hT (a := p.1) (u := p.2) hp
    rw [hj, h] at h2
    cases h2
    rfl
  · rw [if_neg hj, if_neg hj]
theorem cells_new2 (w : World) (o : Obj) (cs : Array Value) (t : TypeId) (j : Nat) (u : Value) (h : cs.toList[j]? = some u) : ((w.alloc o).alloc (.cells cs t)).cell? ((⟨w.heap.size + 1, 0, none⟩ : Addr).add j) = some u := by
  have := cells_new (w.alloc o) cs t j u h
  rw [size_alloc] at this
  exact this
/-- What the loop knows. -/
structure Rp (w V : World) (B : Nat) (v : Value) (q : Nat) (most : Int) (sl sb : Value) (CL : List Cr) (T U : List (Jb × Int)) : Prop where
  ref : RefAt V q most sl sb CL T
  low : Below w.heap.size w V
  row : V.ownsRow B 63 2 v U.length (tRow U)
theorem Rp.step {w V V' : World} {v v' : Value} {q : Nat} {most : Int} {sl sb : Value} {CL : List Cr} {T U U' : List (Jb × Int)} (h : Rp w V w.heap.size v q most sl sb CL T U) (hq : q < w.heap.size) (hl : ∀ g, sl.ownBlock = some g → g < w.heap.size) (ht : ∀ g, sb.ownBlock = some g → g < w.heap.size)
    {o1 o2 : Obj} (hg : ((V.alloc o1).alloc o2).grownBy V' v.ownBlock) (hr : V'.ownsRow w.heap.size 63 2 v' U'.length (tRow U')) : Rp w V' w.heap.size v' q most sl sb CL T U' := by
  have hb := appended_below (h.row.alloc o1) (by have := h.low.size; simp; omega) hg
  have hb2 := ((Below.refl w.heap.size V).alloc h.low.size o1).trans hb
  exact ⟨h.ref.below hb2 hq hl ht, h.low.trans hb2, hr⟩
theorem Rp.step1 {w V V' : World} {v v' : Value} {q : Nat} {most : Int} {sl sb : Value} {CL : List Cr} {T U U' : List (Jb × Int)} (h : Rp w V w.heap.size v q most sl sb CL T U) (hq : q < w.heap.size) (hl : ∀ g, sl.ownBlock = some g → g < w.heap.size) (ht : ∀ g, sb.ownBlock = some g → g < w.heap.size)
    {o2 : Obj} (hg : (V.alloc o2).grownBy V' v.ownBlock) (hr : V'.ownsRow w.heap.size 63 2 v' U'.length (tRow U')) : Rp w V' w.heap.size v' q most sl sb CL T U' := by
  have hb := appended_below h.row h.low.size hg
  exact ⟨h.ref.below hb hq hl ht, h.low.trans hb, hr⟩
/-- The document's cache, its second slice another. -/
theorem RefAt.setT {V : World} {q : Nat} {most : Int} {sl sb sb' : Value} {CL : List Cr} {T T' : List (Jb × Int)} {B : Nat} (h : RefAt V q most sl sb CL T) (hr : V.ownsRow B 63 2 sb' T'.length (tRow T')) (hB : q < B) : RefAt (V.setCell ⟨q, 2, none⟩ sb') q most sl sb' CL T' := by
  have r1 := ownsRow_setCell_below h.rl (a := ⟨q, 2, none⟩) (by simp) sb'
  have r2 := (ownsRow_setCell_below hr (a := ⟨q, 2, none⟩) (by simpa using hB) sb').mono (show q + 1 ≤ B from hB)
  refine ⟨?_, r1, r2, apart_rows r1 r2⟩
  have := heap_setCell_same V q 2 _ 39 sb' h.blk
  simpa [Bk] using this
set_option maxRecDepth 100000 in
set_option maxHeartbeats 4000000 in
theorem rrev_arg (q : Nat) (j e : Int) (w : World) (h : j < 0 ∨ 1099511627776 < j ∨ e < 0 ∨ 8 < e) :
    Calls Try.prog 22 #[.pointer (some ⟨q, 0, none⟩), .int .i64 j, .int .i64 e] w fun x w' => x = .returned (.int .i64 1) ∧ w = w' := by
  by_cases h1 : j < 0
  · go_enter Try.func22, Try.ntmps22
    go_wp2_with fail
    go_ret
    exact ⟨rfl, rfl⟩
  · by_cases h2 : 1099511627776 < j
    · go_enter Try.func22, Try.ntmps22
      go_wp2_with fail
      go_ret
      exact ⟨rfl, rfl⟩
    · by_cases h3 : e < 0
      · go_enter Try.func22, Try.ntmps22
        go_wp2_with fail
        go_ret
        exact ⟨rfl, rfl⟩
      · have h4 : 8 < e := by omega
        clear h
        go_enter Try.func22, Try.ntmps22
        go_wp2_with fail
        go_ret
        exact ⟨rfl, rfl⟩
set_option maxRecDepth 100000 in
set_option maxHeartbeats 4000000 in
theorem rrev_more {w : World} {q : Nat} {most : Int} {sl sb : Value} {CL : List Cr} {T : List (Jb × Int)} (h : RefAt w q most sl sb CL T) (j : Jb) (e : Int) (a1 : 0 ≤ j.n) (a2 : j.n ≤ 1099511627776) (a3 : 0 ≤ e) (a4 : e ≤ 8) (hT : T.length ≤ 1000) (hh : hasL T j = true) :
    Calls Try.prog 22 #[.pointer (some ⟨q, 0, none⟩), .int .i64 j.n, .int .i64 e] w fun x w' => ∃ sb', x = .returned (.int .i64 0) ∧ RefAt w' q most sl sb' CL (updT T j e) ∧ w.grownBy w' (some q) := by
  obtain ⟨i0, hi, hz0, hz1, hz2⟩ := info_parts info63
  have hqw := h.blk.lt
  have HSB := Lib.hid (fun g (hg : sb.ownBlock = some g) => (h.rb.lt g hg).2)
  have HSL := Lib.hid (fun g (hg : sl.ownBlock = some g) => (h.rl.lt g hg).2)
  obtain ⟨A0, cp0, hsb⟩ := own_form h.rb
  go_enter Try.func22, Try.ntmps22
  go_wp2_with fail
  go_loopw [7, 8, 9] (fun o fd i wr => ∃ k : Nat, k ≤ T.length ∧ i = .int .i64 k ∧ fd = .bool (hasL (T.take k) j) ∧ Rp w wr w.heap.size o q most sl sb CL T (updT (T.take k) j e)) (fun _ _ i _ => T.length - (intOf i).toNat)
  case atStart => exact ⟨0, Nat.zero_le _, rfl, rfl, ⟨h, Below.refl _ _, World.ownsRow_nil _ _ _ _⟩⟩
  case round =>
    obtain ⟨k, hk, rfl, rfl, rp⟩ := hrel
    have q2 : wr.cell? ⟨q, 2, none⟩ = some (.slice A0 T.length cp0) := by rw [← hsb]; exact rp.ref.blk.cell 2 _ rfl
    have hsz := rp.low.size
    by_cases hlt : k < T.length
    · obtain ⟨y, hy⟩ : ∃ y, T[k]? = some y := ⟨_, List.getElem?_eq_getElem hlt⟩
      obtain ⟨g, cp, hs, hgl, d0, d1⟩ := rp.ref.atT hy
      rw [hsb] at hs
      cases hs
      have HY := Lib.hid hy
      have HS := Lib.hid hsb
      clear hy hsb
      have hrow := rp.row
      obtain ⟨A, cap, ho⟩ := own_form hrow
      subst ho
      have hlen : (updT (T.take k) j e).length = k := by rw [updT_len, List.length_take]; omega
      have HLEN := Lib.hid hlen
      have rp2 : Rp w wr w.heap.size (.slice A k cap) q most sl sb CL T (updT (T.take k) j e) := by
        have := rp
        rw [hlen] at this
        exact this
      rw [hlen] at hrow
      rw [HLEN.out]
      clear hlen rp
      by_cases hj : y.1 = j
      · have HJ := Lib.hid hj
        have tj : (y.1.n == j.n) = true := by rw [hj]; simp
        clear hj
        by_cases hm : y.2 < e
        · have HV := Lib.hid (show tRow (updT (T.take k) j e ++ [(j, max y.2 e)]) = tRow (updT (T.take k) j e) ++ [.int .i64 y.1.n, .int .i64 e] from by rw [tRow_snoc, ← HJ.out]; show _ ++ [Value.int .i64 y.1.n, Value.int .i64 (max y.2 e)] = _; rw [show max y.2 e = e by omega])
          go_wp2_with (at_builtin; refine wpList_append_own _ rfl _ _ 37 rfl w.heap.size 63 i0 _ 2 16 Try.underlying37 hi hz0 hz1 hz2 rfl (by decide) _ _ _ rfl ((hrow.alloc _).alloc _) ⟨wr.heap.size + 1, 0, none⟩ 1 1 [.int .i64 y.1.n, .int .i64 e] rfl rfl (cells_new2 wr _ #[.int .i64 y.1.n, .int .i64 e] 63) (by simp [Value.oneCell']) (by unfold maxLen; omega) (by omega) (by simp; omega) ?_; intro v' w3 hown' hgrow _)
          go_roundw
          case rel => exact ⟨k + 1, by omega, by go_num, by rw [hasL_in HY.out HJ.out], rp2.step hqw HSL.out HSB.out hgrow (by rw [updT_in HY.out HJ.out, HV.out, List.length_append, HLEN.out]; exact hown')⟩
          case measure => simp [intOf]; omega
        · have HV := Lib.hid (show tRow (updT (T.take k) j e ++ [(j, max y.2 e)]) = tRow (updT (T.take k) j e) ++ [.int .i64 y.1.n, .int .i64 y.2] from by rw [tRow_snoc, ← HJ.out]; show _ ++ [Value.int .i64 y.1.n, Value.int .i64 (max y.2 e)] = _; rw [show max y.2 e = y.2 by omega])
          go_wp2_with (at_builtin; refine wpList_append_own _ rfl _ _ 37 rfl w.heap.size 63 i0 _ 2 16 Try.underlying37 hi hz0 hz1 hz2 rfl (by decide) _ _ _ rfl ((hrow.alloc _).alloc _) ⟨wr.heap.size + 1, 0, none⟩ 1 1 [.int .i64 y.1.n, .int .i64 y.2] rfl rfl (cells_new2 wr _ #[.int .i64 y.1.n, .int .i64 y.2] 63) (by simp [Value.oneCell']) (by unfold maxLen; omega) (by omega) (by simp; omega) ?_; intro v' w3 hown' hgrow _)
          go_roundw
          case rel => exact ⟨k + 1, by omega, by go_num, by rw [hasL_in HY.out HJ.out], rp2.step hqw HSL.out HSB.out hgrow (by rw [updT_in HY.out HJ.out, HV.out, List.length_append, HLEN.out]; exact hown')⟩
          case measure => simp [intOf]; omega
      · have HJ := Lib.hid hj
        have tj : (y.1.n == j.n) = false := by
          rw [Bool.eq_false_iff]
          intro hh
          exact hj (Jb.ext' (by simpa using hh))
        clear hj
        have HV := Lib.hid (show tRow (updT (T.take k) j e ++ [y]) = tRow (updT (T.take k) j e) ++ [.int .i64 y.1.n, .int .i64 y.2] from tRow_snoc _ _)
        go_wp2_with (at_builtin; refine wpList_append_own _ rfl _ _ 37 rfl w.heap.size 63 i0 _ 2 16 Try.underlying37 hi hz0 hz1 hz2 rfl (by decide) _ _ _ rfl ((hrow.alloc _).alloc _) ⟨wr.heap.size + 1, 0, none⟩ 1 1 [.int .i64 y.1.n, .int .i64 y.2] rfl rfl (cells_new2 wr _ #[.int .i64 y.1.n, .int .i64 y.2] 63) (by simp [Value.oneCell']) (by unfold maxLen; omega) (by omega) (by simp; omega) ?_; intro v' w3 hown' hgrow _)
        go_roundw
        case rel => exact ⟨k + 1, by omega, by go_num, by rw [hasL_out HY.out HJ.out], rp2.step hqw HSL.out HSB.out hgrow (by rw [updT_out HY.out HJ.out, HV.out, List.length_append, HLEN.out]; exact hown')⟩
        case measure => simp [intOf]; omega
    · obtain rfl : k = T.length := by omega
      rw [List.take_length] at rp ⊢
      have hrow := rp.row
      obtain ⟨A, cap, ho⟩ := own_form hrow
      subst ho
      have hlen : (updT T j e).length = T.length := updT_len T j e
      have rp2 : Rp w wr w.heap.size (.slice A T.length cap) q most sl sb CL T (updT T j e) := by
        have := rp
        rw [hlen] at this
        exact this
      rw [hlen]
      rw [hlen] at hrow
      clear rp
      have HLEN := Lib.hid hlen
      clear hlen
      rw [hh]
      have f2 := rp2.ref.blk.frozen 2
      have st2 := rp2.ref.setT rp2.row hqw
      have hg2 : w.grownBy (wr.setCell ⟨q, 2, none⟩ (.slice A T.length cap)) (some q) := ((only_of_below rp2.low).but _).trans grown_set
      clear hh
      go_wp2_with fail
      go_ret
      exact ⟨_, rfl, st2, hg2⟩
set_option maxRecDepth 100000 in
set_option maxHeartbeats 4000000 in
theorem rrev_full {w : World} {q : Nat} {most : Int} {sl sb : Value} {CL : List Cr} {T : List (Jb × Int)} (h : RefAt w q most sl sb CL T) (j : Jb) (e : Int) (a1 : 0 ≤ j.n) (a2 : j.n ≤ 1099511627776) (a3 : 0 ≤ e) (a4 : e ≤ 8) (_hT : T.length ≤ 1000) (hh : hasL T j = false) (hf : T.length = 64) :
    Calls Try.prog 22 #[.pointer (some ⟨q, 0, none⟩), .int .i64 j.n, .int .i64 e] w fun x w' => x = .returned (.int .i64 6) ∧ Below w.heap.size w w' := by
  obtain ⟨i0, hi, hz0, hz1, hz2⟩ := info_parts info63
  have hqw := h.blk.lt
  have HSB := Lib.hid (fun g (hg : sb.ownBlock = some g) => (h.rb.lt g hg).2)
  have HSL := Lib.hid (fun g (hg : sl.ownBlock = some g) => (h.rl.lt g hg).2)
  obtain ⟨A0, cp0, hsb⟩ := own_form h.rb
  go_enter Try.func22, Try.ntmps22
  go_wp2_with fail
  go_loopw [7, 8, 9] (fun o fd i wr => ∃ k : Nat, k ≤ T.length ∧ i = .int .i64 k ∧ fd = .bool (hasL (T.take k) j) ∧ Rp w wr w.heap.size o q most sl sb CL T (updT (T.take k) j e)) (fun _ _ i _ => T.length - (intOf i).toNat)
  case atStart => exact ⟨0, Nat.zero_le _, rfl, rfl, ⟨h, Below.refl _ _, World.ownsRow_nil _ _ _ _⟩⟩
  case round =>
    obtain ⟨k, hk, rfl, rfl, rp⟩ := hrel
    have q2 : wr.cell? ⟨q, 2, none⟩ = some (.slice A0 T.length cp0) := by rw [← hsb]; exact rp.ref.blk.cell 2 _ rfl
    have hsz := rp.low.size
    by_cases hlt : k < T.length
    · obtain ⟨y, hy⟩ : ∃ y, T[k]? = some y := ⟨_, List.getElem?_eq_getElem hlt⟩
      obtain ⟨g, cp, hs, hgl, d0, d1⟩ := rp.ref.atT hy
      rw [hsb] at hs
      cases hs
      have HY := Lib.hid hy
      have HS := Lib.hid hsb
      clear hy hsb
      have hrow := rp.row
      obtain ⟨A, cap, ho⟩ := own_form hrow
      subst ho
      have hlen : (updT (T.take k) j e).length = k := by rw [updT_len, List.length_take]; omega
      have HLEN := Lib.hid hlen
      have rp2 : Rp w wr w.heap.size (.slice A k cap) q most sl sb CL T (updT (T.take k) j e) := by
        have := rp
        rw [hlen] at this
        exact this
      rw [hlen] at hrow
      rw [HLEN.out]
      clear hlen rp
      by_cases hj : y.1 = j
      · have HJ := Lib.hid hj
        have tj : (y.1.n == j.n) = true := by rw [hj]; simp
        clear hj
        by_cases hm : y.2 < e
        · have HV := Lib.hid (show tRow (updT (T.take k) j e ++ [(j, max y.2 e)]) = tRow (updT (T.take k) j e) ++ [.int .i64 y.1.n, .int .i64 e] from by rw [tRow_snoc, ← HJ.out]; show _ ++ [Value.int .i64 y.1.n, Value.int .i64 (max y.2 e)] = _; rw [show max y.2 e = e by omega])
          go_wp2_with (at_builtin; refine wpList_append_own _ rfl _ _ 37 rfl w.heap.size 63 i0 _ 2 16 Try.underlying37 hi hz0 hz1 hz2 rfl (by decide) _ _ _ rfl ((hrow.alloc _).alloc _) ⟨wr.heap.size + 1, 0, none⟩ 1 1 [.int .i64 y.1.n, .int .i64 e] rfl rfl (cells_new2 wr _ #[.int .i64 y.1.n, .int .i64 e] 63) (by simp [Value.oneCell']) (by unfold maxLen; omega) (by omega) (by simp; omega) ?_; intro v' w3 hown' hgrow _)
          go_roundw
          case rel => exact ⟨k + 1, by omega, by go_num, by rw [hasL_in HY.out HJ.out], rp2.step hqw HSL.out HSB.out hgrow (by rw [updT_in HY.out HJ.out, HV.out, List.length_append, HLEN.out]; exact hown')⟩
          case measure => simp [intOf]; omega
        · have HV := Lib.hid (show tRow (updT (T.take k) j e ++ [(j, max y.2 e)]) = tRow (updT (T.take k) j e) ++ [.int .i64 y.1.n, .int .i64 y.2] from by rw [tRow_snoc, ← HJ.out]; show _ ++ [Value.int .i64 y.1.n, Value.int .i64 (max y.2 e)] = _; rw [show max y.2 e = y.2 by omega])
          go_wp2_with (at_builtin; refine wpList_append_own _ rfl _ _ 37 rfl w.heap.size 63 i0 _ 2 16 Try.underlying37 hi hz0 hz1 hz2 rfl (by decide) _ _ _ rfl ((hrow.alloc _).alloc _) ⟨wr.heap.size + 1, 0, none⟩ 1 1 [.int .i64 y.1.n, .int .i64 y.2] rfl rfl (cells_new2 wr _ #[.int .i64 y.1.n, .int .i64 y.2] 63) (by simp [Value.oneCell']) (by unfold maxLen; omega) (by omega) (by simp; omega) ?_; intro v' w3 hown' hgrow _)
          go_roundw
          case rel => exact ⟨k + 1, by omega, by go_num, by rw [hasL_in HY.out HJ.out], rp2.step hqw HSL.out HSB.out hgrow (by rw [updT_in HY.out HJ.out, HV.out, List.length_append, HLEN.out]; exact hown')⟩
          case measure => simp [intOf]; omega
      · have HJ := Lib.hid hj
        have tj : (y.1.n == j.n) = false := by
          rw [Bool.eq_false_iff]
          intro hh
          exact hj (Jb.ext' (by simpa using hh))
        clear hj
        have HV := Lib.hid (show tRow (updT (T.take k) j e ++ [y]) = tRow (updT (T.take k) j e) ++ [.int .i64 y.1.n, .int .i64 y.2] from tRow_snoc _ _)
        go_wp2_with (at_builtin; refine wpList_append_own _ rfl _ _ 37 rfl w.heap.size 63 i0 _ 2 16 Try.underlying37 hi hz0 hz1 hz2 rfl (by decide) _ _ _ rfl ((hrow.alloc _).alloc _) ⟨wr.heap.size + 1, 0, none⟩ 1 1 [.int .i64 y.1.n, .int .i64 y.2] rfl rfl (cells_new2 wr _ #[.int .i64 y.1.n, .int .i64 y.2] 63) (by simp [Value.oneCell']) (by unfold maxLen; omega) (by omega) (by simp; omega) ?_; intro v' w3 hown' hgrow _)
        go_roundw
        case rel => exact ⟨k + 1, by omega, by go_num, by rw [hasL_out HY.out HJ.out], rp2.step hqw HSL.out HSB.out hgrow (by rw [updT_out HY.out HJ.out, HV.out, List.length_append, HLEN.out]; exact hown')⟩
        case measure => simp [intOf]; omega
    · obtain rfl : k = T.length := by omega
      rw [List.take_length] at rp ⊢
      have hrow := rp.row
      obtain ⟨A, cap, ho⟩ := own_form hrow
      subst ho
      have hlen : (updT T j e).length = T.length := updT_len T j e
      have rp2 : Rp w wr w.heap.size (.slice A T.length cap) q most sl sb CL T (updT T j e) := by
        have := rp
        rw [hlen] at this
        exact this
      rw [hlen]
      rw [hlen] at hrow
      clear rp
      have HLEN := Lib.hid hlen
      clear hlen
      rw [hh]
      have tl : ((T.length : Int) == 64) = true := by rw [hf]; rfl
      clear hh hf
      go_wp2_with fail
      go_ret
      exact ⟨rfl, rp2.low⟩
set_option maxRecDepth 100000 in
set_option maxHeartbeats 4000000 in
theorem rrev_new {w : World} {q : Nat} {most : Int} {sl sb : Value} {CL : List Cr} {T : List (Jb × Int)} (h : RefAt w q most sl sb CL T) (j : Jb) (e : Int) (a1 : 0 ≤ j.n) (a2 : j.n ≤ 1099511627776) (a3 : 0 ≤ e) (a4 : e ≤ 8) (hT : T.length ≤ 1000) (hh : hasL T j = false) (hf : T.length ≠ 64) :
    Calls Try.prog 22 #[.pointer (some ⟨q, 0, none⟩), .int .i64 j.n, .int .i64 e] w fun x w' => ∃ sb', x = .returned (.int .i64 0) ∧ RefAt w' q most sl sb' CL (T ++ [(j, e)]) ∧ w.grownBy w' (some q) := by
  obtain ⟨i0, hi, hz0, hz1, hz2⟩ := info_parts info63
  have hqw := h.blk.lt
  have HSB := Lib.hid (fun g (hg : sb.ownBlock = some g) => (h.rb.lt g hg).2)
  have HSL := Lib.hid (fun g (hg : sl.ownBlock = some g) => (h.rl.lt g hg).2)
  obtain ⟨A0, cp0, hsb⟩ := own_form h.rb
  go_enter Try.func22, Try.ntmps22
  go_wp2_with fail
  go_loopw [7, 8, 9] (fun o fd i wr => ∃ k : Nat, k ≤ T.length ∧ i = .int .i64 k ∧ fd = .bool (hasL (T.take k) j) ∧ Rp w wr w.heap.size o q most sl sb CL T (updT (T.take k) j e)) (fun _ _ i _ => T.length - (intOf i).toNat)
  case atStart => exact ⟨0, Nat.zero_le _, rfl, rfl, ⟨h, Below.refl _ _, World.ownsRow_nil _ _ _ _⟩⟩
  case round =>
    obtain ⟨k, hk, rfl, rfl, rp⟩ := hrel
    have q2 : wr.cell? ⟨q, 2, none⟩ = some (.slice A0 T.length cp0) := by rw [← hsb]; exact rp.ref.blk.cell 2 _ rfl
    have hsz := rp.low.size
    by_cases hlt : k < T.length
    · obtain ⟨y, hy⟩ : ∃ y, T[k]? = some y := ⟨_, List.getElem?_eq_getElem hlt⟩
      obtain ⟨g, cp, hs, hgl, d0, d1⟩ := rp.ref.atT hy
      rw [hsb] at hs
      cases hs
      have HY := Lib.hid hy
      have HS := Lib.hid hsb
      clear hy hsb
      have hrow := rp.row
      obtain ⟨A, cap, ho⟩ := own_form hrow
      subst ho
      have hlen : (updT (T.take k) j e).length = k := by rw [updT_len, List.length_take]; omega
      have HLEN := Lib.hid hlen
      have rp2 : Rp w wr w.heap.size (.slice A k cap) q most sl sb CL T (updT (T.take k) j e) := by
        have := rp
        rw [hlen] at this
        exact this
      rw [hlen] at hrow
      rw [HLEN.out]
      clear hlen rp
      by_cases hj : y.1 = j
      · have HJ := Lib.hid hj
        have tj : (y.1.n == j.n) = true := by rw [hj]; simp
        clear hj
        by_cases hm : y.2 < e
        · have HV := Lib.hid (show tRow (updT (T.take k) j e ++ [(j, max y.2 e)]) = tRow (updT (T.take k) j e) ++ [.int .i64 y.1.n, .int .i64 e] from by rw [tRow_snoc, ← HJ.out]; show _ ++ [Value.int .i64 y.1.n, Value.int .i64 (max y.2 e)] = _; rw [show max y.2 e = e by omega])
          go_wp2_with (at_builtin; refine wpList_append_own _ rfl _ _ 37 rfl w.heap.size 63 i0 _ 2 16 Try.underlying37 hi hz0 hz1 hz2 rfl (by decide) _ _ _ rfl ((hrow.alloc _).alloc _) ⟨wr.heap.size + 1, 0, none⟩ 1 1 [.int .i64 y.1.n, .int .i64 e] rfl rfl (cells_new2 wr _ #[.int .i64 y.1.n, .int .i64 e] 63) (by simp [Value.oneCell']) (by unfold maxLen; omega) (by omega) (by simp; omega) ?_; intro v' w3 hown' hgrow _)
          go_roundw
          case rel => exact ⟨k + 1, by omega, by go_num, by rw [hasL_in HY.out HJ.out], rp2.step hqw HSL.out HSB.out hgrow (by rw [updT_in HY.out HJ.out, HV.out, List.length_append, HLEN.out]; exact hown')⟩
          case measure => simp [intOf]; omega
        · have HV := Lib.hid (show tRow (updT (T.take k) j e ++ [(j, max y.2 e)]) = tRow (updT (T.take k) j e) ++ [.int .i64 y.1.n, .int .i64 y.2] from by rw [tRow_snoc, ← HJ.out]; show _ ++ [Value.int .i64 y.1.n, Value.int .i64 (max y.2 e)] = _; rw [show max y.2 e = y.2 by omega])
          go_wp2_with (at_builtin; refine wpList_append_own _ rfl _ _ 37 rfl w.heap.size 63 i0 _ 2 16 Try.underlying37 hi hz0 hz1 hz2 rfl (by decide) _ _ _ rfl ((hrow.alloc _).alloc _) ⟨wr.heap.size + 1, 0, none⟩ 1 1 [.int .i64 y.1.n, .int .i64 y.2] rfl rfl (cells_new2 wr _ #[.int .i64 y.1.n, .int .i64 y.2] 63) (by simp [Value.oneCell']) (by unfold maxLen; omega) (by omega) (by simp; omega) ?_; intro v' w3 hown' hgrow _)
          go_roundw
          case rel => exact ⟨k + 1, by omega, by go_num, by rw [hasL_in HY.out HJ.out], rp2.step hqw HSL.out HSB.out hgrow (by rw [updT_in HY.out HJ.out, HV.out, List.length_append, HLEN.out]; exact hown')⟩
          case measure => simp [intOf]; omega
      · have HJ := Lib.hid hj
        have tj : (y.1.n == j.n) = false := by
          rw [Bool.eq_false_iff]
          intro hh
          exact hj (Jb.ext' (by simpa using hh))
        clear hj
        have HV := Lib.hid (show tRow (updT (T.take k) j e ++ [y]) = tRow (updT (T.take k) j e) ++ [.int .i64 y.1.n, .int .i64 y.2] from tRow_snoc _ _)
        go_wp2_with (at_builtin; refine wpList_append_own _ rfl _ _ 37 rfl w.heap.size 63 i0 _ 2 16 Try.underlying37 hi hz0 hz1 hz2 rfl (by decide) _ _ _ rfl ((hrow.alloc _).alloc _) ⟨wr.heap.size + 1, 0, none⟩ 1 1 [.int .i64 y.1.n, .int .i64 y.2] rfl rfl (cells_new2 wr _ #[.int .i64 y.1.n, .int .i64 y.2] 63) (by simp [Value.oneCell']) (by unfold maxLen; omega) (by omega) (by simp; omega) ?_; intro v' w3 hown' hgrow _)
        go_roundw
        case rel => exact ⟨k + 1, by omega, by go_num, by rw [hasL_out HY.out HJ.out], rp2.step hqw HSL.out HSB.out hgrow (by rw [updT_out HY.out HJ.out, HV.out, List.length_append, HLEN.out]; exact hown')⟩
        case measure => simp [intOf]; omega
    · obtain rfl : k = T.length := by omega
      rw [List.take_length] at rp ⊢
      have hrow := rp.row
      obtain ⟨A, cap, ho⟩ := own_form hrow
      subst ho
      have hlen : (updT T j e).length = T.length := updT_len T j e
      have rp2 : Rp w wr w.heap.size (.slice A T.length cap) q most sl sb CL T (updT T j e) := by
        have := rp
        rw [hlen] at this
        exact this
      rw [hlen]
      rw [hlen] at hrow
      clear rp
      have HLEN := Lib.hid hlen
      clear hlen
      rw [hh]
      have HU := Lib.hid (updT_none (e := e) hh)
      rw [HU.out] at rp2 hrow
      have tl : ((T.length : Int) == 64) = false := by simp; omega
      clear hh hf
      go_wp2_with (at_builtin; refine wpList_append_own _ rfl _ _ 37 rfl w.heap.size 63 i0 _ 2 16 Try.underlying37 hi hz0 hz1 hz2 rfl (by decide) _ _ _ rfl (hrow.alloc _) ⟨wr.heap.size, 0, none⟩ 1 1 [.int .i64 j.n, .int .i64 e] rfl rfl (cells_new wr #[.int .i64 j.n, .int .i64 e] 63) (by simp [Value.oneCell']) (by unfold maxLen; omega) (by omega) (by simp; omega) ?_; intro v' w3 hown' hgrow _; have rp3 := rp2.step1 hqw HSL.out HSB.out (U' := T ++ [(j, e)]) hgrow (by rw [tRow_snoc, List.length_append]; exact hown'); obtain ⟨A', cap', ho'⟩ := own_form hown'; subst ho'; have f2 := rp3.ref.blk.frozen 2; have c2 := rp3.ref.blk.cell 2 _ rfl; have st2 := rp3.ref.setT rp3.row hqw; have hg2 : w.grownBy (w3.setCell ⟨q, 2, none⟩ (.slice A' (T.length + 1) cap')) (some q) := ((only_of_below rp3.low).but _).trans grown_set)
      go_ret
      exact ⟨_, rfl, st2, hg2⟩
end Go.Proofs.Ytiokpflciagdoaa
