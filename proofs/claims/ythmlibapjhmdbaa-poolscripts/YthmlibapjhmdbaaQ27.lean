/- The document's pool: give. -/
import Derived.Test.YthmlibapjhmdbaaQ26
namespace Go.Proofs.Ythmlibapjhmdbaa
open Go.RowKit Go.Shelf Go.Maps

/-- Who has what, once the cores of a mask, up to a core, are somebody's. -/
def gv (m : List Nat) (n : Int) (Ow : List Int) : Nat → List Int
  | 0 => Ow
  | k + 1 => if Mk.hasB m k = true then (gv m n Ow k).set k n else gv m n Ow k
theorem gv_len (m : List Nat) (n : Int) (Ow : List Int) : ∀ k, (gv m n Ow k).length = Ow.length
  | 0 => rfl
  | k + 1 => by
    unfold gv
    split
    · rw [List.length_set, gv_len m n Ow k]
    · exact gv_len m n Ow k
theorem grown_below {w w1 w2 : World} {o : Option Nat} (h : w.grownBy w1 o) (hb : Below w1.heap.size w1 w2) : w.grownBy w2 o := h.trans ((only_of_below hb).but _)
theorem RPool.grown {w w' : World} {r s q na nb : Nat} {va vb : Value} {Ow Dn : List Int} (h : RPool w r s q va vb na nb Ow Dn) (hb : Below w.heap.size w w') : RPool w' r s q va vb na nb Ow Dn := h.next hb
set_option maxRecDepth 100000 in
set_option maxHeartbeats 4000000 in
theorem give_any {w : World} {r s q na nb g cap : Nat} {vb : Value} {Ow Dn : List Int} (h : RPool w r s q (.slice (some ⟨g, 0, none⟩) na cap) vb na nb Ow Dn) (hm : na ≤ 256) (n : Int) (m0 m1 m2 m3 : Nat) (hw : Mk.W4 [m0, m1, m2, m3]) :
    Calls Try.prog 52 #[.pointer (some ⟨r, 0, none⟩), .int .i64 n, .agg #[.int .u64 m0, .int .u64 m1, .int .u64 m2, .int .u64 m3]] w fun x w' => (∃ u, x = .returned u) ∧ RPool w' r s q (.slice (some ⟨g, 0, none⟩) na cap) vb na nb (gv [m0, m1, m2, m3] n Ow na) Dn ∧ w.grownBy w' (some g) := by
  have HW := Lib.hid hw
  clear hw
  have hba := (Below.refl _ w).alloc (Nat.le_refl _) (.cells #[.int .u64 m0, .int .u64 m1, .int .u64 m2, .int .u64 m3] 35)
  have H0 := Lib.hid (h.next hba)
  have hG0 := (only_of_below hba).but (some g)
  have hgl := (own_blk h.ra rfl).2
  have k0 := Bk.new w 35 #[.int .u64 m0, .int .u64 m1, .int .u64 m2, .int .u64 m3]
  clear hba h
  go_enter Try.func52, Try.ntmps52
  go_wp2_with fail
  go_loopg [6] na (fun c s6 wr => ∃ j : Nat, j + c = na ∧ s6 = .int .i64 j ∧ Hid (RPool wr r s q (.slice (some ⟨g, 0, none⟩) na cap) vb na nb (gv [m0, m1, m2, m3] n Ow j) Dn) ∧ Bk wr w.heap.size 35 #[.int .u64 m0, .int .u64 m1, .int .u64 m2, .int .u64 m3] ∧ w.grownBy wr (some g))
  case atStart => exact ⟨0, by omega, rfl, H0, k0, hG0⟩
  case round =>
    clear H0 hG0 k0
    obtain ⟨j, hj, rfl, HR, k0, hG⟩ := hrel
    have c2 := HR.out.blk.cell 2 _ rfl
    cases gk with
    | zero =>
      obtain rfl : j = na := by omega
      have hlt : ¬ ((j : Int) < (j : Int)) := by omega
      go_wp2_with fail
      go_end0
      exact ⟨⟨_, rfl⟩, HR.out, hG⟩
    | succ g1 =>
      have p0 : (0 : Int) ≤ (j : Int) := by omega
      have p1 : (j : Int) < (na : Int) := by omega
      have b0 := k0.cell 0 _ rfl
      have b1 := k0.cell 1 _ rfl
      have b2 := k0.cell 2 _ rfl
      have b3 := k0.cell 3 _ rfl
      have KH := Lib.hid (rHas_in [m0, m1, m2, m3] j wr HW.out (by omega))
      replace KH : Hid (Calls Try.prog 63 #[.agg #[.int .u64 m0, .int .u64 m1, .int .u64 m2, .int .u64 m3], .int .i64 j] wr fun e w' => e = .returned (.bool (Mk.hasB [m0, m1, m2, m3] j)) ∧ Below wr.heap.size wr w') := KH
      cases hh : Mk.hasB [m0, m1, m2, m3] j with
      | false =>
        rw [hh] at KH
        have HE := Lib.hid (show gv [m0, m1, m2, m3] n Ow (j + 1) = gv [m0, m1, m2, m3] n Ow j from by rw [gv, hh]; rfl)
        clear hh
        go_wp2_with fail
        refine KH.out.mono ?_
        rintro _ w1 ⟨rfl, hb1⟩
        have HR2 := Lib.hid (HR.out.next hb1)
        have hk2 := k0.next hb1
        have hG2 := grown_below hG hb1
        clear hb1 b0 b1 b2 b3 c2 k0 hG HR
        go_wp2_with fail
        go_roundg g1
        case measure => omega
        case rel => exact ⟨j + 1, by omega, by go_num, by rw [HE.out]; exact HR2, hk2, hG2⟩
      | true =>
        rw [hh] at KH
        have HE := Lib.hid (show gv [m0, m1, m2, m3] n Ow (j + 1) = (gv [m0, m1, m2, m3] n Ow j).set j n from by rw [gv, hh]; rfl)
        clear hh
        go_wp2_with fail
        refine KH.out.mono ?_
        rintro _ w1 ⟨rfl, hb1⟩
        have HR2 := HR.out.next hb1
        have hk2 := k0.next hb1
        have hG2 := grown_below hG hb1
        have d2 := HR2.blk.cell 2 _ rfl
        have hlen := HR2.la
        obtain ⟨z, ez⟩ : ∃ z, (gv [m0, m1, m2, m3] n Ow j)[j]? = some z := ⟨_, List.getElem?_eq_getElem (by omega)⟩
        have e0 : w1.cell? ⟨g, j, none⟩ = some (.int .i64 z) := by rw [HR2.ra.cellAt j (by omega)]; simp [ez]
        have f0 := HR2.ra.frozenAt j
        have hs := HR2.ra.stored j (.int .i64 n)
        have HR3 := Lib.hid (HR2.putA j n).1
        have hG3 := Lib.hid (hG2.trans hs.2)
        have hk3 := Lib.hid (bk_far hk2 (a := ⟨g, j, none⟩) (by simp; omega) (.int .i64 n))
        clear hb1 b0 b1 b2 b3 c2 k0 hG HR HR2 hk2 hG2 hs hlen ez
        go_wp2_with fail
        go_roundg g1
        case measure => omega
        case rel => exact ⟨j + 1, by omega, by go_num, by rw [HE.out]; exact HR3, hk3.out, hG3.out⟩
end Go.Proofs.Ythmlibapjhmdbaa
