/- live of dag. -/
import Derived.Test.YtodgkjmkjahkiaaE1
namespace Go.Proofs.Ytodgkjmkjahkiaa
open Go.RowKit

theorem rd_of {W : World} {A C : Option Addr} {n cap m cc : Nat} {l : List St} {cs zs : List Int} {e : Int} (h : rdyL l cs = zs ∧ ckB l cs = e) (hS : Sl W A n cap l) (hC : Il W C m cs) : Calls Try.prog 22 #[.slice A n cap, .slice C m cc] W (Gives2 W zs e) := by
  have := ready_any A C n cap m cc l cs W hS hC
  rwa [h.1, h.2] at this
theorem st_of {W : World} {A C : Option Addr} {n cap m cc : Nat} {l : List St} {cs zs : List Int} {e : Int} (h : stlL l cs = zs ∧ ckB l cs = e) (hS : Sl W A n cap l) (hC : Il W C m cs) : Calls Try.prog 24 #[.slice A n cap, .slice C m cc] W (Gives2 W zs e) := by
  have := settle_any A C n cap m cc l cs W hS hC
  rwa [h.1, h.2] at this
theorem ov_of {W : World} {A C : Option Addr} {n cap m cc : Nat} {l : List St} {cs : List Int} {k : Int} {b : Bool} (h : ovN l cs = k ∧ ovY l cs = b) (hS : Sl W A n cap l) (hC : Il W C m cs) : Calls Try.prog 26 #[.slice A n cap, .slice C m cc] W fun e w' => e = .returned (.tuple #[.int .i64 k, .bool b]) ∧ Below W.heap.size W w' := by
  have := over_any A C n cap m cc l cs W hS hC
  rwa [h.1, h.2] at this
theorem ch_of {W : World} {A : Option Addr} {n cap : Nat} {l : List St} {k : Int} (h : checkB l = k) (hS : Sl W A n cap l) : Calls Try.prog 17 #[.slice A n cap] W fun e w' => e = .returned (.int .i64 k) ∧ Below W.heap.size W w' := by
  have := check_any A n cap l W hS
  rwa [h] at this
theorem or_of {W : World} {A : Option Addr} {n cap : Nat} {l : List St} {zs : List Int} (h : orderB l = zs) (hS : Sl W A n cap l) : Calls Try.prog 20 #[.slice A n cap] W (Gives W zs) := by
  have := order_any A n cap l W hS
  rwa [h] at this
theorem lv_size (w : World) : (lvW w).heap.size = w.heap.size + 1 + 1 + 1 := by unfold lvW; simp
abbrev lkW (w : World) : World := ((w.alloc (.cells #[.int .i64 1, .int .i64 1, .int .i64 0, .int .i64 5, .slice (some ⟨w.heap.size + 1, 0, none⟩) 1 1, .int .i64 1, .int .i64 1, .int .i64 0, .int .i64 5, .slice (some ⟨w.heap.size + 1 + 1, 0, none⟩) 1 1] 38)).alloc (.cells #[.int .i64 1, .int .i64 0] 40)).alloc (.cells #[.int .i64 0, .int .i64 0] 40)
theorem lk_sl (w : World) : Sl (lkW w) (some ⟨w.heap.size, 0, none⟩) 2 2 liveK ∧ Below w.heap.size w (lkW w) ∧ (lkW w).heap.size = w.heap.size + 1 + 1 + 1 := by
  have k1 := ((Bk.new w 38 #[.int .i64 1, .int .i64 1, .int .i64 0, .int .i64 5, .slice (some ⟨w.heap.size + 1, 0, none⟩) 1 1, .int .i64 1, .int .i64 1, .int .i64 0, .int .i64 5, .slice (some ⟨w.heap.size + 1 + 1, 0, none⟩) 1 1]).alloc (.cells #[.int .i64 1, .int .i64 0] 40)).alloc (.cells #[.int .i64 0, .int .i64 0] 40)
  have k2 := (Bk.new (w.alloc (.cells #[.int .i64 1, .int .i64 1, .int .i64 0, .int .i64 5, .slice (some ⟨w.heap.size + 1, 0, none⟩) 1 1, .int .i64 1, .int .i64 1, .int .i64 0, .int .i64 5, .slice (some ⟨w.heap.size + 1 + 1, 0, none⟩) 1 1] 38)) 40 #[.int .i64 1, .int .i64 0]).alloc (.cells #[.int .i64 0, .int .i64 0] 40)
  have k3 := Bk.new ((w.alloc (.cells #[.int .i64 1, .int .i64 1, .int .i64 0, .int .i64 5, .slice (some ⟨w.heap.size + 1, 0, none⟩) 1 1, .int .i64 1, .int .i64 1, .int .i64 0, .int .i64 5, .slice (some ⟨w.heap.size + 1 + 1, 0, none⟩) 1 1] 38)).alloc (.cells #[.int .i64 1, .int .i64 0] 40)) 40 #[.int .i64 0, .int .i64 0]
  rw [size_alloc] at k2
  rw [size_alloc, size_alloc] at k3
  exact ⟨sl_liveK k2 k3 k1, ((below_alloc _ _).alloc (by simp) _).alloc (by simp; omega) _, by unfold lkW; simp⟩
set_option maxRecDepth 100000 in
set_option maxHeartbeats 8000000 in
theorem live_any (w : World) : Calls Try.prog 16 #[] w fun e w' => e = .returned (.bool true) ∧ Below w.heap.size w w' := by
  obtain ⟨hS0, hlow0, ck, hck, k0, k1, k2, k3, k4⟩ := lv_sl w
  have hB0 := Lib.hid hlow0
  have hS := Lib.hid hS0
  have hK := Lib.hid hck
  have hVs := Lib.hid (lv_size w)
  have kk := Lib.hid (And.intro k0 (And.intro k1 (And.intro k2 (And.intro k3 k4))))
  clear hS0 hlow0 hck k0 k1 k2 k3 k4
  unfold lvW at hS hB0 hK hVs
  go_enter Try.func16, Try.ntmps16
  go_wp2_with fail
  generalize ((w.alloc (.cells #[.int .i64 0, .int .i64 0] 40)).alloc (.cells #[.int .i64 1, .int .i64 2, .int .i64 0, .int .i64 1] 40)).alloc (.cells #[.int .i64 1, .int .i64 1, .int .i64 0, .int .i64 5, .slice none 0 0, .int .i64 1, .int .i64 1, .int .i64 0, .int .i64 5, .slice (some ⟨w.heap.size, 0, none⟩) 1 1, .int .i64 1, .int .i64 1, .int .i64 0, .int .i64 5, .slice (some ⟨w.heap.size + 1, 0, none⟩) 2 2] 38) = V at *
  rw [← hVs.out]
  generalize w.heap.size + 1 + 1 = g at *
  refine (rd_of lf1 (hS.out.next (below_alloc _ _)) (il3 (Bk.new _ _ _))).mono ?_
  rintro y w1 ⟨v, rfl, row, hb⟩
  obtain ⟨A1, c1, rfl⟩ := own_form row
  have I1 := Lib.hid (ints_iv rfl row)
  have HB := Lib.hid (bmore (below_alloc _ _) hb)
  clear row hb
  go_wp2_with fail
  refine (rd_of lf2 (hS.out.next (bmore HB.out (below_alloc _ _))) (il3 (Bk.new _ _ _))).mono ?_
  rintro y w2 ⟨v, rfl, row, hb⟩
  obtain ⟨A2, c2, rfl⟩ := own_form row
  have I2 := Lib.hid (ints_iv rfl row)
  replace I1 := Lib.hid (I1.out.next (bmore (below_alloc _ _) hb))
  replace HB := Lib.hid (bmore HB.out (bmore (below_alloc _ _) hb))
  clear row hb
  go_wp2_with fail
  refine (st_of lf3 (hS.out.next (bmore HB.out (below_alloc _ _))) (il3 (Bk.new _ _ _))).mono ?_
  rintro y w3 ⟨v, rfl, row, hb⟩
  obtain ⟨A3, c3, rfl⟩ := own_form row
  have I3 := Lib.hid (ints_iv rfl row)
  replace I1 := Lib.hid (I1.out.next (bmore (below_alloc _ _) hb))
  replace I2 := Lib.hid (I2.out.next (bmore (below_alloc _ _) hb))
  replace HB := Lib.hid (bmore HB.out (bmore (below_alloc _ _) hb))
  clear row hb
  go_wp2_with fail
  refine (ov_of lf4 (hS.out.next (bmore HB.out (below_alloc _ _))) (il3 (Bk.new _ _ _))).mono ?_
  rintro y w4 ⟨rfl, hb⟩
  replace I1 := Lib.hid (I1.out.next (bmore (below_alloc _ _) hb))
  replace I2 := Lib.hid (I2.out.next (bmore (below_alloc _ _) hb))
  replace I3 := Lib.hid (I3.out.next (bmore (below_alloc _ _) hb))
  replace HB := Lib.hid (bmore HB.out (bmore (below_alloc _ _) hb))
  clear hb
  go_wp2_with fail
  refine (rd_of lf5 (hS.out.next (bmore HB.out (below_alloc _ _))) (il1 (Bk.new _ _ _))).mono ?_
  rintro y w5 ⟨v, rfl, row, hb⟩
  obtain ⟨A5, c5, rfl⟩ := own_form row
  replace I1 := Lib.hid (I1.out.next (bmore (below_alloc _ _) hb))
  replace I2 := Lib.hid (I2.out.next (bmore (below_alloc _ _) hb))
  replace I3 := Lib.hid (I3.out.next (bmore (below_alloc _ _) hb))
  replace HB := Lib.hid (bmore HB.out (bmore (below_alloc _ _) hb))
  clear row hb
  have kb := hK.out.next HB.out
  clear hK
  go_wp2_with fail
  refine region_tail 6 (by kernel_rfl) (by kernel_rfl) (fun w6 hw6 => ?_)
  replace kb := kb.hid hw6
  replace I1 := Lib.hid (I1.out.next (below_hid (Below.refl _ _) hw6))
  replace I2 := Lib.hid (I2.out.next (below_hid (Below.refl _ _) hw6))
  replace I3 := Lib.hid (I3.out.next (below_hid (Below.refl _ _) hw6))
  replace HB := Lib.hid (below_hid HB.out hw6)
  clear hw6
  have d0 := kb.cell 0 _ kk.out.1
  have d1 := kb.cell 1 _ kk.out.2.1
  have d2 := kb.cell 2 _ kk.out.2.2.1
  have d3 := kb.cell 3 _ kk.out.2.2.2.1
  have d4 := kb.cell 4 _ kk.out.2.2.2.2
  clear kb kk
  simp only [List.take_succ_cons, List.take_zero, List.drop_succ_cons, List.drop_zero]
  repeat still_step
  refine wpStill_nil ?_
  obtain ⟨hk1, hk2, hk3⟩ := lk_sl w6
  have hKs := Lib.hid hk1
  have hk4 := Lib.hid hk3
  replace I1 := Lib.hid (I1.out.next hk2)
  replace I2 := Lib.hid (I2.out.next hk2)
  replace I3 := Lib.hid (I3.out.next hk2)
  replace HB := Lib.hid (bmore HB.out hk2)
  clear hk1 hk2 hk3
  unfold lkW at hKs hk4 I1 I2 I3 HB
  go_wp2_with fail
  generalize ((w6.alloc (.cells #[.int .i64 1, .int .i64 1, .int .i64 0, .int .i64 5, .slice (some ⟨w6.heap.size + 1, 0, none⟩) 1 1, .int .i64 1, .int .i64 1, .int .i64 0, .int .i64 5, .slice (some ⟨w6.heap.size + 1 + 1, 0, none⟩) 1 1] 38)).alloc (.cells #[.int .i64 1, .int .i64 0] 40)).alloc (.cells #[.int .i64 0, .int .i64 0] 40) = V7 at *
  rw [← hk4.out]
  generalize w6.heap.size = g6 at *
  refine (ov_of lf6 (hS.out.next (bmore HB.out (below_alloc _ _))) (il3 (Bk.new _ _ _))).mono ?_
  rintro y w8 ⟨rfl, hb⟩
  replace I1 := Lib.hid (I1.out.next (bmore (below_alloc _ _) hb))
  replace I2 := Lib.hid (I2.out.next (bmore (below_alloc _ _) hb))
  replace I3 := Lib.hid (I3.out.next (bmore (below_alloc _ _) hb))
  replace hKs := Lib.hid (hKs.out.next (bmore (below_alloc _ _) hb))
  replace HB := Lib.hid (bmore HB.out (bmore (below_alloc _ _) hb))
  clear hb
  go_wp2_with fail
  refine (ch_of lf7.1 (hS.out.next HB.out)).mono ?_
  rintro y w9 ⟨rfl, hb⟩
  replace I1 := Lib.hid (I1.out.next hb)
  replace I2 := Lib.hid (I2.out.next hb)
  replace I3 := Lib.hid (I3.out.next hb)
  replace hKs := Lib.hid (hKs.out.next hb)
  replace HB := Lib.hid (bmore HB.out hb)
  clear hb
  go_wp2_with fail
  refine (or_of lf7.2.1 (hS.out.next HB.out)).mono ?_
  rintro y w10 ⟨v, rfl, row, hb⟩
  obtain ⟨A4, c4, rfl⟩ := own_form row
  have I4 := Lib.hid (ints_iv rfl row)
  replace I1 := Lib.hid (I1.out.next hb)
  replace I2 := Lib.hid (I2.out.next hb)
  replace I3 := Lib.hid (I3.out.next hb)
  replace hKs := Lib.hid (hKs.out.next hb)
  replace HB := Lib.hid (bmore HB.out hb)
  clear hb row
  go_wp2_with fail
  refine (same_eq A4 (some ⟨w10.heap.size, 0, none⟩) c4 3 3 [0, 1, 2] _ (I4.out.next (below_alloc _ _)) (il3 (Bk.new _ _ _)).ints rfl (by unfold maxLen; omega)).mono ?_
  rintro y w11 ⟨rfl, hb⟩
  replace I1 := Lib.hid (I1.out.next (bmore (below_alloc _ _) hb))
  replace I2 := Lib.hid (I2.out.next (bmore (below_alloc _ _) hb))
  replace I3 := Lib.hid (I3.out.next (bmore (below_alloc _ _) hb))
  replace hKs := Lib.hid (hKs.out.next (bmore (below_alloc _ _) hb))
  replace HB := Lib.hid (bmore HB.out (bmore (below_alloc _ _) hb))
  clear hb I4
  go_wp2_with fail
  refine (same_eq A1 (some ⟨w11.heap.size, 0, none⟩) c1 1 1 [0] _ (I1.out.next (below_alloc _ _)) (il1 (Bk.new _ _ _)).ints rfl (by unfold maxLen; omega)).mono ?_
  rintro y w12 ⟨rfl, hb⟩
  replace I2 := Lib.hid (I2.out.next (bmore (below_alloc _ _) hb))
  replace I3 := Lib.hid (I3.out.next (bmore (below_alloc _ _) hb))
  replace hKs := Lib.hid (hKs.out.next (bmore (below_alloc _ _) hb))
  replace HB := Lib.hid (bmore HB.out (bmore (below_alloc _ _) hb))
  clear hb I1
  go_wp2_with fail
  refine (same_eq A2 (some ⟨w12.heap.size, 0, none⟩) c2 1 1 [2] _ (I2.out.next (below_alloc _ _)) (il1 (Bk.new _ _ _)).ints rfl (by unfold maxLen; omega)).mono ?_
  rintro y w13 ⟨rfl, hb⟩
  replace I3 := Lib.hid (I3.out.next (bmore (below_alloc _ _) hb))
  replace hKs := Lib.hid (hKs.out.next (bmore (below_alloc _ _) hb))
  replace HB := Lib.hid (bmore HB.out (bmore (below_alloc _ _) hb))
  clear hb I2
  go_wp2_with fail
  refine (same_eq A3 (some ⟨w13.heap.size, 0, none⟩) c3 3 3 [3, 256, 256] _ (I3.out.next (below_alloc _ _)) (il3 (Bk.new _ _ _)).ints rfl (by unfold maxLen; omega)).mono ?_
  rintro y w14 ⟨rfl, hb⟩
  replace hKs := Lib.hid (hKs.out.next (bmore (below_alloc _ _) hb))
  replace HB := Lib.hid (bmore HB.out (bmore (below_alloc _ _) hb))
  clear hb I3
  go_wp2_with fail
  refine (ch_of lf7.2.2.1 hKs.out).mono ?_
  rintro y w15 ⟨rfl, hb⟩
  replace HB := Lib.hid (bmore HB.out hb)
  clear hb hKs
  go_wp2_with fail
  refine (ch_of lf7.2.2.2 (sl_nil _)).mono ?_
  rintro y w16 ⟨rfl, hb⟩
  go_wp2_with fail
  go_ret
  exact ⟨rfl, bmore hB0.out (bmore HB.out hb)⟩
end Go.Proofs.Ytodgkjmkjahkiaa
