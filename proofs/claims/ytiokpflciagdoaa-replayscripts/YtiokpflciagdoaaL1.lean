/- live. -/
import Derived.Test.YtiokpflciagdoaaL0
namespace Go.Proofs.Ytiokpflciagdoaa
open Go.RowKit Go.Maps

theorem Lv.setY {w V : World} {p bk bt gx gy gs : Nat} {cx cy : Array Value} {L : List (Pl × Int)} {T : List (Jb × Int)} (h : Lv w V p bk bt gx gy gs cx cy L T) (i : Nat) (v : Value) (hxy : gx ≠ gy) (hsy : gs ≠ gy) (hpy : p ≠ gy) (hw : w.heap.size ≤ gy) : Lv w (V.setCell ⟨gy, i, none⟩ v) p bk bt gx gy gs cx (cy.set! i v) L T := by
  obtain ⟨D, h1, h2⟩ := h.cache.kept
  obtain ⟨E, h3, h4⟩ := h.cache.tak
  refine ⟨⟨(heap_setCell_other V ⟨gy, i, none⟩ p v hpy).trans h.cache.blk, h.cache.ne, ⟨D, h1.setCell (by simpa using h.nk.2.1.symm) v, h2⟩, ⟨E, h3.setCell (by simpa using h.nt.2.1.symm) v, h4⟩⟩, (heap_setCell_other V ⟨gy, i, none⟩ gx v hxy).trans h.bx, ?_, (heap_setCell_other V ⟨gy, i, none⟩ gs v hsy).trans h.sl, h.low.setCell hw v, h.nk, h.nt⟩
  have := heap_setCell_same V gy i _ 31 v h.by_
  simpa [Bk] using this

set_option maxRecDepth 100000 in
set_option maxHeartbeats 4000000 in
theorem live_any (w : World) : Calls Try.prog 9 #[] w fun e w' => e = .returned (.bool true) ∧ Below w.heap.size w w' := by
  go_enter Try.func9, Try.ntmps9
  go_wp2_with fail
  refine (new_ok 1 _ (by omega) (by omega)).mono ?_
  rintro e w1 ⟨p, bk, bt, rfl, hp, hk, ht, h, hb0⟩
  have hs := hb0.size
  have hlk := h.ltk
  have hlt := h.ltt
  have hlp := h.blk.lt
  have st : Lv w (((w1.alloc (.cells #[.int .i64 0] 3)).alloc (.cells #[.int .i64 1, .int .i64 0, .int .i64 0, .int .i64 0, .int .i64 10, .slice (some ⟨w1.heap.size, 0, none⟩) 1 1, .int .i64 1] 31)).alloc (.cells #[.int .i64 1, .int .i64 0, .int .i64 1, .int .i64 0, .int .i64 10, .slice (some ⟨w1.heap.size, 0, none⟩) 1 1, .int .i64 1] 31)) p bk bt (w1.heap.size + 1) (w1.heap.size + 1 + 1) w1.heap.size #[.int .i64 1, .int .i64 0, .int .i64 0, .int .i64 0, .int .i64 10, .slice (some ⟨w1.heap.size, 0, none⟩) 1 1, .int .i64 1] #[.int .i64 1, .int .i64 0, .int .i64 1, .int .i64 0, .int .i64 10, .slice (some ⟨w1.heap.size, 0, none⟩) 1 1, .int .i64 1] [] [] := by
    have b1 := below_alloc w1 (.cells #[.int .i64 0] 3)
    have b2 := below_alloc (w1.alloc (.cells #[.int .i64 0] 3)) (.cells #[.int .i64 1, .int .i64 0, .int .i64 0, .int .i64 0, .int .i64 10, .slice (some ⟨w1.heap.size, 0, none⟩) 1 1, .int .i64 1] 31)
    have b3 := below_alloc ((w1.alloc (.cells #[.int .i64 0] 3)).alloc (.cells #[.int .i64 1, .int .i64 0, .int .i64 0, .int .i64 0, .int .i64 10, .slice (some ⟨w1.heap.size, 0, none⟩) 1 1, .int .i64 1] 31)) (.cells #[.int .i64 1, .int .i64 0, .int .i64 1, .int .i64 0, .int .i64 10, .slice (some ⟨w1.heap.size, 0, none⟩) 1 1, .int .i64 1] 31)
    have x2 := Bk.new (w1.alloc (.cells #[.int .i64 0] 3)) 31 #[.int .i64 1, .int .i64 0, .int .i64 0, .int .i64 0, .int .i64 10, .slice (some ⟨w1.heap.size, 0, none⟩) 1 1, .int .i64 1]
    have x3 := Bk.new ((w1.alloc (.cells #[.int .i64 0] 3)).alloc (.cells #[.int .i64 1, .int .i64 0, .int .i64 0, .int .i64 0, .int .i64 10, .slice (some ⟨w1.heap.size, 0, none⟩) 1 1, .int .i64 1] 31)) 31 #[.int .i64 1, .int .i64 0, .int .i64 1, .int .i64 0, .int .i64 10, .slice (some ⟨w1.heap.size, 0, none⟩) 1 1, .int .i64 1]
    rw [size_alloc] at x2
    rw [size_alloc, size_alloc] at x3
    exact ⟨((h.next b1).next b2).next b3, x2.next b3, x3, ((Bk.new w1 3 #[.int .i64 0]).next b2).next b3, bmore (bmore (bmore hb0 b1) b2) b3, ⟨by omega, by omega, by omega, hk⟩, ⟨by omega, by omega, by omega, ht⟩⟩
  clear h hb0
  go_wp2_with fail
  generalize ((w1.alloc (.cells #[.int .i64 0] 3)).alloc (.cells #[.int .i64 1, .int .i64 0, .int .i64 0, .int .i64 0, .int .i64 10, .slice (some ⟨w1.heap.size, 0, none⟩) 1 1, .int .i64 1] 31)).alloc (.cells #[.int .i64 1, .int .i64 0, .int .i64 1, .int .i64 0, .int .i64 10, .slice (some ⟨w1.heap.size, 0, none⟩) 1 1, .int .i64 1] 31) = V at *
  have hpy : p ≠ w1.heap.size + 1 + 1 := by omega
  have hgx : w1.heap.size + 1 ≠ w1.heap.size + 1 + 1 := by omega
  have hgs : w1.heap.size ≠ w1.heap.size + 1 + 1 := by omega
  have hwy : w.heap.size ≤ w1.heap.size + 1 + 1 := by omega
  generalize w1.heap.size + 1 + 1 = gy at *
  generalize w1.heap.size + 1 = gx at *
  clear hp hk ht hs hlk hlt hlp
  have K1 := Lib.hid (show ∀ V, Lv w V p bk bt gx gy w1.heap.size #[.int .i64 1, .int .i64 0, .int .i64 0, .int .i64 0, .int .i64 10, .slice (some ⟨w1.heap.size, 0, none⟩) 1 1, .int .i64 1] #[.int .i64 1, .int .i64 0, .int .i64 1, .int .i64 0, .int .i64 10, .slice (some ⟨w1.heap.size, 0, none⟩) 1 1, .int .i64 1] [] [] → Calls Try.prog 18 #[.pointer (some ⟨p, 0, none⟩), .agg #[.int .i64 1, .int .i64 0, .int .i64 0, .int .i64 0, .int .i64 10, .slice (some ⟨w1.heap.size, 0, none⟩) 1 1, .int .i64 1], .int .i64 3] V fun e w' => e = .returned (.int .i64 0) ∧ Lv w w' p bk bt gx gy w1.heap.size #[.int .i64 1, .int .i64 0, .int .i64 0, .int .i64 0, .int .i64 10, .slice (some ⟨w1.heap.size, 0, none⟩) 1 1, .int .i64 1] #[.int .i64 1, .int .i64 0, .int .i64 1, .int .i64 0, .int .i64 10, .slice (some ⟨w1.heap.size, 0, none⟩) 1 1, .int .i64 1] [(px, 10)] [] from fun V st => st.use px 10 3 0 u1 (by decide) (by decide))
  have K2 := Lib.hid (show ∀ V, Lv w V p bk bt gx gy w1.heap.size #[.int .i64 1, .int .i64 0, .int .i64 0, .int .i64 0, .int .i64 10, .slice (some ⟨w1.heap.size, 0, none⟩) 1 1, .int .i64 1] #[.int .i64 1, .int .i64 0, .int .i64 1, .int .i64 0, .int .i64 10, .slice (some ⟨w1.heap.size, 0, none⟩) 1 1, .int .i64 1] [(px, 10)] [] → Calls Try.prog 18 #[.pointer (some ⟨p, 0, none⟩), .agg #[.int .i64 1, .int .i64 0, .int .i64 0, .int .i64 0, .int .i64 10, .slice (some ⟨w1.heap.size, 0, none⟩) 1 1, .int .i64 1], .int .i64 3] V fun e w' => e = .returned (.int .i64 10) ∧ Lv w w' p bk bt gx gy w1.heap.size #[.int .i64 1, .int .i64 0, .int .i64 0, .int .i64 0, .int .i64 10, .slice (some ⟨w1.heap.size, 0, none⟩) 1 1, .int .i64 1] #[.int .i64 1, .int .i64 0, .int .i64 1, .int .i64 0, .int .i64 10, .slice (some ⟨w1.heap.size, 0, none⟩) 1 1, .int .i64 1] [(px, 10)] [] from fun V st => st.use px 10 3 10 u2 (by decide) (by decide))
  have K3 := Lib.hid (show ∀ V, Lv w V p bk bt gx gy w1.heap.size #[.int .i64 1, .int .i64 0, .int .i64 0, .int .i64 0, .int .i64 10, .slice (some ⟨w1.heap.size, 0, none⟩) 1 1, .int .i64 1] #[.int .i64 1, .int .i64 0, .int .i64 1, .int .i64 0, .int .i64 10, .slice (some ⟨w1.heap.size, 0, none⟩) 1 1, .int .i64 1] [(px, 10)] [] → Calls Try.prog 18 #[.pointer (some ⟨p, 0, none⟩), .agg #[.int .i64 1, .int .i64 0, .int .i64 1, .int .i64 0, .int .i64 10, .slice (some ⟨w1.heap.size, 0, none⟩) 1 1, .int .i64 1], .int .i64 3] V fun e w' => e = .returned (.int .i64 6) ∧ Lv w w' p bk bt gx gy w1.heap.size #[.int .i64 1, .int .i64 0, .int .i64 0, .int .i64 0, .int .i64 10, .slice (some ⟨w1.heap.size, 0, none⟩) 1 1, .int .i64 1] #[.int .i64 1, .int .i64 0, .int .i64 1, .int .i64 0, .int .i64 10, .slice (some ⟨w1.heap.size, 0, none⟩) 1 1, .int .i64 1] [(px, 10)] [] from fun V st => st.use py 10 3 6 u3 (by decide) (by decide))
  have K4 := Lib.hid (show ∀ V, Lv w V p bk bt gx gy w1.heap.size #[.int .i64 1, .int .i64 0, .int .i64 0, .int .i64 0, .int .i64 10, .slice (some ⟨w1.heap.size, 0, none⟩) 1 1, .int .i64 1] #[.int .i64 1, .int .i64 0, .int .i64 1, .int .i64 0, .int .i64 10, .slice (some ⟨w1.heap.size, 0, none⟩) 1 1, .int .i64 1] [(px, 10)] [] → Calls Try.prog 14 #[.pointer (some ⟨p, 0, none⟩), .agg #[.int .i64 1, .int .i64 0, .int .i64 0, .int .i64 0, .int .i64 10, .slice (some ⟨w1.heap.size, 0, none⟩) 1 1, .int .i64 1], .int .i64 9] V fun e w' => e = .returned (.bool true) ∧ Lv w w' p bk bt gx gy w1.heap.size #[.int .i64 1, .int .i64 0, .int .i64 0, .int .i64 0, .int .i64 10, .slice (some ⟨w1.heap.size, 0, none⟩) 1 1, .int .i64 1] #[.int .i64 1, .int .i64 0, .int .i64 1, .int .i64 0, .int .i64 10, .slice (some ⟨w1.heap.size, 0, none⟩) 1 1, .int .i64 1] [(px, 10)] [] from fun V st => (used_any st.cache px 0 10 _ 1 1 1 9).mono fun _ _ ⟨he, hb⟩ => ⟨he, st.next hb⟩)
  have K5 := Lib.hid (show ∀ V, Lv w V p bk bt gx gy w1.heap.size #[.int .i64 1, .int .i64 0, .int .i64 0, .int .i64 0, .int .i64 10, .slice (some ⟨w1.heap.size, 0, none⟩) 1 1, .int .i64 1] #[.int .i64 1, .int .i64 0, .int .i64 1, .int .i64 0, .int .i64 10, .slice (some ⟨w1.heap.size, 0, none⟩) 1 1, .int .i64 1] [(px, 10)] [] → Calls Try.prog 14 #[.pointer (some ⟨p, 0, none⟩), .agg #[.int .i64 1, .int .i64 0, .int .i64 0, .int .i64 0, .int .i64 10, .slice (some ⟨w1.heap.size, 0, none⟩) 1 1, .int .i64 1], .int .i64 10] V fun e w' => e = .returned (.bool false) ∧ Lv w w' p bk bt gx gy w1.heap.size #[.int .i64 1, .int .i64 0, .int .i64 0, .int .i64 0, .int .i64 10, .slice (some ⟨w1.heap.size, 0, none⟩) 1 1, .int .i64 1] #[.int .i64 1, .int .i64 0, .int .i64 1, .int .i64 0, .int .i64 10, .slice (some ⟨w1.heap.size, 0, none⟩) 1 1, .int .i64 1] [(px, 10)] [] from fun V st => (used_any st.cache px 0 10 _ 1 1 1 10).mono fun _ _ ⟨he, hb⟩ => ⟨he, st.next hb⟩)
  have K6 := Lib.hid (show ∀ V, Lv w V p bk bt gx gy w1.heap.size #[.int .i64 1, .int .i64 0, .int .i64 0, .int .i64 0, .int .i64 10, .slice (some ⟨w1.heap.size, 0, none⟩) 1 1, .int .i64 1] #[.int .i64 1, .int .i64 0, .int .i64 1, .int .i64 0, .int .i64 20, .slice (some ⟨w1.heap.size, 0, none⟩) 1 1, .int .i64 1] [(px, 10)] [] → Calls Try.prog 18 #[.pointer (some ⟨p, 0, none⟩), .agg #[.int .i64 1, .int .i64 0, .int .i64 1, .int .i64 0, .int .i64 20, .slice (some ⟨w1.heap.size, 0, none⟩) 1 1, .int .i64 1], .int .i64 10] V fun e w' => e = .returned (.int .i64 0) ∧ Lv w w' p bk bt gx gy w1.heap.size #[.int .i64 1, .int .i64 0, .int .i64 0, .int .i64 0, .int .i64 10, .slice (some ⟨w1.heap.size, 0, none⟩) 1 1, .int .i64 1] #[.int .i64 1, .int .i64 0, .int .i64 1, .int .i64 0, .int .i64 20, .slice (some ⟨w1.heap.size, 0, none⟩) 1 1, .int .i64 1] [(py, 20)] [] from fun V st => st.use py 20 10 0 u4 (by decide) (by decide))
  have K7 := Lib.hid (show ∀ V, Lv w V p bk bt gx gy w1.heap.size #[.int .i64 1, .int .i64 0, .int .i64 0, .int .i64 0, .int .i64 10, .slice (some ⟨w1.heap.size, 0, none⟩) 1 1, .int .i64 1] #[.int .i64 1, .int .i64 0, .int .i64 1, .int .i64 0, .int .i64 20, .slice (some ⟨w1.heap.size, 0, none⟩) 1 1, .int .i64 1] [(py, 20)] [] → Calls Try.prog 19 #[.pointer (some ⟨p, 0, none⟩), .int .i64 1, .int .i64 0] V fun e w' => e = .returned (.int .i64 0) ∧ Lv w w' p bk bt gx gy w1.heap.size #[.int .i64 1, .int .i64 0, .int .i64 0, .int .i64 0, .int .i64 10, .slice (some ⟨w1.heap.size, 0, none⟩) 1 1, .int .i64 1] #[.int .i64 1, .int .i64 0, .int .i64 1, .int .i64 0, .int .i64 20, .slice (some ⟨w1.heap.size, 0, none⟩) 1 1, .int .i64 1] [(py, 20)] [(j1, 0)] from fun V st => st.rev j1 0 0 u5 (by decide) (by decide))
  have K8 := Lib.hid (show ∀ V, Lv w V p bk bt gx gy w1.heap.size #[.int .i64 1, .int .i64 0, .int .i64 0, .int .i64 0, .int .i64 10, .slice (some ⟨w1.heap.size, 0, none⟩) 1 1, .int .i64 1] #[.int .i64 1, .int .i64 0, .int .i64 1, .int .i64 0, .int .i64 20, .slice (some ⟨w1.heap.size, 0, none⟩) 1 1, .int .i64 1] [(py, 20)] [(j1, 0)] → Calls Try.prog 13 #[.pointer (some ⟨p, 0, none⟩)] V fun e w' => e = .returned (.int .i64 1) ∧ Lv w w' p bk bt gx gy w1.heap.size #[.int .i64 1, .int .i64 0, .int .i64 0, .int .i64 0, .int .i64 10, .slice (some ⟨w1.heap.size, 0, none⟩) 1 1, .int .i64 1] #[.int .i64 1, .int .i64 0, .int .i64 1, .int .i64 0, .int .i64 20, .slice (some ⟨w1.heap.size, 0, none⟩) 1 1, .int .i64 1] [(py, 20)] [(j1, 0)] from fun V st => (len_any st.cache).mono fun _ _ ⟨he, hb⟩ => ⟨he, hb ▸ st⟩)
  have K9 := Lib.hid (show ∀ V, Lv w V p bk bt gx gy w1.heap.size #[.int .i64 1, .int .i64 0, .int .i64 0, .int .i64 0, .int .i64 10, .slice (some ⟨w1.heap.size, 0, none⟩) 1 1, .int .i64 1] #[.int .i64 1, .int .i64 0, .int .i64 1, .int .i64 0, .int .i64 20, .slice (some ⟨w1.heap.size, 0, none⟩) 1 1, .int .i64 1] [(py, 20)] [(j1, 0)] → Calls Try.prog 16 #[.pointer (some ⟨p, 0, none⟩), .agg #[.int .i64 1, .int .i64 0, .int .i64 1, .int .i64 0, .int .i64 20, .slice (some ⟨w1.heap.size, 0, none⟩) 1 1, .int .i64 1]] V fun e w' => e = .returned (.bool true) ∧ Lv w w' p bk bt gx gy w1.heap.size #[.int .i64 1, .int .i64 0, .int .i64 0, .int .i64 0, .int .i64 10, .slice (some ⟨w1.heap.size, 0, none⟩) 1 1, .int .i64 1] #[.int .i64 1, .int .i64 0, .int .i64 1, .int .i64 0, .int .i64 20, .slice (some ⟨w1.heap.size, 0, none⟩) 1 1, .int .i64 1] [(py, 20)] [(j1, 0)] from fun V st => (revoked_any st.cache j1 0 1 0 20 _ 1 1 1).mono fun _ _ ⟨he, hb⟩ => ⟨he, st.next hb⟩)
  have K10 := Lib.hid (show ∀ V, Lv w V p bk bt gx gy w1.heap.size #[.int .i64 1, .int .i64 0, .int .i64 0, .int .i64 0, .int .i64 10, .slice (some ⟨w1.heap.size, 0, none⟩) 1 1, .int .i64 1] #[.int .i64 1, .int .i64 0, .int .i64 1, .int .i64 0, .int .i64 20, .slice (some ⟨w1.heap.size, 0, none⟩) 1 1, .int .i64 1] [(py, 20)] [(j1, 0)] → Calls Try.prog 18 #[.pointer (some ⟨p, 0, none⟩), .agg #[.int .i64 1, .int .i64 0, .int .i64 1, .int .i64 0, .int .i64 20, .slice (some ⟨w1.heap.size, 0, none⟩) 1 1, .int .i64 1], .int .i64 10] V fun e w' => e = .returned (.int .i64 11) ∧ Lv w w' p bk bt gx gy w1.heap.size #[.int .i64 1, .int .i64 0, .int .i64 0, .int .i64 0, .int .i64 10, .slice (some ⟨w1.heap.size, 0, none⟩) 1 1, .int .i64 1] #[.int .i64 1, .int .i64 0, .int .i64 1, .int .i64 0, .int .i64 20, .slice (some ⟨w1.heap.size, 0, none⟩) 1 1, .int .i64 1] [(py, 20)] [(j1, 0)] from fun V st => st.use py 20 10 11 u6 (by decide) (by decide))
  have K11 := Lib.hid (show ∀ V, Lv w V p bk bt gx gy w1.heap.size #[.int .i64 1, .int .i64 0, .int .i64 0, .int .i64 0, .int .i64 10, .slice (some ⟨w1.heap.size, 0, none⟩) 1 1, .int .i64 1] #[.int .i64 1, .int .i64 0, .int .i64 1, .int .i64 0, .int .i64 20, .slice (some ⟨w1.heap.size, 0, none⟩) 1 1, .int .i64 1] [(py, 20)] [(j1, 0)] → Calls Try.prog 18 #[.pointer (some ⟨p, 0, none⟩), .agg #[.int .i64 1, .int .i64 0, .int .i64 0, .int .i64 0, .int .i64 10, .slice (some ⟨w1.heap.size, 0, none⟩) 1 1, .int .i64 1], .int .i64 10] V fun e w' => e = .returned (.int .i64 8) ∧ Lv w w' p bk bt gx gy w1.heap.size #[.int .i64 1, .int .i64 0, .int .i64 0, .int .i64 0, .int .i64 10, .slice (some ⟨w1.heap.size, 0, none⟩) 1 1, .int .i64 1] #[.int .i64 1, .int .i64 0, .int .i64 1, .int .i64 0, .int .i64 20, .slice (some ⟨w1.heap.size, 0, none⟩) 1 1, .int .i64 1] [(py, 20)] [(j1, 0)] from fun V st => st.use px 10 10 8 u7 (by decide) (by decide))
  refine (K1.out _ st).mono ?_
  clear st K1
  rintro e V1 ⟨rfl, st⟩
  obtain ⟨⟨a0, a1, a2, a3, a4, a5, a6⟩, b0, b1, b2, b3, b4, b5, b6⟩ := st.cells
  go_wp2_with fail
  clear a0 a1 a2 a3 a4 a5 a6 b0 b1 b2 b3 b4 b5 b6
  refine (K2.out _ st).mono ?_
  clear st K2
  rintro e V2 ⟨rfl, st⟩
  obtain ⟨⟨a0, a1, a2, a3, a4, a5, a6⟩, b0, b1, b2, b3, b4, b5, b6⟩ := st.cells
  go_wp2_with fail
  clear a0 a1 a2 a3 a4 a5 a6 b0 b1 b2 b3 b4 b5 b6
  refine (K3.out _ st).mono ?_
  clear st K3
  rintro e V3 ⟨rfl, st⟩
  obtain ⟨⟨a0, a1, a2, a3, a4, a5, a6⟩, b0, b1, b2, b3, b4, b5, b6⟩ := st.cells
  go_wp2_with fail
  clear a0 a1 a2 a3 a4 a5 a6 b0 b1 b2 b3 b4 b5 b6
  refine (K4.out _ st).mono ?_
  clear st K4
  rintro e V4 ⟨rfl, st⟩
  obtain ⟨⟨a0, a1, a2, a3, a4, a5, a6⟩, b0, b1, b2, b3, b4, b5, b6⟩ := st.cells
  go_wp2_with fail
  clear a0 a1 a2 a3 a4 a5 a6 b0 b1 b2 b3 b4 b5 b6
  refine (K5.out _ st).mono ?_
  clear st K5
  rintro e V5 ⟨rfl, st⟩
  have b4 := st.by_.cell 4 _ rfl
  have f4 := st.by_.frozen 4
  have st2 := st.setY 4 (.int .i64 20) hgx hgs hpy hwy
  obtain ⟨⟨a0, a1, a2, a3, a4, a5, a6⟩, c0, c1, c2, c3, c4, c5, c6⟩ := st2.cells
  clear st
  go_wp2_with fail
  clear a0 a1 a2 a3 a4 a5 a6 c0 c1 c2 c3 c4 c5 c6 b4 f4
  have st := st2
  clear st2
  refine (K6.out _ st).mono ?_
  clear st K6
  rintro e V6 ⟨rfl, st⟩
  obtain ⟨⟨a0, a1, a2, a3, a4, a5, a6⟩, b0, b1, b2, b3, b4, b5, b6⟩ := st.cells
  go_wp2_with fail
  clear a0 a1 a2 a3 a4 a5 a6 b0 b1 b2 b3 b4 b5 b6
  refine (K7.out _ st).mono ?_
  clear st K7
  rintro e V7 ⟨rfl, st⟩
  obtain ⟨⟨a0, a1, a2, a3, a4, a5, a6⟩, b0, b1, b2, b3, b4, b5, b6⟩ := st.cells
  go_wp2_with fail
  clear a0 a1 a2 a3 a4 a5 a6 b0 b1 b2 b3 b4 b5 b6
  refine (K8.out _ st).mono ?_
  clear st K8
  rintro e V8 ⟨rfl, st⟩
  obtain ⟨⟨a0, a1, a2, a3, a4, a5, a6⟩, b0, b1, b2, b3, b4, b5, b6⟩ := st.cells
  go_wp2_with fail
  clear a0 a1 a2 a3 a4 a5 a6 b0 b1 b2 b3 b4 b5 b6
  refine (K9.out _ st).mono ?_
  clear st K9
  rintro e V9 ⟨rfl, st⟩
  obtain ⟨⟨a0, a1, a2, a3, a4, a5, a6⟩, b0, b1, b2, b3, b4, b5, b6⟩ := st.cells
  go_wp2_with fail
  clear a0 a1 a2 a3 a4 a5 a6 b0 b1 b2 b3 b4 b5 b6
  refine (K10.out _ st).mono ?_
  clear st K10
  rintro e V10 ⟨rfl, st⟩
  obtain ⟨⟨a0, a1, a2, a3, a4, a5, a6⟩, b0, b1, b2, b3, b4, b5, b6⟩ := st.cells
  go_wp2_with fail
  clear a0 a1 a2 a3 a4 a5 a6 b0 b1 b2 b3 b4 b5 b6
  refine (K11.out _ st).mono ?_
  clear st K11
  rintro e V11 ⟨rfl, st⟩
  go_wp2_with fail
  refine (new_bad 0 _ (by omega)).mono ?_
  rintro e V12 ⟨rfl, rfl⟩
  go_wp2_with fail
  go_ret
  exact ⟨rfl, st.low⟩
end Go.Proofs.Ytiokpflciagdoaa
