/- The document's examples, walked. -/
import Derived.Test.YthmlibapjhmdbaaDoorW21
import Derived.Test.YthmlibapjhmdbaaDoorW22
namespace Go.Proofs.YthmlibapjhmdbaaDoor
open Go.RowKit Go.Shelf

/-- A callee tells v, and leaves what was there. -/
def Rv (V : World) (v : Value) (e : Ending) (w' : World) : Prop := e = .returned v ∧ Below V.heap.size V w'
theorem box27 {w w' : World} {m : List Nat} (h : Hid (w' = (w.alloc (.cells #[.int .u64 0, .int .u64 0, .int .u64 0, .int .u64 0] 27)).setRow w.heap.size (vs .u64 m))) : Row .u64 27 w' w.heap.size m ∧ Below w.heap.size w w' :=
  ⟨(Row.new w .u64 27 Mk.zero _ rfl).hidSet h, below_hidSet ((Below.refl _ w).alloc (Nat.le_refl _) _) h (Nat.le_refl _)⟩
theorem cells4 {w : World} {g : Nat} {m : List Nat} {a b c d : Nat} (r : Row .u64 27 w g m) (e : m = [a, b, c, d]) : w.cell? ⟨g, 0, none⟩ = some (.int .u64 a) ∧ w.cell? ⟨g, 1, none⟩ = some (.int .u64 b) ∧ w.cell? ⟨g, 2, none⟩ = some (.int .u64 c) ∧ w.cell? ⟨g, 3, none⟩ = some (.int .u64 d) := by
  subst e
  exact ⟨r.cell 0 (by simp), r.cell 1 (by simp), r.cell 2 (by simp), r.cell 3 (by simp)⟩
attribute [local go_sem] eq33
theorem eq_same {m : List Nat} (h : m.length = 4) (w : World) : (Op.equalIn 10000 27 (.agg (vs .u64 m)) (.agg (vs .u64 m))).run Tryd.prog w = .ok true w := by
  obtain ⟨a, b, c, d, rfl⟩ : ∃ a b c d : Nat, m = [a, b, c, d] := ⟨_, _, _, _, Mk.len4 h⟩
  refine (eq33 a b c d a b c d w).trans ?_
  simp

set_option maxRecDepth 100000 in
set_option maxHeartbeats 4000000 in
theorem live_walk (m l a d z : List Nat) (m0 m1 m2 m3 l0 l1 l2 l3 a0 a1 a2 a3 : Nat) (w : World) (G : Glob w) (hm : Mk.W4 m) (hl : Mk.W4 l) (ha : Mk.W4 a) (hz : Mk.W4 z) (em : m = [m0, m1, m2, m3]) (el : l = [l0, l1, l2, l3]) (ea : a = [a0, a1, a2, a3])
    (KOf : ∀ V : World, Calls Tryd.prog 11 #[.slice (some ⟨V.heap.size, 0, none⟩) 4 4] (V.alloc (.cells #[.int .i64 5, .int .i64 1, .int .i64 2, .int .i64 255] 3)) (Rv (V.alloc (.cells #[.int .i64 5, .int .i64 1, .int .i64 2, .int .i64 255] 3)) (.tuple #[.agg (vs .u64 m), .int .i64 0])))
    (KO2 : ∀ V : World, Calls Tryd.prog 11 #[.slice (some ⟨V.heap.size, 0, none⟩) 2 2] (V.alloc (.cells #[.int .i64 1, .int .i64 1] 3)) (Rv (V.alloc (.cells #[.int .i64 1, .int .i64 1] 3)) (.tuple #[.agg (vs .u64 z), .int .i64 1])))
    (KP : ∀ V : World, Glob V → Calls Tryd.prog 30 #[.string ⟨#[49, 45, 50, 44, 53, 44, 50, 53, 53]⟩] V (Rv V (.tuple #[.agg (vs .u64 m), .int .i64 0])))
    (KP2 : ∀ V : World, Glob V → Calls Tryd.prog 30 #[.string ⟨#[49, 44, 50]⟩] V (Rv V (.tuple #[.agg (vs .u64 z), .int .i64 5])))
    (KL2 : ∀ V : World, Glob V → Calls Tryd.prog 22 #[.agg (vs .u64 m), .int .i64 2] V (Rv V (.tuple #[.agg (vs .u64 l), .int .i64 0])))
    (KL5 : ∀ V : World, Glob V → Calls Tryd.prog 22 #[.agg (vs .u64 m), .int .i64 5] V (Rv V (.tuple #[.agg (vs .u64 z), .int .i64 12])))
    (KA : ∀ V : World, Calls Tryd.prog 13 #[.int .i64 256] V (Rv V (.tuple #[.agg (vs .u64 a), .int .i64 0])))
    (KT : ∀ V : World, Glob V → Calls Tryd.prog 32 #[.agg #[.int .u64 m0, .int .u64 m1, .int .u64 m2, .int .u64 m3]] V (Rv V (.string ⟨#[49, 45, 50, 44, 53, 44, 50, 53, 53]⟩)))
    (KTl : ∀ V : World, Glob V → Calls Tryd.prog 32 #[.agg #[.int .u64 l0, .int .u64 l1, .int .u64 l2, .int .u64 l3]] V (Rv V (.string ⟨#[49, 45, 50]⟩)))
    (KCa : ∀ V : World, Calls Tryd.prog 18 #[.agg #[.int .u64 a0, .int .u64 a1, .int .u64 a2, .int .u64 a3]] V (Rv V (.int .i64 256)))
    (KCm : ∀ V : World, Calls Tryd.prog 18 #[.agg #[.int .u64 m0, .int .u64 m1, .int .u64 m2, .int .u64 m3]] V (Rv V (.int .i64 4)))
    (KCd : ∀ V : World, Calls Tryd.prog 18 #[.agg (vs .u64 d)] V (Rv V (.int .i64 252)))
    (KH1 : ∀ V : World, Calls Tryd.prog 19 #[.agg #[.int .u64 m0, .int .u64 m1, .int .u64 m2, .int .u64 m3], .int .i64 255] V (Rv V (.bool true)))
    (KH0 : ∀ V : World, Calls Tryd.prog 19 #[.agg #[.int .u64 m0, .int .u64 m1, .int .u64 m2, .int .u64 m3], .int .i64 0] V (Rv V (.bool false)))
    (KHn : ∀ V : World, Calls Tryd.prog 19 #[.agg #[.int .u64 m0, .int .u64 m1, .int .u64 m2, .int .u64 m3], .int .i64 (-1)] V (Rv V (.bool false)))
    (KMi : ∀ V : World, Calls Tryd.prog 28 #[.agg #[.int .u64 a0, .int .u64 a1, .int .u64 a2, .int .u64 a3], .agg #[.int .u64 m0, .int .u64 m1, .int .u64 m2, .int .u64 m3]] V (Rv V (.agg (vs .u64 d))))
    (KLi : ∀ V : World, Glob V → Calls Tryd.prog 17 #[.agg #[.int .u64 m0, .int .u64 m1, .int .u64 m2, .int .u64 m3]] V (fun e w' => ∃ X ca, e = .returned (.slice X 4 ca) ∧ NatsAt w' w'.heap.size X [1, 2, 5, 255] ∧ Below V.heap.size V w')) :
    Calls Tryd.prog 9 #[] w fun e w' => e = .returned (.bool true) ∧ Below w.heap.size w w' := by
  have HKOf := Lib.hid KOf
  have HKO2 := Lib.hid KO2
  have HKP := Lib.hid KP
  have HKP2 := Lib.hid KP2
  have HKL2 := Lib.hid KL2
  have HKL5 := Lib.hid KL5
  have HKA := Lib.hid KA
  have HKT := Lib.hid KT
  have HKTl := Lib.hid KTl
  have HKCa := Lib.hid KCa
  have HKCm := Lib.hid KCm
  have HKCd := Lib.hid KCd
  have HKH1 := Lib.hid KH1
  have HKH0 := Lib.hid KH0
  have HKHn := Lib.hid KHn
  have HKMi := Lib.hid KMi
  have HKLi := Lib.hid KLi
  clear KOf KO2 KP KP2 KL2 KL5 KA KT KTl KCa KCm KCd KH1 KH0 KHn KMi KLi
  have zm := Lib.hid (info33' hm)
  have zl := Lib.hid (info33' hl)
  have za := Lib.hid (info33' ha)
  have zz := Lib.hid (info33' hz)
  have lm := Lib.hid (zero_len hm)
  have ll := Lib.hid (zero_len hl)
  have la := Lib.hid (zero_len ha)
  have lz := Lib.hid (zero_len hz)
  replace em := Lib.hid em
  replace el := Lib.hid el
  replace ea := Lib.hid ea
  clear hm hl ha hz
  have hb0 := Below.refl w.heap.size w
  go_enter Tryd.func9, Tryd.ntmps9
  go_wp2_with fail
  have hx : Below w.heap.size w (w.alloc (.cells #[.int .i64 5, .int .i64 1, .int .i64 2, .int .i64 255] 3)) := (Below.refl _ _).alloc (Nat.le_refl _) _
  replace G := G.next hx; replace hb0 := bmore hb0 hx; clear hx
  refine (HKOf.out w).mono ?_
  rintro e w1 ⟨rfl, hb⟩
  replace G := G.next hb; replace hb0 := bmore hb0 hb; clear hb
  go_wp2_with (first | (refine store_law rfl 27 _ _ rfl w1.heap.size .u64 Mk.zero m rfl rfl 27 (Row.new w1 .u64 27 Mk.zero _ rfl) lm.out zm.out ?_; intro w2 hw; obtain ⟨r1, hx⟩ := box27 hw; clear hw; replace G := G.next hx; replace hb0 := bmore hb0 hx; clear hx) | (refine load_w rfl 27 _ rfl w1.heap.size .u64 m rfl 27 _ r1 Tryd.underlying27 rfl zm.out ?_))
  refine (HKP.out _ G).mono ?_
  rintro e w3 ⟨rfl, hb⟩
  replace r1 := r1.next hb; replace G := G.next hb; replace hb0 := bmore hb0 hb; clear hb
  go_wp2_with (first | (refine store_law rfl 27 _ _ rfl w3.heap.size .u64 Mk.zero m rfl rfl 27 (Row.new w3 .u64 27 Mk.zero _ rfl) lm.out zm.out ?_; intro w4 hw; obtain ⟨r3, hx⟩ := box27 hw; clear hw; replace r1 := r1.next hx; replace G := G.next hx; replace hb0 := bmore hb0 hx; clear hx) | (refine load_w rfl 27 _ rfl w1.heap.size .u64 m rfl 27 _ r1 Tryd.underlying27 rfl zm.out ?_) | (refine load_w rfl 27 _ rfl w3.heap.size .u64 m rfl 27 _ r3 Tryd.underlying27 rfl zm.out ?_))
  refine (HKP2.out _ G).mono ?_
  rintro e w5 ⟨rfl, hb⟩
  replace r1 := r1.next hb; replace r3 := r3.next hb; replace G := G.next hb; replace hb0 := bmore hb0 hb; clear hb
  go_wp2_with (first | (refine store_law rfl 27 _ _ rfl w5.heap.size .u64 Mk.zero z rfl rfl 27 (Row.new w5 .u64 27 Mk.zero _ rfl) lz.out zz.out ?_; intro w6 hw; obtain ⟨rq, hx⟩ := box27 hw; clear hw; replace r1 := r1.next hx; replace r3 := r3.next hx; replace G := G.next hx; replace hb0 := bmore hb0 hx; clear hx; clear rq) | (refine load_w rfl 27 _ rfl w1.heap.size .u64 m rfl 27 _ r1 Tryd.underlying27 rfl zm.out ?_) | (refine load_w rfl 27 _ rfl w3.heap.size .u64 m rfl 27 _ r3 Tryd.underlying27 rfl zm.out ?_))
  have hx : Below w6.heap.size w6 (w6.alloc (.cells #[.int .i64 1, .int .i64 1] 3)) := (Below.refl _ _).alloc (Nat.le_refl _) _
  replace r1 := r1.next hx; replace r3 := r3.next hx; replace G := G.next hx; replace hb0 := bmore hb0 hx; clear hx
  refine (HKO2.out w6).mono ?_
  rintro e w7 ⟨rfl, hb⟩
  replace r1 := r1.next hb; replace r3 := r3.next hb; replace G := G.next hb; replace hb0 := bmore hb0 hb; clear hb
  go_wp2_with (first | (refine store_law rfl 27 _ _ rfl w7.heap.size .u64 Mk.zero z rfl rfl 27 (Row.new w7 .u64 27 Mk.zero _ rfl) lz.out zz.out ?_; intro w8 hw; obtain ⟨rq, hx⟩ := box27 hw; clear hw; replace r1 := r1.next hx; replace r3 := r3.next hx; replace G := G.next hx; replace hb0 := bmore hb0 hx; clear hx; clear rq) | (refine load_w rfl 27 _ rfl w1.heap.size .u64 m rfl 27 _ r1 Tryd.underlying27 rfl zm.out ?_) | (refine load_w rfl 27 _ rfl w3.heap.size .u64 m rfl 27 _ r3 Tryd.underlying27 rfl zm.out ?_))
  refine (HKL2.out _ G).mono ?_
  rintro e w9 ⟨rfl, hb⟩
  replace r1 := r1.next hb; replace r3 := r3.next hb; replace G := G.next hb; replace hb0 := bmore hb0 hb; clear hb
  go_wp2_with (first | (refine store_law rfl 27 _ _ rfl w9.heap.size .u64 Mk.zero l rfl rfl 27 (Row.new w9 .u64 27 Mk.zero _ rfl) ll.out zl.out ?_; intro w10 hw; obtain ⟨r9, hx⟩ := box27 hw; clear hw; replace r1 := r1.next hx; replace r3 := r3.next hx; replace G := G.next hx; replace hb0 := bmore hb0 hx; clear hx) | (refine load_w rfl 27 _ rfl w1.heap.size .u64 m rfl 27 _ r1 Tryd.underlying27 rfl zm.out ?_) | (refine load_w rfl 27 _ rfl w3.heap.size .u64 m rfl 27 _ r3 Tryd.underlying27 rfl zm.out ?_) | (refine load_w rfl 27 _ rfl w9.heap.size .u64 l rfl 27 _ r9 Tryd.underlying27 rfl zl.out ?_))
  refine (HKL5.out _ G).mono ?_
  rintro e w11 ⟨rfl, hb⟩
  replace r1 := r1.next hb; replace r3 := r3.next hb; replace r9 := r9.next hb; replace G := G.next hb; replace hb0 := bmore hb0 hb; clear hb
  go_wp2_with (first | (refine store_law rfl 27 _ _ rfl w11.heap.size .u64 Mk.zero z rfl rfl 27 (Row.new w11 .u64 27 Mk.zero _ rfl) lz.out zz.out ?_; intro w12 hw; obtain ⟨rq, hx⟩ := box27 hw; clear hw; replace r1 := r1.next hx; replace r3 := r3.next hx; replace r9 := r9.next hx; replace G := G.next hx; replace hb0 := bmore hb0 hx; clear hx; clear rq) | (refine load_w rfl 27 _ rfl w1.heap.size .u64 m rfl 27 _ r1 Tryd.underlying27 rfl zm.out ?_) | (refine load_w rfl 27 _ rfl w3.heap.size .u64 m rfl 27 _ r3 Tryd.underlying27 rfl zm.out ?_) | (refine load_w rfl 27 _ rfl w9.heap.size .u64 l rfl 27 _ r9 Tryd.underlying27 rfl zl.out ?_))
  refine (HKA.out _).mono ?_
  rintro e w13 ⟨rfl, hb⟩
  replace r1 := r1.next hb; replace r3 := r3.next hb; replace r9 := r9.next hb; replace G := G.next hb; replace hb0 := bmore hb0 hb; clear hb
  go_wp2_with (first | (refine store_law rfl 27 _ _ rfl w13.heap.size .u64 Mk.zero a rfl rfl 27 (Row.new w13 .u64 27 Mk.zero _ rfl) la.out za.out ?_; intro w14 hw; obtain ⟨r13, hx⟩ := box27 hw; clear hw; replace r1 := r1.next hx; replace r3 := r3.next hx; replace r9 := r9.next hx; replace G := G.next hx; replace hb0 := bmore hb0 hx; clear hx; obtain ⟨r1a, r1b, r1c, r1d⟩ := cells4 r1 em.out) | (refine load_w rfl 27 _ rfl w1.heap.size .u64 m rfl 27 _ r1 Tryd.underlying27 rfl zm.out ?_) | (refine load_w rfl 27 _ rfl w3.heap.size .u64 m rfl 27 _ r3 Tryd.underlying27 rfl zm.out ?_) | (refine load_w rfl 27 _ rfl w9.heap.size .u64 l rfl 27 _ r9 Tryd.underlying27 rfl zl.out ?_) | (refine load_w rfl 27 _ rfl w13.heap.size .u64 a rfl 27 _ r13 Tryd.underlying27 rfl za.out ?_))
  clear r1a r1b r1c r1d
  refine (HKT.out _ G).mono ?_
  rintro e w15 ⟨rfl, hb⟩
  replace r1 := r1.next hb; replace r3 := r3.next hb; replace r9 := r9.next hb; replace r13 := r13.next hb; replace G := G.next hb; replace hb0 := bmore hb0 hb; clear hb
  obtain ⟨r1a, r1b, r1c, r1d⟩ := cells4 r1 em.out; obtain ⟨r3a, r3b, r3c, r3d⟩ := cells4 r3 em.out; obtain ⟨r9a, r9b, r9c, r9d⟩ := cells4 r9 el.out
  go_wp2_with fail
  clear r1a r1b r1c r1d r3a r3b r3c r3d r9a r9b r9c r9d
  refine (HKTl.out _ G).mono ?_
  rintro e w16 ⟨rfl, hb⟩
  replace r1 := r1.next hb; replace r3 := r3.next hb; replace r9 := r9.next hb; replace r13 := r13.next hb; replace G := G.next hb; replace hb0 := bmore hb0 hb; clear hb
  obtain ⟨r13a, r13b, r13c, r13d⟩ := cells4 r13 ea.out
  go_wp2_with fail
  clear r13a r13b r13c r13d
  refine (HKCa.out _).mono ?_
  rintro e w17 ⟨rfl, hb⟩
  replace r1 := r1.next hb; replace r3 := r3.next hb; replace r9 := r9.next hb; replace r13 := r13.next hb; replace G := G.next hb; replace hb0 := bmore hb0 hb; clear hb
  obtain ⟨r1a, r1b, r1c, r1d⟩ := cells4 r1 em.out
  go_wp2_with fail
  clear r1a r1b r1c r1d
  refine (HKH1.out _).mono ?_
  rintro e w18 ⟨rfl, hb⟩
  replace r1 := r1.next hb; replace r3 := r3.next hb; replace r9 := r9.next hb; replace r13 := r13.next hb; replace G := G.next hb; replace hb0 := bmore hb0 hb; clear hb
  obtain ⟨r1a, r1b, r1c, r1d⟩ := cells4 r1 em.out
  go_wp2_with fail
  clear r1a r1b r1c r1d
  refine (HKH0.out _).mono ?_
  rintro e w19 ⟨rfl, hb⟩
  replace r1 := r1.next hb; replace r3 := r3.next hb; replace r9 := r9.next hb; replace r13 := r13.next hb; replace G := G.next hb; replace hb0 := bmore hb0 hb; clear hb
  obtain ⟨r1a, r1b, r1c, r1d⟩ := cells4 r1 em.out
  go_wp2_with fail
  clear r1a r1b r1c r1d
  refine (HKHn.out _).mono ?_
  rintro e w20 ⟨rfl, hb⟩
  replace r1 := r1.next hb; replace r3 := r3.next hb; replace r9 := r9.next hb; replace r13 := r13.next hb; replace G := G.next hb; replace hb0 := bmore hb0 hb; clear hb
  obtain ⟨r1a, r1b, r1c, r1d⟩ := cells4 r1 em.out
  go_wp2_with fail
  clear r1a r1b r1c r1d
  refine (HKCm.out _).mono ?_
  rintro e w21 ⟨rfl, hb⟩
  replace r1 := r1.next hb; replace r3 := r3.next hb; replace r9 := r9.next hb; replace r13 := r13.next hb; replace G := G.next hb; replace hb0 := bmore hb0 hb; clear hb
  obtain ⟨r1a, r1b, r1c, r1d⟩ := cells4 r1 em.out; obtain ⟨r13a, r13b, r13c, r13d⟩ := cells4 r13 ea.out
  go_wp2_with fail
  clear r1a r1b r1c r1d r13a r13b r13c r13d
  refine (HKMi.out _).mono ?_
  rintro e w22 ⟨rfl, hb⟩
  replace r1 := r1.next hb; replace r3 := r3.next hb; replace r9 := r9.next hb; replace r13 := r13.next hb; replace G := G.next hb; replace hb0 := bmore hb0 hb; clear hb
  go_wp2_with fail
  refine (HKCd.out _).mono ?_
  rintro e w23 ⟨rfl, hb⟩
  replace r1 := r1.next hb; replace r3 := r3.next hb; replace r9 := r9.next hb; replace r13 := r13.next hb; replace G := G.next hb; replace hb0 := bmore hb0 hb; clear hb
  obtain ⟨r1a, r1b, r1c, r1d⟩ := cells4 r1 em.out
  go_wp2_with fail
  clear r1a r1b r1c r1d
  refine (HKLi.out _ G).mono ?_
  rintro e w40 ⟨X, ca, rfl, hA, hb⟩
  replace hb0 := bmore hb0 hb
  clear hb G r1 r3 r9 r13
  go_wp2_with fail
  have hL : NatsAt (w40.alloc (.cells #[.int .i64 1, .int .i64 2, .int .i64 5, .int .i64 255] 3)) (w40.alloc (.cells #[.int .i64 1, .int .i64 2, .int .i64 5, .int .i64 255] 3)).heap.size (some ⟨w40.heap.size, 0, none⟩) [1, 2, 5, 255] := by
    refine .inr ⟨_, rfl, by simp, fun j hj => ?_⟩
    have hk := Bk.new w40 3 #[.int .i64 1, .int .i64 2, .int .i64 5, .int .i64 255]
    have hadd : (⟨w40.heap.size, 0, none⟩ : Addr).add j = ⟨w40.heap.size, j, none⟩ := by unfold Addr.add; split <;> simp_all
    rw [hadd]
    match j, hj with
    | 0, _ => exact hk.cell 0 _ rfl
    | 1, _ => exact hk.cell 1 _ rfl
    | 2, _ => exact hk.cell 2 _ rfl
    | 3, _ => exact hk.cell 3 _ rfl
  have h34 : Below w40.heap.size w40 (w40.alloc (.cells #[.int .i64 1, .int .i64 2, .int .i64 5, .int .i64 255] 3)) := (Below.refl _ _).alloc (Nat.le_refl _) _
  refine (same_eq X _ ca 4 4 [1, 2, 5, 255] _ ((hA.below h34).more h34.size) hL rfl (by omega)).mono ?_
  rintro e w41 ⟨rfl, hb4⟩
  replace hb0 := bmore (bmore hb0 h34) hb4
  clear hb4 hA hL h34
  go_wp2_with fail
  go_ret
  exact ⟨rfl, hb0⟩
end Go.Proofs.YthmlibapjhmdbaaDoor
