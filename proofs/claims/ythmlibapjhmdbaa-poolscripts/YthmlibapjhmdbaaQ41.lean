/- A call on both pools, walked. -/
import Derived.Test.YthmlibapjhmdbaaQ40
namespace Go.Proofs.Ythmlibapjhmdbaa
open Go.RowKit Go.Shelf Go.Maps

section
variable {w V : World} {p b k s q r nb : Nat} {g : Int → Option Sh} {L : List Int} {va vb : Value} {Ow Dn : List Int}
theorem RTk.bk {W' : World} {B : Nat} {cs : Array Value} {n : Int} {m : List Nat} {V' : World} (h : RTk w V' W' p b k s q g L r nb va vb Ow Dn B cs n m) : Bk W' B 39 cs := by
  obtain ⟨_, _, _, _, _, _, h, _⟩ := h
  exact h.bk
theorem RCm.bk {W' : World} {B : Nat} {cs : Array Value} {n : Int} {V' : World} (h : RCm w V' W' p b k s q g L r nb va vb Ow Dn B cs n) : Bk W' B 39 cs := by
  obtain ⟨_, _, _, _, _, _, h, _⟩ := h
  exact h.bk
theorem RRl.bk {W' : World} {B : Nat} {cs : Array Value} {n : Int} {V' : World} (h : RRl w V' W' p b k s q g L r nb va vb Ow Dn B cs n) : Bk W' B 39 cs := by
  obtain ⟨_, _, _, _, _, _, h, _⟩ := h
  exact h.bk
set_option maxRecDepth 100000 in
set_option maxHeartbeats 8000000 in
theorem does_take (h : Two w V p b k s q g L r nb va vb Ow Dn) (ha : Agr (s * q) g Ow Dn) (hL : LOk s q) (hk : k ≤ 900) (hd : nb ≤ 900) {n : Int} (hn : (Lit.int .i64 n).wf = true) (f0 f1 f2 f3 m0 m1 m2 m3 : Nat) (rr pe ds : Int) (hw : Mk.W4 [m0, m1, m2, m3]) :
    Calls Try.prog 12 #[.pointer (some ⟨p, 0, none⟩), .pointer (some ⟨r, 0, none⟩), .agg #[.int .i64 1, .int .i64 n, .int .u64 f0, .int .u64 f1, .int .u64 f2, .int .u64 f3, .int .i64 rr, .int .i64 pe, .int .i64 ds, .int .u64 m0, .int .u64 m1, .int .u64 m2, .int .u64 m3]] V (Dos w V p b k s q g r nb va vb n 1) := by
  have hb := (Below.refl V.heap.size V).alloc (Nat.le_refl _) (.cells #[.int .i64 1, .int .i64 n, .int .u64 f0, .int .u64 f1, .int .u64 f2, .int .u64 f3, .int .i64 rr, .int .i64 pe, .int .i64 ds, .int .u64 m0, .int .u64 m1, .int .u64 m2, .int .u64 m3] 39)
  have kb := Bk.new V 39 #[.int .i64 1, .int .i64 n, .int .u64 f0, .int .u64 f1, .int .u64 f2, .int .u64 f3, .int .i64 rr, .int .i64 pe, .int .i64 ds, .int .u64 m0, .int .u64 m1, .int .u64 m2, .int .u64 m3]
  have hx := Lib.hid (show ¬ PX b r va vb V.heap.size from fun e => by have := h.lt _ e; omega)
  have KM := Lib.hid (fun W hW => Md.start (h.next hb) kb (W := W) hW)
  have HB := Lib.hid hb
  have HA := Lib.hid ha
  have HL := Lib.hid hL
  have HN := Lib.hid hn
  have HW := Lib.hid hw
  clear h ha hL hn hb hw
  have c0 := kb.cell 0 _ rfl
  have c1 := kb.cell 1 _ rfl
  have c9 := kb.cell 9 _ rfl
  have c10 := kb.cell 10 _ rfl
  have c11 := kb.cell 11 _ rfl
  have c12 := kb.cell 12 _ rfl
  clear kb
  go_enter Try.func12, Try.ntmps12
  go_wp2
  have HM := Lib.hid (KM.out _ (Below.refl _ _).drew)
  have HM0 := Lib.hid (KM.out _ (Below.refl _ _))
  go_region_held3 (fun W => W.cell? ⟨V.heap.size, 1, none⟩ = some (.int .i64 n) ∧ W.cell? ⟨V.heap.size, 9, none⟩ = some (.int .u64 m0) ∧ W.cell? ⟨V.heap.size, 10, none⟩ = some (.int .u64 m1) ∧ W.cell? ⟨V.heap.size, 11, none⟩ = some (.int .u64 m2) ∧ W.cell? ⟨V.heap.size, 12, none⟩ = some (.int .u64 m3))
    (first | exact ⟨c1, c9, c10, c11, c12⟩)
    (first
      | (go_at_call 27; (with_reducible refine ((by first | exact HM.out.take hx.out HL.out hk HN.out m0 m1 m2 m3 HW.out | exact HM0.out.take hx.out HL.out hk HN.out m0 m1 m2 m3 HW.out : Calls Try.prog 27 _ _ _)).mono ?_); rintro _ w2 ⟨rfl, k', g', L', hk', hM, h1⟩; have kb2 := hM.bk; have d1 := kb2.cell 1 _ rfl; have d9 := kb2.cell 9 _ rfl; have d10 := kb2.cell 10 _ rfl; have d11 := kb2.cell 11 _ rfl; have d12 := kb2.cell 12 _ rfl; replace c1 := d1; replace c9 := d9; replace c10 := d10; replace c11 := d11; replace c12 := d12; clear d1 d9 d10 d11 d12; clear kb2)
      | (go_at_call 34; (with_reducible refine (hM.rtake hx.out HL.out hd n m0 m1 m2 m3 HW.out).mono ?_); rintro _ w3 ⟨rfl, h2⟩; have kb2 := h2.bk; have d1 := kb2.cell 1 _ rfl; have d9 := kb2.cell 9 _ rfl; have d10 := kb2.cell 10 _ rfl; have d11 := kb2.cell 11 _ rfl; have d12 := kb2.cell 12 _ rfl; replace c1 := d1; replace c9 := d9; replace c10 := d10; replace c11 := d11; replace c12 := d12; clear d1 d9 d10 d11 d12; clear kb2))
  all_goals
    clear c0 c1 c9 c10 c11 c12
    go_wp2
    go_ret
    exact dos_take HB.out HA.out HL.out hk' h1 h2 (by first | rfl | simp)
set_option maxRecDepth 100000 in
set_option maxHeartbeats 8000000 in
theorem does_commit (h : Two w V p b k s q g L r nb va vb Ow Dn) (ha : Agr (s * q) g Ow Dn) (hL : LOk s q) (hk : k ≤ 900) (hd : nb ≤ 900) {n : Int} (hn : (Lit.int .i64 n).wf = true) (f0 f1 f2 f3 m0 m1 m2 m3 : Nat) (rr pe ds : Int) :
    Calls Try.prog 12 #[.pointer (some ⟨p, 0, none⟩), .pointer (some ⟨r, 0, none⟩), .agg #[.int .i64 2, .int .i64 n, .int .u64 f0, .int .u64 f1, .int .u64 f2, .int .u64 f3, .int .i64 rr, .int .i64 pe, .int .i64 ds, .int .u64 m0, .int .u64 m1, .int .u64 m2, .int .u64 m3]] V (Dos w V p b k s q g r nb va vb n 2) := by
  have hb := (Below.refl V.heap.size V).alloc (Nat.le_refl _) (.cells #[.int .i64 2, .int .i64 n, .int .u64 f0, .int .u64 f1, .int .u64 f2, .int .u64 f3, .int .i64 rr, .int .i64 pe, .int .i64 ds, .int .u64 m0, .int .u64 m1, .int .u64 m2, .int .u64 m3] 39)
  have kb := Bk.new V 39 #[.int .i64 2, .int .i64 n, .int .u64 f0, .int .u64 f1, .int .u64 f2, .int .u64 f3, .int .i64 rr, .int .i64 pe, .int .i64 ds, .int .u64 m0, .int .u64 m1, .int .u64 m2, .int .u64 m3]
  have hx := Lib.hid (show ¬ PX b r va vb V.heap.size from fun e => by have := h.lt _ e; omega)
  have KM := Lib.hid (fun W hW => Md.start (h.next hb) kb (W := W) hW)
  have HB := Lib.hid hb
  have HA := Lib.hid ha
  have HL := Lib.hid hL
  have HN := Lib.hid hn
  clear h ha hL hn hb
  have c0 := kb.cell 0 _ rfl
  have c1 := kb.cell 1 _ rfl
  clear kb
  go_enter Try.func12, Try.ntmps12
  go_wp2
  have HM := Lib.hid (KM.out _ (Below.refl _ _).drew)
  have HM0 := Lib.hid (KM.out _ (Below.refl _ _))
  go_region_held3 (fun W => W.cell? ⟨V.heap.size, 1, none⟩ = some (.int .i64 n))
    (first | exact c1)
    (first
      | (go_at_call 28; (with_reducible refine ((by first | exact HM.out.commit hx.out hk HN.out | exact HM0.out.commit hx.out hk HN.out : Calls Try.prog 28 _ _ _)).mono ?_); rintro _ w2 ⟨rfl, k', g', L', hk', hM, h1⟩; have kb2 := hM.bk; have d1 := kb2.cell 1 _ rfl; replace c1 := d1; clear d1; clear kb2)
      | (go_at_call 35; (with_reducible refine (hM.rcommit hx.out HL.out hd n).mono ?_); rintro _ w3 ⟨rfl, h2⟩; have kb2 := h2.bk; have d1 := kb2.cell 1 _ rfl; replace c1 := d1; clear d1; clear kb2))
  all_goals
    clear c0 c1
    go_wp2
    go_ret
    exact dos_commit HB.out HA.out HL.out hk' h1 h2 (by first | rfl | simp)
set_option maxRecDepth 100000 in
set_option maxHeartbeats 8000000 in
theorem does_release (h : Two w V p b k s q g L r nb va vb Ow Dn) (ha : Agr (s * q) g Ow Dn) (hL : LOk s q) (hd : nb ≤ 900) {n : Int} (hn : (Lit.int .i64 n).wf = true) (f0 f1 f2 f3 m0 m1 m2 m3 : Nat) (rr pe ds : Int) :
    Calls Try.prog 12 #[.pointer (some ⟨p, 0, none⟩), .pointer (some ⟨r, 0, none⟩), .agg #[.int .i64 3, .int .i64 n, .int .u64 f0, .int .u64 f1, .int .u64 f2, .int .u64 f3, .int .i64 rr, .int .i64 pe, .int .i64 ds, .int .u64 m0, .int .u64 m1, .int .u64 m2, .int .u64 m3]] V (Dos w V p b k s q g r nb va vb n 3) := by
  have hb := (Below.refl V.heap.size V).alloc (Nat.le_refl _) (.cells #[.int .i64 3, .int .i64 n, .int .u64 f0, .int .u64 f1, .int .u64 f2, .int .u64 f3, .int .i64 rr, .int .i64 pe, .int .i64 ds, .int .u64 m0, .int .u64 m1, .int .u64 m2, .int .u64 m3] 39)
  have kb := Bk.new V 39 #[.int .i64 3, .int .i64 n, .int .u64 f0, .int .u64 f1, .int .u64 f2, .int .u64 f3, .int .i64 rr, .int .i64 pe, .int .i64 ds, .int .u64 m0, .int .u64 m1, .int .u64 m2, .int .u64 m3]
  have hx := Lib.hid (show ¬ PX b r va vb V.heap.size from fun e => by have := h.lt _ e; omega)
  have KM := Lib.hid (fun W hW => Md.start (h.next hb) kb (W := W) hW)
  have HB := Lib.hid hb
  have HA := Lib.hid ha
  have HL := Lib.hid hL
  have HN := Lib.hid hn
  clear h ha hL hn hb
  have c0 := kb.cell 0 _ rfl
  have c1 := kb.cell 1 _ rfl
  clear kb
  go_enter Try.func12, Try.ntmps12
  go_wp2
  have HM := Lib.hid (KM.out _ (Below.refl _ _).drew)
  have HM0 := Lib.hid (KM.out _ (Below.refl _ _))
  go_region_held3 (fun W => W.cell? ⟨V.heap.size, 1, none⟩ = some (.int .i64 n))
    (first | exact c1)
    (first
      | (go_at_call 25; (with_reducible refine ((by first | exact HM.out.release hx.out HN.out | exact HM0.out.release hx.out HN.out : Calls Try.prog 25 _ _ _)).mono ?_); rintro _ w2 ⟨rfl, k', g', L', hk', hM, h1⟩; have kb2 := hM.bk; have d1 := kb2.cell 1 _ rfl; replace c1 := d1; clear d1; clear kb2)
      | (go_at_call 36; (with_reducible refine (hM.rrelease hx.out HL.out hd n).mono ?_); rintro _ w3 ⟨rfl, h2⟩; have kb2 := h2.bk; have d1 := kb2.cell 1 _ rfl; replace c1 := d1; clear d1; clear kb2))
  all_goals
    clear c0 c1
    go_wp2
    go_ret
    exact dos_release HB.out HA.out HL.out hk' h1 h2 (by first | rfl | simp)
set_option maxRecDepth 100000 in
set_option maxHeartbeats 8000000 in
theorem does_reserve (h : Two w V p b k s q g L r nb va vb Ow Dn) (ha : Agr (s * q) g Ow Dn) (hL : LOk s q) (hk : k ≤ 900) {n : Int} (hn : (Lit.int .i64 n).wf = true) (f0 f1 f2 f3 m0 m1 m2 m3 : Nat) (rr pe ds : Int) :
    Calls Try.prog 12 #[.pointer (some ⟨p, 0, none⟩), .pointer (some ⟨r, 0, none⟩), .agg #[.int .i64 0, .int .i64 n, .int .u64 f0, .int .u64 f1, .int .u64 f2, .int .u64 f3, .int .i64 rr, .int .i64 pe, .int .i64 ds, .int .u64 m0, .int .u64 m1, .int .u64 m2, .int .u64 m3]] V (Dos w V p b k s q g r nb va vb n 0) := by
  have hb := (Below.refl V.heap.size V).alloc (Nat.le_refl _) (.cells #[.int .i64 0, .int .i64 n, .int .u64 f0, .int .u64 f1, .int .u64 f2, .int .u64 f3, .int .i64 rr, .int .i64 pe, .int .i64 ds, .int .u64 m0, .int .u64 m1, .int .u64 m2, .int .u64 m3] 39)
  have kb := Bk.new V 39 #[.int .i64 0, .int .i64 n, .int .u64 f0, .int .u64 f1, .int .u64 f2, .int .u64 f3, .int .i64 rr, .int .i64 pe, .int .i64 ds, .int .u64 m0, .int .u64 m1, .int .u64 m2, .int .u64 m3]
  have hx := Lib.hid (show ¬ PX b r va vb V.heap.size from fun e => by have := h.lt _ e; omega)
  have KM := Lib.hid (fun W hW => Md.start (h.next hb) kb (W := W) hW)
  have HB := Lib.hid hb
  have HA := Lib.hid ha
  have HL := Lib.hid hL
  have HN := Lib.hid hn
  clear h ha hL hn hb
  have HV := Lib.hid (fun W hW => (KM.out W hW).two.lt)
  have HQ := Lib.hid (show asM (Mk.ofL (hv Ow (-1) (s * q))) s q rr pe ds = rsM s q g rr pe ds from by unfold rsM; rw [HA.out.fr HL.out.2.2.2.2])
  have HR := Lib.hid (HA.out.rs HL.out.2.2.2.2 (s := s) (q := q) rfl n rr pe ds)
  have c0 := kb.cell 0 _ rfl
  have c1 := kb.cell 1 _ rfl
  have c2 := kb.cell 2 _ rfl
  have c3 := kb.cell 3 _ rfl
  have c4 := kb.cell 4 _ rfl
  have c5 := kb.cell 5 _ rfl
  have c6 := kb.cell 6 _ rfl
  have c7 := kb.cell 7 _ rfl
  have c8 := kb.cell 8 _ rfl
  have hb61 := (Below.refl _ (V.alloc (.cells #[.int .i64 0, .int .i64 n, .int .u64 f0, .int .u64 f1, .int .u64 f2, .int .u64 f3, .int .i64 rr, .int .i64 pe, .int .i64 ds, .int .u64 m0, .int .u64 m1, .int .u64 m2, .int .u64 m3] 39))).alloc (Nat.le_refl _) (.cells #[.int .u64 f0, .int .u64 f1, .int .u64 f2, .int .u64 f3, .int .i64 rr, .int .i64 pe, .int .i64 ds] 61)
  have HM := Lib.hid (KM.out _ hb61)
  have HI := Lib.hid (HV.out _ hb61)
  clear kb hb61 KM HV
  by_cases hE : rsE s q g n rr pe ds = 0
  · have K1 := Lib.hid (HM.out.res_ok hx.out HL.out hk HN.out f0 f1 f2 f3 rr pe ds hE)
    have HE := Lib.hid hE
    clear hE
    go_enter Try.func12, Try.ntmps12
    go_wp2_with fail
    refine K1.out.mono ?_
    rintro _ w2 ⟨gm, R, g', L', c, rfl, hgm, hM, hlen, hR1, hR32, hW4, hcm, hct, hG, hMd⟩
    have HGM := Lib.hid (show ¬ RX r va vb gm from fun e => by have := HI.out gm (.inr e); omega)
    have K2 := Lib.hid (hMd.rres_ok hx.out HL.out n f0 f1 f2 f3 rr pe ds (by rw [HR.out]; exact HE.out))
    rw [HQ.out] at K2
    have HF := Lib.hid (agr_res HA.out HL.out.2.2.2.2 hG hct hW4 hcm)
    have HG := Lib.hid hG
    have kb := hMd.bk
    clear c0 c1 c2 c3 c4 c5 c6 c7 c8 K1 HM HI hgm hW4 hcm hct hG hMd HE HR HQ
    obtain ⟨ms, hms⟩ : ∃ ms, ms = rsM s q g rr pe ds := ⟨_, rfl⟩
    rw [← hms] at K2 hM hlen HF
    clear hms
    have c1 := kb.cell 1 _ rfl
    have c2 := kb.cell 2 _ rfl
    have c3 := kb.cell 3 _ rfl
    have c4 := kb.cell 4 _ rfl
    have c5 := kb.cell 5 _ rfl
    have c6 := kb.cell 6 _ rfl
    have c7 := kb.cell 7 _ rfl
    have c8 := kb.cell 8 _ rfl
    clear kb
    go_wp2_with fail
    refine K2.out.mono ?_
    rintro _ w3 ⟨gm2, R2, cap2, rfl, hM2, hlen2, hTd, hEn⟩
    obtain rfl : R = R2 := hlen.symm.trans hlen2
    have K3 := Lib.hid (told_any (masks_td hM hTd HGM.out) hlen hR1 hR32 (cap := R))
    have HE2 := Lib.hid hEn
    have HM2 := Lib.hid hM2
    have HLN := Lib.hid hlen
    clear c1 c2 c3 c4 c5 c6 c7 c8 hM hM2 hTd hEn hlen hlen2 K2 HGM
    go_wp2_with fail
    refine K3.out.mono ?_
    rintro _ w4 ⟨gt, cap3, rfl, hM3, hb4⟩
    have K4 := Lib.hid (rSame_eq gt gm2 cap3 cap2 R ms w4 hM3 (HM2.out.next hb4) HLN.out hR32)
    have HE4 := Lib.hid (HE2.out.next hb4)
    clear hM3 hb4 K3 HE2 HM2
    go_wp2_with fail
    refine K4.out.mono ?_
    rintro _ w5 ⟨rfl, hb5⟩
    go_wp2_with fail
    go_ret
    exact Dos.of HB.out (HE4.out.next hb5) (Nat.le_refl _) (by omega) HF.out (fun _ => .inr ⟨c, HG.out.2.1, HG.out.2.2.1, HG.out.2.2.2.2⟩) (by first | rfl | simp)
  · have K1 := Lib.hid (HM.out.res_no HL.out hk HN.out f0 f1 f2 f3 rr pe ds hE)
    have HE := Lib.hid hE
    clear hE HI HQ
    go_enter Try.func12, Try.ntmps12
    go_wp2_with fail
    refine K1.out.mono ?_
    rintro _ w2 ⟨rfl, hMd⟩
    have K2 := Lib.hid (hMd.rres_no HL.out n f0 f1 f2 f3 rr pe ds (by rw [HR.out]; exact HE.out))
    rw [HR.out] at K2
    have kb := hMd.bk
    clear c0 c1 c2 c3 c4 c5 c6 c7 c8 K1 HM hMd HE HR
    generalize rsE s q g n rr pe ds = er at *
    have c1 := kb.cell 1 _ rfl
    have c2 := kb.cell 2 _ rfl
    have c3 := kb.cell 3 _ rfl
    have c4 := kb.cell 4 _ rfl
    have c5 := kb.cell 5 _ rfl
    have c6 := kb.cell 6 _ rfl
    have c7 := kb.cell 7 _ rfl
    have c8 := kb.cell 8 _ rfl
    clear kb
    go_wp2_with fail
    refine K2.out.mono ?_
    rintro _ w3 ⟨rfl, hEn⟩
    have HE2 := Lib.hid hEn
    clear c1 c2 c3 c4 c5 c6 c7 c8 hEn K2
    go_wp2_with fail
    refine (told_nil _).mono ?_
    rintro _ w4 ⟨rfl, rfl⟩
    go_wp2_with fail
    refine (rSame_nil _).mono ?_
    rintro _ w5 ⟨rfl, hb5⟩
    go_wp2_with fail
    go_ret
    exact Dos.of HB.out (HE2.out.next hb5) (by omega) (by omega) HA.out (fun _ => .inl rfl) (by first | rfl | simp)
set_option maxRecDepth 100000 in
set_option maxHeartbeats 8000000 in
theorem does_other (h : Two w V p b k s q g L r nb va vb Ow Dn) (ha : Agr (s * q) g Ow Dn) (hL : LOk s q) {n : Int} (hn : (Lit.int .i64 n).wf = true) (f0 f1 f2 f3 m0 m1 m2 m3 : Nat) (rr pe ds od : Int) (h0 : ¬ od = 0) (h1 : ¬ od = 1) (h2 : ¬ od = 2) (h3 : ¬ od = 3) :
    Calls Try.prog 12 #[.pointer (some ⟨p, 0, none⟩), .pointer (some ⟨r, 0, none⟩), .agg #[.int .i64 od, .int .i64 n, .int .u64 f0, .int .u64 f1, .int .u64 f2, .int .u64 f3, .int .i64 rr, .int .i64 pe, .int .i64 ds, .int .u64 m0, .int .u64 m1, .int .u64 m2, .int .u64 m3]] V (Dos w V p b k s q g r nb va vb n od) := by
  have hb := (Below.refl V.heap.size V).alloc (Nat.le_refl _) (.cells #[.int .i64 od, .int .i64 n, .int .u64 f0, .int .u64 f1, .int .u64 f2, .int .u64 f3, .int .i64 rr, .int .i64 pe, .int .i64 ds, .int .u64 m0, .int .u64 m1, .int .u64 m2, .int .u64 m3] 39)
  have kb := Bk.new V 39 #[.int .i64 od, .int .i64 n, .int .u64 f0, .int .u64 f1, .int .u64 f2, .int .u64 f3, .int .i64 rr, .int .i64 pe, .int .i64 ds, .int .u64 m0, .int .u64 m1, .int .u64 m2, .int .u64 m3]
  have hx := Lib.hid (show ¬ PX b r va vb V.heap.size from fun e => by have := h.lt _ e; omega)
  have KM := Lib.hid (fun W hW => Md.start (h.next hb) kb (W := W) hW)
  have HB := Lib.hid hb
  have HA := Lib.hid ha
  have HL := Lib.hid hL
  have HN := Lib.hid hn
  clear h ha hL hn hb
  have t0 : (od == 0) = false := by simpa using h0
  have t1 : (od == 1) = false := by simpa using h1
  have t2 : (od == 2) = false := by simpa using h2
  have t3 : (od == 3) = false := by simpa using h3
  have c0 := kb.cell 0 _ rfl
  have HE := Lib.hid (KM.out _ (Below.refl _ _))
  have HS := Lib.hid (fun W hW => Md.same (HE.out) (W' := W) hW)
  clear kb hx KM HE HN HL h0 h1 h2 h3
  go_enter Try.func12, Try.ntmps12
  go_wp2_with fail
  go_ret
  exact Dos.of HB.out (HS.out _ (Below.refl _ _)) (by omega) (by omega) HA.out (fun _ => .inl rfl) rfl
end
end Go.Proofs.Ythmlibapjhmdbaa
