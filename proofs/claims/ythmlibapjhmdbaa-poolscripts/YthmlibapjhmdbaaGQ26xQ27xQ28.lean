/- The document's pool: owner, has, give. -/
import Derived.Test.YthmlibapjhmdbaaGQ20xQ34xQ25
import Derived.Maps.AppendAt
namespace Go.Proofs.Ythmlibapjhmdbaa
open Go.RowKit Go.Shelf Go.Maps

attribute [local go_sem] eq33 eq40

set_option maxRecDepth 100000 in
set_option maxHeartbeats 400000 in
theorem rowner_any (n : Int) (w : World) : Calls Try.prog 50 #[.int .i64 n] w fun e w' => e = .returned (.bool (isOwn n)) ∧ w = w' := by
  unfold isOwn
  by_cases h : 0 ≤ n
  · have t0 : decide (0 ≤ n) = true := by simpa using h
    go_enter Try.func50, Try.ntmps50
    go_wp2_with fail
    go_ret
    exact ⟨by rw [t0]; rfl, rfl⟩
  · have t0 : decide (0 ≤ n) = false := by simpa using h
    go_enter Try.func50, Try.ntmps50
    go_wp2_with fail
    go_ret
    exact ⟨by first | rfl | (rw [t0]; rfl), rfl⟩
/-- Whether an owner has cores. -/
def rh (Ow : List Int) (n : Int) : Bool := isOwn n && decide (Mk.ofL (hv Ow n Ow.length) ≠ Mk.zero)
set_option maxRecDepth 100000 in
set_option maxHeartbeats 2000000 in
theorem rhas_any {w : World} {r s q na nb : Nat} {va vb : Value} {Ow Dn : List Int} (h : RPool w r s q va vb na nb Ow Dn) (hm : na ≤ 256) (n : Int) :
    Calls Try.prog 40 #[.pointer (some ⟨r, 0, none⟩), .int .i64 n] w fun e w' => e = .returned (.bool (rh Ow n)) ∧ Below w.heap.size w w' := by
  have KO := Lib.hid (rowner_any n)
  have KH := Lib.hid (having_any h hm n)
  have hl := h.la
  have hF := Mk.ofL_W4 (hv_lt (Ow := Ow) (n := n) hm)
  clear h
  unfold rh
  rw [hl]
  obtain ⟨m, hme⟩ : ∃ m, Mk.ofL (hv Ow n na) = m := ⟨_, rfl⟩
  rw [hme] at KH hF ⊢
  clear hme hl
  obtain ⟨z0, z1, z2, z3, rfl⟩ : ∃ z0 z1 z2 z3, m = [z0, z1, z2, z3] := ⟨_, _, _, _, Mk.len4 hF.1⟩
  replace KH : Hid (Calls Try.prog 37 #[.pointer (some ⟨r, 0, none⟩), .int .i64 n] w fun e w' => e = .returned (.agg #[.int .u64 z0, .int .u64 z1, .int .u64 z2, .int .u64 z3]) ∧ Below w.heap.size w w') := KH
  clear hF
  cases ho : isOwn n with
  | false =>
    rw [ho] at KO
    clear ho
    go_enter Try.func40, Try.ntmps40
    go_wp2_with fail
    refine (KO.out _).mono ?_
    rintro _ w1 ⟨rfl, rfl⟩
    go_wp2_with fail
    go_ret
    exact ⟨rfl, Below.refl _ _⟩
  | true =>
    rw [ho] at KO
    clear ho
    go_enter Try.func40, Try.ntmps40
    go_wp2_with fail
    refine (KO.out _).mono ?_
    rintro _ w1 ⟨rfl, rfl⟩
    go_wp2_with fail
    refine KH.out.mono ?_
    rintro _ w2 ⟨rfl, hb⟩
    go_wp2_with fail
    go_ret
    refine ⟨?_, hb⟩
    by_cases e : [z0, z1, z2, z3] = Mk.zero
    · have e2 := e
      simp [Mk.zero] at e2
      simp [e]
      omega
    · have e2 := e
      simp [Mk.zero] at e2
      simp [e]
      omega
theorem RPool.putA {w : World} {r s q na nb g cap : Nat} {vb : Value} {Ow Dn : List Int} (h : RPool w r s q (.slice (some ⟨g, 0, none⟩) na cap) vb na nb Ow Dn) (i : Nat) (x : Int) :
    RPool (w.setCell ⟨g, i, none⟩ (.int .i64 x)) r s q (.slice (some ⟨g, 0, none⟩) na cap) vb na nb (Ow.set i x) Dn ∧ r < g := by
  have hs := h.ra.stored i (.int .i64 x)
  have hq : r + 1 ≤ g := (own_blk h.ra rfl).1
  exact ⟨⟨(hs.2.block r h.blk.lt (fun e => by cases e; omega)).trans h.blk, by rw [← iv_set]; exact hs.1, own_kept h.rb hs.2 (fun g' e e2 => h.ab g rfl (e.trans e2.symm)), h.ab, by simp [h.la], h.lb⟩, hq⟩
end Go.Proofs.Ythmlibapjhmdbaa
/- The document's pool: give. -/
namespace Go.Proofs.Ythmlibapjhmdbaa
open Go.RowKit Go.Shelf Go.Maps

/-- Who has what, once the cores of a mask, up to a core, are somebody's. -/
def gv (m : List Nat) (n : Int) (Ow : List Int) : Nat → List Int
  | 0 => Ow
  | k + 1 => if Mk.hasB m k = true then (gv m n Ow k).set k n else gv m n Ow k
theorem gv_len (m : List Nat) (n : Int) (Ow : List Int) : ∀ k, (gv m n Ow k).length = Ow.length
  | 0 => rfl
  | k + 1 => by
    unfold gv
    split
    · rw [List.length_set, gv_len m n Ow k]
    · exact gv_len m n Ow k
theorem grown_below {w w1 w2 : World} {o : Option Nat} (h : w.grownBy w1 o) (hb : Below w1.heap.size w1 w2) : w.grownBy w2 o := h.trans ((only_of_below hb).but _)
theorem RPool.grown {w w' : World} {r s q na nb : Nat} {va vb : Value} {Ow Dn : List Int} (h : RPool w r s q va vb na nb Ow Dn) (hb : Below w.heap.size w w') : RPool w' r s q va vb na nb Ow Dn := h.next hb
set_option maxRecDepth 100000 in
set_option maxHeartbeats 4000000 in
theorem give_any {w : World} {r s q na nb g cap : Nat} {vb : Value} {Ow Dn : List Int} (h : RPool w r s q (.slice (some ⟨g, 0, none⟩) na cap) vb na nb Ow Dn) (hm : na ≤ 256) (n : Int) (m0 m1 m2 m3 : Nat) (hw : Mk.W4 [m0, m1, m2, m3]) :
    Calls Try.prog 52 #[.pointer (some ⟨r, 0, none⟩), .int .i64 n, .agg #[.int .u64 m0, .int .u64 m1, .int .u64 m2, .int .u64 m3]] w fun x w' => (∃ u, x = .returned u) ∧ RPool w' r s q (.slice (some ⟨g, 0, none⟩) na cap) vb na nb (gv [m0, m1, m2, m3] n Ow na) Dn ∧ w.grownBy w' (some g) := by
  have HW := Lib.hid hw
  clear hw
  have hba := (Below.refl _ w).alloc (Nat.le_refl _) (.cells #[.int .u64 m0, .int .u64 m1, .int .u64 m2, .int .u64 m3] 35)
  have H0 := Lib.hid (h.next hba)
  have hG0 := (only_of_below hba).but (some g)
  have hgl := (own_blk h.ra rfl).2
  have k0 := Bk.new w 35 #[.int .u64 m0, .int .u64 m1, .int .u64 m2, .int .u64 m3]
  clear hba h
  go_enter Try.func52, Try.ntmps52
  go_wp2_with fail
  go_loopg [6] na (fun c s6 wr => ∃ j : Nat, j + c = na ∧ s6 = .int .i64 j ∧ Hid (RPool wr r s q (.slice (some ⟨g, 0, none⟩) na cap) vb na nb (gv [m0, m1, m2, m3] n Ow j) Dn) ∧ Bk wr w.heap.size 35 #[.int .u64 m0, .int .u64 m1, .int .u64 m2, .int .u64 m3] ∧ w.grownBy wr (some g))
  case atStart => exact ⟨0, by omega, rfl, H0, k0, hG0⟩
  case round =>
    clear H0 hG0 k0
    obtain ⟨j, hj, rfl, HR, k0, hG⟩ := hrel
    have c2 := HR.out.blk.cell 2 _ rfl
    cases gk with
    | zero =>
      obtain rfl : j = na := by omega
      have hlt : ¬ ((j : Int) < (j : Int)) := by omega
      go_wp2_with fail
      go_end0
      exact ⟨⟨_, rfl⟩, HR.out, hG⟩
    | succ g1 =>
      have p0 : (0 : Int) ≤ (j : Int) := by omega
      have p1 : (j : Int) < (na : Int) := by omega
      have b0 := k0.cell 0 _ rfl
      have b1 := k0.cell 1 _ rfl
      have b2 := k0.cell 2 _ rfl
      have b3 := k0.cell 3 _ rfl
      have KH := Lib.hid (rHas_in [m0, m1, m2, m3] j wr HW.out (by omega))
      replace KH : Hid (Calls Try.prog 63 #[.agg #[.int .u64 m0, .int .u64 m1, .int .u64 m2, .int .u64 m3], .int .i64 j] wr fun e w' => e = .returned (.bool (Mk.hasB [m0, m1, m2, m3] j)) ∧ Below wr.heap.size wr w') := KH
      cases hh : Mk.hasB [m0, m1, m2, m3] j with
      | false =>
        rw [hh] at KH
        have HE := Lib.hid (show gv [m0, m1, m2, m3] n Ow (j + 1) = gv [m0, m1, m2, m3] n Ow j from by rw [gv, hh]; rfl)
        clear hh
        go_wp2_with fail
        refine KH.out.mono ?_
        rintro _ w1 ⟨rfl, hb1⟩
        have HR2 := Lib.hid (HR.out.next hb1)
        have hk2 := k0.next hb1
        have hG2 := grown_below hG hb1
        clear hb1 b0 b1 b2 b3 c2 k0 hG HR
        go_wp2_with fail
        go_roundg g1
        case measure => omega
        case rel => exact ⟨j + 1, by omega, by go_num, by rw [HE.out]; exact HR2, hk2, hG2⟩
      | true =>
        rw [hh] at KH
        have HE := Lib.hid (show gv [m0, m1, m2, m3] n Ow (j + 1) = (gv [m0, m1, m2, m3] n Ow j).set j n from by rw [gv, hh]; rfl)
        clear hh
        go_wp2_with fail
        refine KH.out.mono ?_
        rintro _ w1 ⟨rfl, hb1⟩
        have HR2 := HR.out.next hb1
        have hk2 := k0.next hb1
        have hG2 := grown_below hG hb1
        have d2 := HR2.blk.cell 2 _ rfl
        have hlen := HR2.la
        obtain ⟨z, ez⟩ : ∃ z, (gv [m0, m1, m2, m3] n Ow j)[j]? = some z := ⟨_, List.getElem?_eq_getElem (by omega)⟩
        have e0 : w1.cell? ⟨g, j, none⟩ = some (.int .i64 z) := by rw [HR2.ra.cellAt j (by omega)]; simp [ez]
        have f0 := HR2.ra.frozenAt j
        have hs := HR2.ra.stored j (.int .i64 n)
        have HR3 := Lib.hid (HR2.putA j n).1
        have hG3 := Lib.hid (hG2.trans hs.2)
        have hk3 := Lib.hid (bk_far hk2 (a := ⟨g, j, none⟩) (by simp; omega) (.int .i64 n))
        clear hb1 b0 b1 b2 b3 c2 k0 hG HR HR2 hk2 hG2 hs hlen ez
        go_wp2_with fail
        go_roundg g1
        case measure => omega
        case rel => exact ⟨j + 1, by omega, by go_num, by rw [HE.out]; exact HR3, hk3.out, hG3.out⟩
end Go.Proofs.Ythmlibapjhmdbaa
/- The document's pool: New, Commit. -/
namespace Go.Proofs.Ythmlibapjhmdbaa
open Go.RowKit Go.Shelf Go.Maps

/-- All blocks but these are as they were. -/
structure Td (X : Nat → Prop) (w w' : World) : Prop where
  os : w'.os = w.os
  tape : w'.tape = w.tape
  output : w'.output = w.output
  size : w.heap.size ≤ w'.heap.size
  block : ∀ k, k < w.heap.size → ¬ X k → w'.heap[k]? = w.heap[k]?
section
variable {X : Nat → Prop} {a b c w w' : World}
theorem Td.of_below (h : Below w.heap.size w w') : Td X w w' := ⟨h.os, h.tape, h.output, h.size, fun k hk _ => h.block k hk⟩
theorem Td.trans (h : Td X a b) (k : Td X b c) : Td X a c :=
  ⟨k.os.trans h.os, k.tape.trans h.tape, k.output.trans h.output, Nat.le_trans h.size k.size, fun i hi hx => (k.block i (Nat.lt_of_lt_of_le hi h.size) hx).trans (h.block i hi hx)⟩
theorem Td.grown {row : Option Nat} (h : w.grownBy w' row) (hr : ∀ k, row = some k → X k) : Td X w w' := ⟨h.os, h.tape, h.output, h.size, fun k hk hx => h.block k hk (fun e => hx (hr k e.symm))⟩
theorem Td.set (p : Addr) (hx : X p.block) (u : Value) : Td X w (w.setCell p u) :=
  ⟨rfl, rfl, rfl, by simp [World.setCell], fun k _ hk => Below.heap_setCell _ _ _ _ (fun e => hk (e ▸ hx))⟩
theorem Td.below (h : Td X w w') {B : Nat} (hB : ∀ i, X i → B ≤ i) (hs : B ≤ w.heap.size) : Below B w w' :=
  ⟨h.os, h.tape, h.output, h.size, fun k hk => h.block k (Nat.lt_of_lt_of_le hk hs) (fun hx => by have := hB k hx; omega)⟩
theorem Td.mono {Y : Nat → Prop} (h : Td X w w') (hY : ∀ i, X i → Y i) : Td Y w w' := ⟨h.os, h.tape, h.output, h.size, fun k hk hx => h.block k hk (fun e => hx (hY k e))⟩
theorem Td.bk {g : Nat} {t : TypeId} {cs : Array Value} (h : Td X w w') (hb : Bk w g t cs) (hx : ¬ X g) : Bk w' g t cs := (h.block g hb.lt hx).trans hb
end
/-- The blocks of the document's pool. -/
def RX (r : Nat) (va vb : Value) (i : Nat) : Prop := i = r ∨ va.ownBlock = some i ∨ vb.ownBlock = some i
theorem RPool.pushA {w w6 : World} {r s q na nb : Nat} {va vb va' : Value} {Ow Dn : List Int} {x : Int} (h : RPool w r s q va vb na nb Ow Dn) (hown : w6.ownsRow (r + 1) 3 1 va' (na + 1) (iv Ow ++ [.int .i64 x])) (hg : (w.alloc (.cells #[.int .i64 x] 3)).grownBy w6 va.ownBlock) (hat : va'.ownBlock = va.ownBlock ∨ va'.ownBlock = some (w.alloc (.cells #[.int .i64 x] 3)).heap.size) :
    w6.cell? ⟨r, 2, none⟩ = some va ∧ w6.frozen? ⟨r, 2, none⟩ = false ∧ RPool (w6.setCell ⟨r, 2, none⟩ va') r s q va' vb (na + 1) nb (Ow ++ [x]) Dn ∧ Below r w (w6.setCell ⟨r, 2, none⟩ va') := by
  have hq := h.blk.lt
  have hqn : va.ownBlock ≠ some r := fun e => by have := (own_blk h.ra e).1; omega
  have hb := h.blk.alloc (.cells #[.int .i64 x] 3)
  have hb6 : Bk w6 r 69 #[.int .i64 s, .int .i64 q, va, vb] := (hg.block r hb.lt (fun e => hqn e.symm)).trans hb
  refine ⟨hb6.cell 2 _ rfl, hb6.frozen 2, ⟨by simpa [Bk] using heap_setCell_same w6 r 2 _ 69 va' hb6, ?_, ?_, ?_, by simp [h.la], h.lb⟩, ?_⟩
  · rw [iv_snoc]
    exact ownsRow_setCell_below hown (by simp) _
  · exact ownsRow_setCell_below (own_kept (h.rb.alloc _) hg (fun g e e2 => h.ab g e2 e)) (by simp) _
  · intro g e e2
    have := (own_blk h.rb e2).2
    rcases hat with e3 | e3
    · exact h.ab g (e3.symm.trans e) e2
    · rw [e3] at e; cases e; simp at this; omega
  · have hlo := ((Below.refl w.heap.size w).alloc (Nat.le_refl _) (.cells #[.int .i64 x] 3)).mono (Nat.le_of_lt hq)
    refine Below.setCell (hlo.grown hg (by rw [size_alloc]; omega) (fun j e => ?_)) (Nat.le_refl _) _
    have := (own_blk h.ra e).1
    omega
theorem RPool.pushB {w w6 : World} {r s q na nb : Nat} {va vb vb' : Value} {Ow Dn : List Int} {x : Int} (h : RPool w r s q va vb na nb Ow Dn) (hown : w6.ownsRow (r + 1) 3 1 vb' (nb + 1) (iv Dn ++ [.int .i64 x])) (hg : (w.alloc (.cells #[.int .i64 x] 3)).grownBy w6 vb.ownBlock) (hat : vb'.ownBlock = vb.ownBlock ∨ vb'.ownBlock = some (w.alloc (.cells #[.int .i64 x] 3)).heap.size) :
    w6.cell? ⟨r, 3, none⟩ = some vb ∧ w6.frozen? ⟨r, 3, none⟩ = false ∧ RPool (w6.setCell ⟨r, 3, none⟩ vb') r s q va vb' na (nb + 1) Ow (Dn ++ [x]) ∧ Td (RX r va vb) w (w6.setCell ⟨r, 3, none⟩ vb') := by
  have hq := h.blk.lt
  have hqn : vb.ownBlock ≠ some r := fun e => by have := (own_blk h.rb e).1; omega
  have hb := h.blk.alloc (.cells #[.int .i64 x] 3)
  have hb6 : Bk w6 r 69 #[.int .i64 s, .int .i64 q, va, vb] := (hg.block r hb.lt (fun e => hqn e.symm)).trans hb
  refine ⟨hb6.cell 3 _ rfl, hb6.frozen 3, ⟨by simpa [Bk] using heap_setCell_same w6 r 3 _ 69 vb' hb6, ?_, ?_, ?_, h.la, by simp [h.lb]⟩, ?_⟩
  · exact ownsRow_setCell_below (own_kept (h.ra.alloc _) hg (fun g e e2 => h.ab g e e2)) (by simp) _
  · rw [iv_snoc]
    exact ownsRow_setCell_below hown (by simp) _
  · intro g e e2
    have := (own_blk h.ra e).2
    rcases hat with e3 | e3
    · exact h.ab g e (e3.symm.trans e2)
    · rw [e3] at e2; cases e2; simp at this; omega
  · exact ((Td.of_below ((Below.refl w.heap.size w).alloc (Nat.le_refl _) (.cells #[.int .i64 x] 3))).trans (Td.grown hg (fun k e => .inr (.inr e)))).trans (Td.set ⟨r, 3, none⟩ (.inl rfl) _)
set_option maxRecDepth 100000 in
set_option maxHeartbeats 2000000 in
theorem rnew_ok (s q : Nat) (w : World) (hL : LOk s q) :
    Calls Try.prog 11 #[.agg #[.int .i64 s, .int .i64 q]] w fun e w' => ∃ r va, e = .returned (.pointer (some ⟨r, 0, none⟩)) ∧ w.heap.size ≤ r ∧ RPool w' r s q va (.slice none 0 0) (s * q) 0 (List.replicate (s * q) (-1)) [] ∧ Below w.heap.size w w' := by
  have H := Lib.hid hL
  have hC := Lib.hid (fun W => rCount_ok s q W hL)
  have h5 := hL.2.2.2.2
  clear hL
  generalize s * q = N at *
  obtain ⟨i0, hi, hz0, hz1, hz2⟩ := info_parts info3
  have hb0 := (Below.refl _ w).alloc (Nat.le_refl _) (.cells #[.int .i64 s, .int .i64 q] 23)
  have k0 := Bk.new w 23 #[.int .i64 s, .int .i64 q]
  go_enter Try.func11, Try.ntmps11
  go_wp2_with fail
  refine (rCheck_ok s q _ H.out).mono ?_
  rintro e w2 ⟨rfl, hb2⟩
  replace k0 := k0.next hb2
  replace hb0 := bmore hb0 hb2
  clear hb2
  have c0 := k0.cell 0 _ rfl
  have c1 := k0.cell 1 _ rfl
  have hs2 := hb0.size
  have hk := k0.lt
  have hx := (Below.refl _ w2).alloc (Nat.le_refl _) (.cells #[.int .i64 s, .int .i64 q, .slice none 0 0, .slice none 0 0] 69)
  have r0 := Bk.new w2 69 #[.int .i64 s, .int .i64 q, .slice none 0 0, .slice none 0 0]
  have HR0 := Lib.hid (show RPool (w2.alloc (.cells #[.int .i64 s, .int .i64 q, .slice none 0 0, .slice none 0 0] 69)) w2.heap.size s q (.slice none 0 0) (.slice none 0 0) 0 0 (List.replicate 0 (-1)) [] from ⟨r0, World.ownsRow_nil _ _ _ _, World.ownsRow_nil _ _ _ _, (fun g e => by cases e), rfl, rfl⟩)
  have k1 := k0.next hx
  have hb1 := bmore hb0 hx
  clear hx r0 k0 hb0
  go_wp2_with fail
  clear c0 c1
  go_loopw [4] (fun i wr => ∃ (k : Nat) (va : Value), k ≤ N ∧ i = .int .i64 k ∧ Hid (RPool wr w2.heap.size s q va (.slice none 0 0) k 0 (List.replicate k (-1)) []) ∧ Bk wr w.heap.size 23 #[.int .i64 s, .int .i64 q] ∧ Below w.heap.size w wr)
    (fun i _ => N - (intOf i).toNat)
  case atStart => exact ⟨0, _, Nat.zero_le _, rfl, HR0, k1, hb1⟩
  case round =>
    clear HR0 k1 hb1
    obtain ⟨k, va, hkN, rfl, HR, k0, hb0⟩ := hrel
    have c0 := k0.cell 0 _ rfl
    have c1 := k0.cell 1 _ rfl
    go_wp2_with fail
    refine (hC.out _).mono ?_
    rintro e w3 ⟨rfl, hb3⟩
    have HR2 := Lib.hid (HR.out.next hb3)
    replace k0 := k0.next hb3
    replace hb0 := bmore hb0 hb3
    clear hb3 c0 c1 HR
    by_cases hlt : k < N
    · have c2 := HR2.out.blk.cell 2 _ rfl
      obtain ⟨A, cap, rfl⟩ := own_form HR2.out.ra
      have HPA := Lib.hid (fun v' w6 q1 q2 q3 => RPool.pushA (x := -1) (va' := v') (w6 := w6) HR2.out q1 q2 q3)
      go_wp2_with (at_builtin; refine wpList_append_own_at _ rfl _ _ 44 rfl (w2.heap.size + 1) 3 i0 (.int .i64 0) 1 8 Try.underlying44 hi hz0 hz1 hz2 rfl (by decide) _ _ _ rfl (HR2.out.ra.alloc _) ⟨w3.heap.size, 0, none⟩ 1 1 [.int .i64 (-1)] rfl rfl (cell_one_new _ _ _) (by simp [Value.oneCell']) (by unfold maxLen; omega) (by omega) (by have := HR2.out.blk.lt; simp; omega) ?_; intro v8 w8 hown8 hg8 _ hat8; obtain ⟨y1, y2, y3, y4⟩ := HPA.out v8 w8 hown8 hg8 hat8; obtain ⟨A8, cap8, rfl⟩ := own_form hown8)
      rw [← List.replicate_succ'] at y3
      go_roundw
      case rel => exact ⟨k + 1, _, by omega, by go_num, y3, k0.below y4 (by omega), hb0.trans (y4.mono (by omega))⟩
      case measure => simp [intOf]; omega
    · obtain rfl : k = N := by omega
      go_wp2_with fail
      go_ret
      exact ⟨_, _, rfl, hs2, HR2.out, hb0⟩
end Go.Proofs.Ythmlibapjhmdbaa
