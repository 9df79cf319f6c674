/- A call on both pools. -/
import Derived.Test.YthmlibapjhmdbaaGQ21xQ22xQ39
namespace Go.Proofs.Ythmlibapjhmdbaa
open Go.RowKit Go.Shelf Go.Maps

theorem masks_td {X : Nat → Prop} {w w' : World} {gm : Nat} {ms : List (List Nat)} (h : MasksAt w w.heap.size gm ms) (ht : Td X w w') (hx : ¬ X gm) : MasksAt w' w'.heap.size gm ms := by
  refine ⟨Nat.lt_of_lt_of_le h.1 ht.size, fun k m hm j hj => ?_⟩
  rw [← h.2 k m hm j hj]
  exact World.cell?_of_block (ht.block gm h.1 hx)
section
variable {w V W : World} {p b k s q r nb : Nat} {g : Int → Option Sh} {L : List Int} {va vb : Value} {Ow Dn : List Int} {B : Nat} {cs : Array Value}
theorem Md.rres_no (h : Md w V W p b k s q g L r nb va vb Ow Dn B cs) (hL : LOk s q) (n : Int) (x0 x1 x2 x3 rr pe d : Int) (hE : rrE s q Ow (s * q) n rr pe d ≠ 0) :
    Calls Try.prog 31 #[.pointer (some ⟨r, 0, none⟩), .int .i64 n, .agg #[.int .u64 x0, .int .u64 x1, .int .u64 x2, .int .u64 x3, .int .i64 rr, .int .i64 pe, .int .i64 d]] W fun e w' => e = .returned (.tuple #[.slice none 0 0, .int .i64 (rrE s q Ow (s * q) n rr pe d)]) ∧ En w V w' p b k s q g L r nb va vb va vb Ow Dn B cs := by
  refine (rreserve_any h.two.rp hL hL.2.2.2.2 hL.pos n x0 x1 x2 x3 rr pe d).mono ?_
  rintro e w' (⟨_, rfl, hb⟩ | ⟨h1, _⟩)
  · exact ⟨rfl, h.same hb⟩
  · exact absurd h1 hE
def RRs (w V W W' : World) (p b k s q : Nat) (g : Int → Option Sh) (L : List Int) (r nb : Nat) (va vb : Value) (Ow Dn : List Int) (B : Nat) (cs : Array Value) (n : Int) (ms : List (List Nat)) (e : Ending) : Prop :=
  ∃ gm R cap, e = .returned (.tuple #[.slice (some ⟨gm, 0, none⟩) R cap, .int .i64 0]) ∧ MasksAt W' W'.heap.size gm ms ∧ ms.length = R ∧ Td (RX r va vb) W W' ∧ En w V W' p b k s q g L r nb va vb va vb (gvs ms n Ow (s * q)) Dn B cs
theorem Md.rres_ok (h : Md w V W p b k s q g L r nb va vb Ow Dn B cs) (hx : ¬ PX b r va vb B) (hL : LOk s q) (n : Int) (x0 x1 x2 x3 rr pe d : Int) (hE : rrE s q Ow (s * q) n rr pe d = 0) :
    Calls Try.prog 31 #[.pointer (some ⟨r, 0, none⟩), .int .i64 n, .agg #[.int .u64 x0, .int .u64 x1, .int .u64 x2, .int .u64 x3, .int .i64 rr, .int .i64 pe, .int .i64 d]] W fun e w' => RRs w V W w' p b k s q g L r nb va vb Ow Dn B cs n (asM (Mk.ofL (hv Ow (-1) (s * q))) s q rr pe d) e := by
  refine (rreserve_any h.two.rp hL hL.2.2.2.2 hL.pos n x0 x1 x2 x3 rr pe d).mono ?_
  rintro e w' (⟨h1, _⟩ | ⟨_, gm, R, cap, rfl, h1, _, h3, _, h5, h6⟩)
  · exact absurd hE h1
  · exact ⟨gm, R, cap, rfl, h1, h3, h6, h.ref hx h6 h5⟩
/-- What a call on both comes to. -/
def Dos (w V : World) (p b k s q : Nat) (g : Int → Option Sh) (r nb : Nat) (va vb : Value) (n d : Int) (e : Ending) (w' : World) : Prop :=
  ∃ k' g' L' nb' va' vb' Ow' Dn', e = .returned (.bool true) ∧ k' ≤ k + 1 ∧ nb' ≤ nb + 1 ∧ Two w w' p b k' s q g' L' r nb' va' vb' Ow' Dn' ∧ Agr (s * q) g' Ow' Dn' ∧ Td (PX b r va vb) V w' ∧
    ((d = 0 ∨ d = 1) → g' = g ∨ ∃ c, (g n).isSome = false ∧ c.m ≠ Mk.zero ∧ g' = fun m => if m = n then some c else g m)
end
/-- Both turn in the same way. -/
theorem agr_put {N : Nat} {g g' : Int → Option Sh} {Ow Dn : List Int} (h : Agr N g Ow Dn) (hN : N ≤ 256) {n : Int} {c : Sh} (hG : Gvn N g g' n c) {Ow' Dn' : List Int} (hl : Ow'.length = N) (hO : ∀ x, x < N → Ow'[x]? = if Mk.hasB c.m x = true then some n else Ow[x]?) (hD : ∀ k, k ∈ Dn' ↔ k ∈ Dn ∨ (k = n ∧ c.t = true)) : Agr N g' Ow' Dn' := by
  obtain ⟨h1, h2, h3, h4, rfl⟩ := hG
  exact h.put hN h2 h1 h3 h4 hl hO hD
theorem agr_take {N : Nat} {g g' : Int → Option Sh} {Ow Dn : List Int} (h : Agr N g Ow Dn) (hN : N ≤ 256) {n : Int} {c : Sh} (hG : Gvn N g g' n c) (ht : c.t = true) : Agr N g' (gv c.m n Ow N) (Dn ++ [n]) :=
  agr_put h hN hG (by rw [gv_len, h.len]) (fun x hx => by
    rw [gv_get c.m n Ow x (by rw [h.len]; exact hx) N]
    by_cases e : Mk.hasB c.m x = true
    · rw [if_pos ⟨hx, e⟩, if_pos e]
    · rw [if_neg (fun h => e h.2), if_neg e]) (fun k => by simp [ht])
theorem agr_res {N : Nat} {g g' : Int → Option Sh} {Ow Dn : List Int} (h : Agr N g Ow Dn) (hN : N ≤ 256) {n : Int} {c : Sh} (hG : Gvn N g g' n c) (ht : c.t = false) {ms : List (List Nat)} (h4 : ∀ m ∈ ms, Mk.W4 m) (hc : c.m = orAll ms) : Agr N g' (gvs ms n Ow N) Dn :=
  agr_put h hN hG (by rw [gvs_len, h.len]) (fun x hx => by
    rw [gvs_get n N x ms Ow (by rw [h.len]; exact hx) hx, hc]
    by_cases e : Mk.hasB (orAll ms) x = true
    · rw [if_pos e, if_pos (orAll_has h4 (by omega) e)]
    · rw [if_neg e, if_neg]
      rintro ⟨m, h1, h2⟩
      exact e (has_foldN ms _ Mk.W4.zero h4 (by omega) (.inr ⟨m, h1, h2⟩))) (fun k => by simp [ht])
section
variable {w V V0 : World} {p b k s q r nb : Nat} {g : Int → Option Sh} {L : List Int} {va vb : Value} {Ow Dn : List Int}
theorem Dos.of {W : World} {g' : Int → Option Sh} {k' nb' : Nat} {va' vb' : Value} {L' Ow' Dn' : List Int} {B : Nat} {cs : Array Value} {n d : Int} (hV : Below V.heap.size V V0) (h : En w V0 W p b k' s q g' L' r nb' va vb va' vb' Ow' Dn' B cs) (hk : k' ≤ k + 1) (hn : nb' ≤ nb + 1) (ha : Agr (s * q) g' Ow' Dn') (hs : (d = 0 ∨ d = 1) → g' = g ∨ ∃ c, (g n).isSome = false ∧ c.m ≠ Mk.zero ∧ g' = fun m => if m = n then some c else g m) {x : Bool} (hx : x = true) : Dos w V p b k s q g r nb va vb n d (.returned (.bool x)) W :=
  ⟨k', g', L', nb', va', vb', Ow', Dn', by rw [hx], hk, hn, h.two, ha, (Td.of_below hV).trans h.td, hs⟩
theorem dos_take {W2 : World} {B : Nat} {cs : Array Value} {n : Int} {m : List Nat} (hV : Below V.heap.size V V0) (ha : Agr (s * q) g Ow Dn) (hL : LOk s q) {k' : Nat} {g' : Int → Option Sh} {L' : List Int} (hk : k' ≤ k + 1) (h1 : (tkE s q g n m ≠ 0 ∧ g' = g) ∨ (tkE s q g n m = 0 ∧ ∃ c : Sh, c.m = m ∧ c.t = true ∧ Gvn (s * q) g g' n c)) (h2 : RTk w V0 W2 p b k' s q g' L' r nb va vb Ow Dn B cs n m) {x : Bool} (hx : x = decide (tkE s q g n m = rtE Ow n m)) : Dos w V p b k s q g r nb va vb n 1 (.returned (.bool x)) W2 := by
  obtain ⟨nb', va', vb', Ow', Dn', hn, hE, h3⟩ := h2
  rw [ha.tk hL.2.2.2.2 rfl] at h3 hx
  have hx2 : x = true := by rw [hx]; simp
  rcases h1 with ⟨h1, rfl⟩ | ⟨h1, c, rfl, ht, hG⟩
  · rcases h3 with ⟨_, rfl, rfl⟩ | ⟨h4, _⟩
    · exact Dos.of hV hE hk hn ha (fun _ => .inl rfl) hx2
    · exact absurd h4 h1
  · rcases h3 with ⟨h4, _⟩ | ⟨_, rfl, rfl⟩
    · exact absurd h1 h4
    · exact Dos.of hV hE hk hn (agr_take ha hL.2.2.2.2 hG ht) (fun _ => .inr ⟨c, hG.2.1, hG.2.2.1, hG.2.2.2.2⟩) hx2
theorem dos_commit {W2 : World} {B : Nat} {cs : Array Value} {n : Int} (hV : Below V.heap.size V V0) (ha : Agr (s * q) g Ow Dn) (hL : LOk s q) {k' : Nat} {g' : Int → Option Sh} {L' : List Int} (hk : k' ≤ k + 1) (h1 : (cmE g n ≠ 0 ∧ g' = g) ∨ (cmE g n = 0 ∧ ∃ c, g n = some c ∧ c.t = false ∧ g' = fun m => if m = n then some ⟨c.m, true, c.ok⟩ else g m)) (h2 : RCm w V0 W2 p b k' s q g' L' r nb va vb Ow Dn B cs n) {x : Bool} (hx : x = decide (cmE g n = rcE Ow Dn n)) : Dos w V p b k s q g r nb va vb n 2 (.returned (.bool x)) W2 := by
  obtain ⟨nb', va', vb', Ow', Dn', hn, hE, h3⟩ := h2
  have hEq : rcE Ow Dn n = cmE g n := by
    unfold rcE rcB cmE
    rw [ha.rh hL.2.2.2.2]
    have hd := ha.done n
    cases hg : g n with
    | none => simp
    | some c =>
      rw [hg] at hd
      cases ht : c.t with
      | false =>
        have : n ∉ Dn := fun e => by obtain ⟨c', e1, e2⟩ := hd.1 e; cases e1; rw [ht] at e2; cases e2
        simp [this, ht]
      | true =>
        have : n ∈ Dn := hd.2 ⟨c, rfl, ht⟩
        simp [this, ht]
  rw [hEq] at h3 hx
  have hx2 : x = true := by rw [hx]; simp
  rcases h1 with ⟨h1, rfl⟩ | ⟨h1, c, hg, ht, rfl⟩
  · rcases h3 with ⟨_, rfl, rfl⟩ | ⟨h4, _⟩
    · exact Dos.of hV hE hk hn ha (fun e => by omega) hx2
    · exact absurd h4 h1
  · rcases h3 with ⟨h4, _⟩ | ⟨_, rfl, rfl⟩
    · exact absurd h1 h4
    · exact Dos.of hV hE hk hn (ha.commit hg) (fun e => by omega) hx2
theorem dos_release {W2 : World} {B : Nat} {cs : Array Value} {n : Int} (hV : Below V.heap.size V V0) (ha : Agr (s * q) g Ow Dn) (hL : LOk s q) {k' : Nat} {g' : Int → Option Sh} {L' : List Int} (hk : k' ≤ k + 1) (h1 : (rlE g n ≠ 0 ∧ g' = g) ∨ (rlE g n = 0 ∧ (g n).isSome = true ∧ g' = fun m => if m = n then none else g m)) (h2 : RRl w V0 W2 p b k' s q g' L' r nb va vb Ow Dn B cs n) {x : Bool} (hx : x = decide (rlE g n = rrlE Ow n)) : Dos w V p b k s q g r nb va vb n 3 (.returned (.bool x)) W2 := by
  obtain ⟨nb', va', vb', Ow', Dn', hn, hE, h3⟩ := h2
  have hEq : rrlE Ow n = rlE g n := by
    unfold rrlE rlE
    rw [ha.rh hL.2.2.2.2]
  rw [hEq] at h3 hx
  have hx2 : x = true := by rw [hx]; simp
  rcases h1 with ⟨h1, rfl⟩ | ⟨h1, hg, rfl⟩
  · rcases h3 with ⟨_, rfl, rfl⟩ | ⟨h4, _⟩
    · exact Dos.of hV hE hk hn ha (fun e => by omega) hx2
    · exact absurd h4 h1
  · rcases h3 with ⟨h4, _⟩ | ⟨_, rfl, rfl⟩
    · exact absurd h1 h4
    · exact Dos.of hV hE hk hn (ha.del hL.2.2.2.2 hg) (fun e => by omega) hx2
end
end Go.Proofs.Ythmlibapjhmdbaa
/- A call on both pools, walked. -/
namespace Go.Proofs.Ythmlibapjhmdbaa
open Go.RowKit Go.Shelf Go.Maps

section
variable {w V : World} {p b k s q r nb : Nat} {g : Int → Option Sh} {L : List Int} {va vb : Value} {Ow Dn : List Int}
theorem RTk.bk {W' : World} {B : Nat} {cs : Array Value} {n : Int} {m : List Nat} {V' : World} (h : RTk w V' W' p b k s q g L r nb va vb Ow Dn B cs n m) : Bk W' B 39 cs := by
  obtain ⟨_, _, _, _, _, _, h, _⟩ := h
  exact h.bk
theorem RCm.bk {W' : World} {B : Nat} {cs : Array Value} {n : Int} {V' : World} (h : RCm w V' W' p b k s q g L r nb va vb Ow Dn B cs n) : Bk W' B 39 cs := by
  obtain ⟨_, _, _, _, _, _, h, _⟩ := h
  exact h.bk
theorem RRl.bk {W' : World} {B : Nat} {cs : Array Value} {n : Int} {V' : World} (h : RRl w V' W' p b k s q g L r nb va vb Ow Dn B cs n) : Bk W' B 39 cs := by
  obtain ⟨_, _, _, _, _, _, h, _⟩ := h
  exact h.bk
set_option maxRecDepth 100000 in
set_option maxHeartbeats 8000000 in
theorem does_take (h : Two w V p b k s q g L r nb va vb Ow Dn) (ha : Agr (s * q) g Ow Dn) (hL : LOk s q) (hk : k ≤ 900) (hd : nb ≤ 900) {n : Int} (hn : (Lit.int .i64 n).wf = true) (f0 f1 f2 f3 m0 m1 m2 m3 : Nat) (rr pe ds : Int) (hw : Mk.W4 [m0, m1, m2, m3]) :
    Calls Try.prog 12 #[.pointer (some ⟨p, 0, none⟩), .pointer (some ⟨r, 0, none⟩), .agg #[.int .i64 1, .int .i64 n, .int .u64 f0, .int .u64 f1, .int .u64 f2, .int .u64 f3, .int .i64 rr, .int .i64 pe, .int .i64 ds, .int .u64 m0, .int .u64 m1, .int .u64 m2, .int .u64 m3]] V (Dos w V p b k s q g r nb va vb n 1) := by
  have hb := (Below.refl V.heap.size V).alloc (Nat.le_refl _) (.cells #[.int .i64 1, .int .i64 n, .int .u64 f0, .int .u64 f1, .int .u64 f2, .int .u64 f3, .int .i64 rr, .int .i64 pe, .int .i64 ds, .int .u64 m0, .int .u64 m1, .int .u64 m2, .int .u64 m3] 39)
  have kb := Bk.new V 39 #[.int .i64 1, .int .i64 n, .int .u64 f0, .int .u64 f1, .int .u64 f2, .int .u64 f3, .int .i64 rr, .int .i64 pe, .int .i64 ds, .int .u64 m0, .int .u64 m1, .int .u64 m2, .int .u64 m3]
  have hx := Lib.hid (show ¬ PX b r va vb V.heap.size from fun e => by have := h.lt _ e; omega)
  have KM := Lib.hid (fun W hW => Md.start (h.next hb) kb (W := W) hW)
  have HB := Lib.hid hb
  have HA := Lib.hid ha
  have HL := Lib.hid hL
  have HN := Lib.hid hn
  have HW := Lib.hid hw
  clear h ha hL hn hb hw
  have c0 := kb.cell 0 _ rfl
  have c1 := kb.cell 1 _ rfl
  have c9 := kb.cell 9 _ rfl
  have c10 := kb.cell 10 _ rfl
  have c11 := kb.cell 11 _ rfl
  have c12 := kb.cell 12 _ rfl
  clear kb
  go_enter Try.func12, Try.ntmps12
  go_wp2
  have HM := Lib.hid (KM.out _ (Below.refl _ _).drew)
  have HM0 := Lib.hid (KM.out _ (Below.refl _ _))
  go_region_held3 (fun W => W.cell? ⟨V.heap.size, 1, none⟩ = some (.int .i64 n) ∧ W.cell? ⟨V.heap.size, 9, none⟩ = some (.int .u64 m0) ∧ W.cell? ⟨V.heap.size, 10, none⟩ = some (.int .u64 m1) ∧ W.cell? ⟨V.heap.size, 11, none⟩ = some (.int .u64 m2) ∧ W.cell? ⟨V.heap.size, 12, none⟩ = some (.int .u64 m3))
    (first | exact ⟨c1, c9, c10, c11, c12⟩)
    (first
      | (go_at_call 27; (with_reducible refine ((by first | exact HM.out.take hx.out HL.out hk HN.out m0 m1 m2 m3 HW.out | exact HM0.out.take hx.out HL.out hk HN.out m0 m1 m2 m3 HW.out : Calls Try.prog 27 _ _ _)).mono ?_); rintro _ w2 ⟨rfl, k', g', L', hk', hM, h1⟩; have kb2 := hM.bk; have d1 := kb2.cell 1 _ rfl; have d9 := kb2.cell 9 _ rfl; have d10 := kb2.cell 10 _ rfl; have d11 := kb2.cell 11 _ rfl; have d12 := kb2.cell 12 _ rfl; replace c1 := d1; replace c9 := d9; replace c10 := d10; replace c11 := d11; replace c12 := d12; clear d1 d9 d10 d11 d12; clear kb2)
      | (go_at_call 34; (with_reducible refine (hM.rtake hx.out HL.out hd n m0 m1 m2 m3 HW.out).mono ?_); rintro _ w3 ⟨rfl, h2⟩; have kb2 := h2.bk; have d1 := kb2.cell 1 _ rfl; have d9 := kb2.cell 9 _ rfl; have d10 := kb2.cell 10 _ rfl; have d11 := kb2.cell 11 _ rfl; have d12 := kb2.cell 12 _ rfl; replace c1 := d1; replace c9 := d9; replace c10 := d10; replace c11 := d11; replace c12 := d12; clear d1 d9 d10 d11 d12; clear kb2))
  all_goals
    clear c0 c1 c9 c10 c11 c12
    go_wp2
    go_ret
    exact dos_take HB.out HA.out HL.out hk' h1 h2 (by first | rfl | simp)
set_option maxRecDepth 100000 in
set_option maxHeartbeats 8000000 in
theorem does_commit (h : Two w V p b k s q g L r nb va vb Ow Dn) (ha : Agr (s * q) g Ow Dn) (hL : LOk s q) (hk : k ≤ 900) (hd : nb ≤ 900) {n : Int} (hn : (Lit.int .i64 n).wf = true) (f0 f1 f2 f3 m0 m1 m2 m3 : Nat) (rr pe ds : Int) :
    Calls Try.prog 12 #[.pointer (some ⟨p, 0, none⟩), .pointer (some ⟨r, 0, none⟩), .agg #[.int .i64 2, .int .i64 n, .int .u64 f0, .int .u64 f1, .int .u64 f2, .int .u64 f3, .int .i64 rr, .int .i64 pe, .int .i64 ds, .int .u64 m0, .int .u64 m1, .int .u64 m2, .int .u64 m3]] V (Dos w V p b k s q g r nb va vb n 2) := by
  have hb := (Below.refl V.heap.size V).alloc (Nat.le_refl _) (.cells #[.int .i64 2, .int .i64 n, .int .u64 f0, .int .u64 f1, .int .u64 f2, .int .u64 f3, .int .i64 rr, .int .i64 pe, .int .i64 ds, .int .u64 m0, .int .u64 m1, .int .u64 m2, .int .u64 m3] 39)
  have kb := Bk.new V 39 #[.int .i64 2, .int .i64 n, .int .u64 f0, .int .u64 f1, .int .u64 f2, .int .u64 f3, .int .i64 rr, .int .i64 pe, .int .i64 ds, .int .u64 m0, .int .u64 m1, .int .u64 m2, .int .u64 m3]
  have hx := Lib.hid (show ¬ PX b r va vb V.heap.size from fun e => by have := h.lt _ e; omega)
  have KM := Lib.hid (fun W hW => Md.start (h.next hb) kb (W := W) hW)
  have HB := Lib.hid hb
  have HA := Lib.hid ha
  have HL := Lib.hid hL
  have HN := Lib.hid hn
  clear h ha hL hn hb
  have c0 := kb.cell 0 _ rfl
  have c1 := kb.cell 1 _ rfl
  clear kb
  go_enter Try.func12, Try.ntmps12
  go_wp2
  have HM := Lib.hid (KM.out _ (Below.refl _ _).drew)
  have HM0 := Lib.hid (KM.out _ (Below.refl _ _))
  go_region_held3 (fun W => W.cell? ⟨V.heap.size, 1, none⟩ = some (.int .i64 n))
    (first | exact c1)
    (first
      | (go_at_call 28; (with_reducible refine ((by first | exact HM.out.commit hx.out hk HN.out | exact HM0.out.commit hx.out hk HN.out : Calls Try.prog 28 _ _ _)).mono ?_); rintro _ w2 ⟨rfl, k', g', L', hk', hM, h1⟩; have kb2 := hM.bk; have d1 := kb2.cell 1 _ rfl; replace c1 := d1; clear d1; clear kb2)
      | (go_at_call 35; (with_reducible refine (hM.rcommit hx.out HL.out hd n).mono ?_); rintro _ w3 ⟨rfl, h2⟩; have kb2 := h2.bk; have d1 := kb2.cell 1 _ rfl; replace c1 := d1; clear d1; clear kb2))
  all_goals
    clear c0 c1
    go_wp2
    go_ret
    exact dos_commit HB.out HA.out HL.out hk' h1 h2 (by first | rfl | simp)
set_option maxRecDepth 100000 in
set_option maxHeartbeats 8000000 in
theorem does_release (h : Two w V p b k s q g L r nb va vb Ow Dn) (ha : Agr (s * q) g Ow Dn) (hL : LOk s q) (hd : nb ≤ 900) {n : Int} (hn : (Lit.int .i64 n).wf = true) (f0 f1 f2 f3 m0 m1 m2 m3 : Nat) (rr pe ds : Int) :
    Calls Try.prog 12 #[.pointer (some ⟨p, 0, none⟩), .pointer (some ⟨r, 0, none⟩), .agg #[.int .i64 3, .int .i64 n, .int .u64 f0, .int .u64 f1, .int .u64 f2, .int .u64 f3, .int .i64 rr, .int .i64 pe, .int .i64 ds, .int .u64 m0, .int .u64 m1, .int .u64 m2, .int .u64 m3]] V (Dos w V p b k s q g r nb va vb n 3) := by
  have hb := (Below.refl V.heap.size V).alloc (Nat.le_refl _) (.cells #[.int .i64 3, .int .i64 n, .int .u64 f0, .int .u64 f1, .int .u64 f2, .int .u64 f3, .int .i64 rr, .int .i64 pe, .int .i64 ds, .int .u64 m0, .int .u64 m1, .int .u64 m2, .int .u64 m3] 39)
  have kb := Bk.new V 39 #[.int .i64 3, .int .i64 n, .int .u64 f0, .int .u64 f1, .int .u64 f2, .int .u64 f3, .int .i64 rr, .int .i64 pe, .int .i64 ds, .int .u64 m0, .int .u64 m1, .int .u64 m2, .int .u64 m3]
  have hx := Lib.hid (show ¬ PX b r va vb V.heap.size from fun e => by have := h.lt _ e; omega)
  have KM := Lib.hid (fun W hW => Md.start (h.next hb) kb (W := W) hW)
  have HB := Lib.hid hb
  have HA := Lib.hid ha
  have HL := Lib.hid hL
  have HN := Lib.hid hn
  clear h ha hL hn hb
  have c0 := kb.cell 0 _ rfl
  have c1 := kb.cell 1 _ rfl
  clear kb
  go_enter Try.func12, Try.ntmps12
  go_wp2
  have HM := Lib.hid (KM.out _ (Below.refl _ _).drew)
  have HM0 := Lib.hid (KM.out _ (Below.refl _ _))
  go_region_held3 (fun W => W.cell? ⟨V.heap.size, 1, none⟩ = some (.int .i64 n))
    (first | exact c1)
    (first
      | (go_at_call 25; (with_reducible refine ((by first | exact HM.out.release hx.out HN.out | exact HM0.out.release hx.out HN.out : Calls Try.prog 25 _ _ _)).mono ?_); rintro _ w2 ⟨rfl, k', g', L', hk', hM, h1⟩; have kb2 := hM.bk; have d1 := kb2.cell 1 _ rfl; replace c1 := d1; clear d1; clear kb2)
      | (go_at_call 36; (with_reducible refine (hM.rrelease hx.out HL.out hd n).mono ?_); rintro _ w3 ⟨rfl, h2⟩; have kb2 := h2.bk; have d1 := kb2.cell 1 _ rfl; replace c1 := d1; clear d1; clear kb2))
  all_goals
    clear c0 c1
    go_wp2
    go_ret
    exact dos_release HB.out HA.out HL.out hk' h1 h2 (by first | rfl | simp)
set_option maxRecDepth 100000 in
set_option maxHeartbeats 8000000 in
theorem does_reserve (h : Two w V p b k s q g L r nb va vb Ow Dn) (ha : Agr (s * q) g Ow Dn) (hL : LOk s q) (hk : k ≤ 900) {n : Int} (hn : (Lit.int .i64 n).wf = true) (f0 f1 f2 f3 m0 m1 m2 m3 : Nat) (rr pe ds : Int) :
    Calls Try.prog 12 #[.pointer (some ⟨p, 0, none⟩), .pointer (some ⟨r, 0, none⟩), .agg #[.int .i64 0, .int .i64 n, .int .u64 f0, .int .u64 f1, .int .u64 f2, .int .u64 f3, .int .i64 rr, .int .i64 pe, .int .i64 ds, .int .u64 m0, .int .u64 m1, .int .u64 m2, .int .u64 m3]] V (Dos w V p b k s q g r nb va vb n 0) := by
  have hb := (Below.refl V.heap.size V).alloc (Nat.le_refl _) (.cells #[.int .i64 0, .int .i64 n, .int .u64 f0, .int .u64 f1, .int .u64 f2, .int .u64 f3, .int .i64 rr, .int .i64 pe, .int .i64 ds, .int .u64 m0, .int .u64 m1, .int .u64 m2, .int .u64 m3] 39)
  have kb := Bk.new V 39 #[.int .i64 0, .int .i64 n, .int .u64 f0, .int .u64 f1, .int .u64 f2, .int .u64 f3, .int .i64 rr, .int .i64 pe, .int .i64 ds, .int .u64 m0, .int .u64 m1, .int .u64 m2, .int .u64 m3]
  have hx := Lib.hid (show ¬ PX b r va vb V.heap.size from fun e => by have := h.lt _ e; omega)
  have KM := Lib.hid (fun W hW => Md.start (h.next hb) kb (W := W) hW)
  have HB := Lib.hid hb
  have HA := Lib.hid ha
  have HL := Lib.hid hL
  have HN := Lib.hid hn
  clear h ha hL hn hb
  have HV := Lib.hid (fun W hW => (KM.out W hW).two.lt)
  have HQ := Lib.hid (show asM (Mk.ofL (hv Ow (-1) (s * q))) s q rr pe ds = rsM s q g rr pe ds from by unfold rsM; rw [HA.out.fr HL.out.2.2.2.2])
  have HR := Lib.hid (HA.out.rs HL.out.2.2.2.2 (s := s) (q := q) rfl n rr pe ds)
  have c0 := kb.cell 0 _ rfl
  have c1 := kb.cell 1 _ rfl
  have c2 := kb.cell 2 _ rfl
  have c3 := kb.cell 3 _ rfl
  have c4 := kb.cell 4 _ rfl
  have c5 := kb.cell 5 _ rfl
  have c6 := kb.cell 6 _ rfl
  have c7 := kb.cell 7 _ rfl
  have c8 := kb.cell 8 _ rfl
  have hb61 := (Below.refl _ (V.alloc (.cells #[.int .i64 0, .int .i64 n, .int .u64 f0, .int .u64 f1, .int .u64 f2, .int .u64 f3, .int .i64 rr, .int .i64 pe, .int .i64 ds, .int .u64 m0, .int .u64 m1, .int .u64 m2, .int .u64 m3] 39))).alloc (Nat.le_refl _) (.cells #[.int .u64 f0, .int .u64 f1, .int .u64 f2, .int .u64 f3, .int .i64 rr, .int .i64 pe, .int .i64 ds] 61)
  have HM := Lib.hid (KM.out _ hb61)
  have HI := Lib.hid (HV.out _ hb61)
  clear kb hb61 KM HV
  by_cases hE : rsE s q g n rr pe ds = 0
  · have K1 := Lib.hid (HM.out.res_ok hx.out HL.out hk HN.out f0 f1 f2 f3 rr pe ds hE)
    have HE := Lib.hid hE
    clear hE
    go_enter Try.func12, Try.ntmps12
    go_wp2_with fail
    refine K1.out.mono ?_
    rintro _ w2 ⟨gm, R, g', L', c, rfl, hgm, hM, hlen, hR1, hR32, hW4, hcm, hct, hG, hMd⟩
    have HGM := Lib.hid (show ¬ RX r va vb gm from fun e => by have := HI.out gm (.inr e); omega)
    have K2 := Lib.hid (hMd.rres_ok hx.out HL.out n f0 f1 f2 f3 rr pe ds (by rw [HR.out]; exact HE.out))
    rw [HQ.out] at K2
    have HF := Lib.hid (agr_res HA.out HL.out.2.2.2.2 hG hct hW4 hcm)
    have HG := Lib.hid hG
    have kb := hMd.bk
    clear c0 c1 c2 c3 c4 c5 c6 c7 c8 K1 HM HI hgm hW4 hcm hct hG hMd HE HR HQ
    obtain ⟨ms, hms⟩ : ∃ ms, ms = rsM s q g rr pe ds := ⟨_, rfl⟩
    rw [← hms] at K2 hM hlen HF
    clear hms
    have c1 := kb.cell 1 _ rfl
    have c2 := kb.cell 2 _ rfl
    have c3 := kb.cell 3 _ rfl
    have c4 := kb.cell 4 _ rfl
    have c5 := kb.cell 5 _ rfl
    have c6 := kb.cell 6 _ rfl
    have c7 := kb.cell 7 _ rfl
    have c8 := kb.cell 8 _ rfl
    clear kb
    go_wp2_with fail
    refine K2.out.mono ?_
    rintro _ w3 ⟨gm2, R2, cap2, rfl, hM2, hlen2, hTd, hEn⟩
    obtain rfl : R = R2 := hlen.symm.trans hlen2
    have K3 := Lib.hid (told_any (masks_td hM hTd HGM.out) hlen hR1 hR32 (cap := R))
    have HE2 := Lib.hid hEn
    have HM2 := Lib.hid hM2
    have HLN := Lib.hid hlen
    clear c1 c2 c3 c4 c5 c6 c7 c8 hM hM2 hTd hEn hlen hlen2 K2 HGM
    go_wp2_with fail
    refine K3.out.mono ?_
    rintro _ w4 ⟨gt, cap3, rfl, hM3, hb4⟩
    have K4 := Lib.hid (rSame_eq gt gm2 cap3 cap2 R ms w4 hM3 (HM2.out.next hb4) HLN.out hR32)
    have HE4 := Lib.hid (HE2.out.next hb4)
    clear hM3 hb4 K3 HE2 HM2
    go_wp2_with fail
    refine K4.out.mono ?_
    rintro _ w5 ⟨rfl, hb5⟩
    go_wp2_with fail
    go_ret
    exact Dos.of HB.out (HE4.out.next hb5) (Nat.le_refl _) (by omega) HF.out (fun _ => .inr ⟨c, HG.out.2.1, HG.out.2.2.1, HG.out.2.2.2.2⟩) (by first | rfl | simp)
  · have K1 := Lib.hid (HM.out.res_no HL.out hk HN.out f0 f1 f2 f3 rr pe ds hE)
    have HE := Lib.hid hE
    clear hE HI HQ
    go_enter Try.func12, Try.ntmps12
    go_wp2_with fail
    refine K1.out.mono ?_
    rintro _ w2 ⟨rfl, hMd⟩
    have K2 := Lib.hid (hMd.rres_no HL.out n f0 f1 f2 f3 rr pe ds (by rw [HR.out]; exact HE.out))
    rw [HR.out] at K2
    have kb := hMd.bk
    clear c0 c1 c2 c3 c4 c5 c6 c7 c8 K1 HM hMd HE HR
    generalize rsE s q g n rr pe ds = er at *
    have c1 := kb.cell 1 _ rfl
    have c2 := kb.cell 2 _ rfl
    have c3 := kb.cell 3 _ rfl
    have c4 := kb.cell 4 _ rfl
    have c5 := kb.cell 5 _ rfl
    have c6 := kb.cell 6 _ rfl
    have c7 := kb.cell 7 _ rfl
    have c8 := kb.cell 8 _ rfl
    clear kb
    go_wp2_with fail
    refine K2.out.mono ?_
    rintro _ w3 ⟨rfl, hEn⟩
    have HE2 := Lib.hid hEn
    clear c1 c2 c3 c4 c5 c6 c7 c8 hEn K2
    go_wp2_with fail
    refine (told_nil _).mono ?_
    rintro _ w4 ⟨rfl, rfl⟩
    go_wp2_with fail
    refine (rSame_nil _).mono ?_
    rintro _ w5 ⟨rfl, hb5⟩
    go_wp2_with fail
    go_ret
    exact Dos.of HB.out (HE2.out.next hb5) (by omega) (by omega) HA.out (fun _ => .inl rfl) (by first | rfl | simp)
set_option maxRecDepth 100000 in
set_option maxHeartbeats 8000000 in
theorem does_other (h : Two w V p b k s q g L r nb va vb Ow Dn) (ha : Agr (s * q) g Ow Dn) (hL : LOk s q) {n : Int} (hn : (Lit.int .i64 n).wf = true) (f0 f1 f2 f3 m0 m1 m2 m3 : Nat) (rr pe ds od : Int) (h0 : ¬ od = 0) (h1 : ¬ od = 1) (h2 : ¬ od = 2) (h3 : ¬ od = 3) :
    Calls Try.prog 12 #[.pointer (some ⟨p, 0, none⟩), .pointer (some ⟨r, 0, none⟩), .agg #[.int .i64 od, .int .i64 n, .int .u64 f0, .int .u64 f1, .int .u64 f2, .int .u64 f3, .int .i64 rr, .int .i64 pe, .int .i64 ds, .int .u64 m0, .int .u64 m1, .int .u64 m2, .int .u64 m3]] V (Dos w V p b k s q g r nb va vb n od) := by
  have hb := (Below.refl V.heap.size V).alloc (Nat.le_refl _) (.cells #[.int .i64 od, .int .i64 n, .int .u64 f0, .int .u64 f1, .int .u64 f2, .int .u64 f3, .int .i64 rr, .int .i64 pe, .int .i64 ds, .int .u64 m0, .int .u64 m1, .int .u64 m2, .int .u64 m3] 39)
  have kb := Bk.new V 39 #[.int .i64 od, .int .i64 n, .int .u64 f0, .int .u64 f1, .int .u64 f2, .int .u64 f3, .int .i64 rr, .int .i64 pe, .int .i64 ds, .int .u64 m0, .int .u64 m1, .int .u64 m2, .int .u64 m3]
  have hx := Lib.hid (show ¬ PX b r va vb V.heap.size from fun e => by have := h.lt _ e; omega)
  have KM := Lib.hid (fun W hW => Md.start (h.next hb) kb (W := W) hW)
  have HB := Lib.hid hb
  have HA := Lib.hid ha
  have HL := Lib.hid hL
  have HN := Lib.hid hn
  clear h ha hL hn hb
  have t0 : (od == 0) = false := by simpa using h0
  have t1 : (od == 1) = false := by simpa using h1
  have t2 : (od == 2) = false := by simpa using h2
  have t3 : (od == 3) = false := by simpa using h3
  have c0 := kb.cell 0 _ rfl
  have HE := Lib.hid (KM.out _ (Below.refl _ _))
  have HS := Lib.hid (fun W hW => Md.same (HE.out) (W' := W) hW)
  clear kb hx KM HE HN HL h0 h1 h2 h3
  go_enter Try.func12, Try.ntmps12
  go_wp2_with fail
  go_ret
  exact Dos.of HB.out (HS.out _ (Below.refl _ _)) (by omega) (by omega) HA.out (fun _ => .inl rfl) rfl
end
end Go.Proofs.Ythmlibapjhmdbaa
/- A call on both pools, of any call of a script. -/
namespace Go.Proofs.Ythmlibapjhmdbaa
open Go.RowKit Go.Shelf Go.Maps

theorem u64_of_wf {n : Int} (h : (Lit.int .u64 n).wf = true) : ∃ m : Nat, n = m ∧ m < 2 ^ 64 := by
  have h2 : IntKind.u64.min ≤ n ∧ n ≤ IntKind.u64.max := by simpa [Lit.wf] using h
  have h3 : IntKind.u64.min = 0 := by decide
  have h4 : IntKind.u64.max = 18446744073709551615 := by decide
  rw [h3, h4] at h2
  obtain ⟨m, rfl⟩ := Int.eq_ofNat_of_zero_le h2.1
  exact ⟨m, rfl, by have := h2.2; omega⟩
theorem W4_of {a b c e : Nat} (ha : a < 2 ^ 64) (hb : b < 2 ^ 64) (hc : c < 2 ^ 64) (he : e < 2 ^ 64) : Mk.W4 [a, b, c, e] := by
  refine ⟨rfl, fun i => ?_⟩
  match i with
  | 0 => exact ha
  | 1 => exact hb
  | 2 => exact hc
  | 3 => exact he
  | i + 4 => rw [Mk.nth_getElem?, List.getElem?_eq_none (by simp)]; exact Nat.two_pow_pos 64
section
variable {w V : World} {p b k s q r nb : Nat} {g : Int → Option Sh} {L : List Int} {va vb : Value} {Ow Dn : List Int}
theorem does_any (h : Two w V p b k s q g L r nb va vb Ow Dn) (ha : Agr (s * q) g Ow Dn) (hL : LOk s q) (hk : k ≤ 900) (hd : nb ≤ 900) (o : Oq) (hn : (Lit.int .i64 o.n).wf = true) (h8 : W8 o) :
    Calls Try.prog 12 #[.pointer (some ⟨p, 0, none⟩), .pointer (some ⟨r, 0, none⟩), .agg #[.int .i64 o.d, .int .i64 o.n, .int .u64 o.f0, .int .u64 o.f1, .int .u64 o.f2, .int .u64 o.f3, .int .i64 o.r, .int .i64 o.pe, .int .i64 o.ds, .int .u64 o.m0, .int .u64 o.m1, .int .u64 o.m2, .int .u64 o.m3]] V (Dos w V p b k s q g r nb va vb o.n o.d) := by
  obtain ⟨od, on, f0, f1, f2, f3, rr, pe, ds, m0, m1, m2, m3⟩ := o
  obtain ⟨g0, g1, g2, g3, g4, g5, g6, g7⟩ := h8
  dsimp only at g0 g1 g2 g3 g4 g5 g6 g7 hn ⊢
  obtain ⟨f0, rfl, _⟩ := u64_of_wf g0
  obtain ⟨f1, rfl, _⟩ := u64_of_wf g1
  obtain ⟨f2, rfl, _⟩ := u64_of_wf g2
  obtain ⟨f3, rfl, _⟩ := u64_of_wf g3
  obtain ⟨m0, rfl, b0⟩ := u64_of_wf g4
  obtain ⟨m1, rfl, b1⟩ := u64_of_wf g5
  obtain ⟨m2, rfl, b2⟩ := u64_of_wf g6
  obtain ⟨m3, rfl, b3⟩ := u64_of_wf g7
  have hw := W4_of b0 b1 b2 b3
  by_cases e0 : od = 0
  · subst e0
    exact does_reserve h ha hL hk hn f0 f1 f2 f3 m0 m1 m2 m3 rr pe ds
  by_cases e1 : od = 1
  · subst e1
    exact does_take h ha hL hk hd hn f0 f1 f2 f3 m0 m1 m2 m3 rr pe ds hw
  by_cases e2 : od = 2
  · subst e2
    exact does_commit h ha hL hk hd hn f0 f1 f2 f3 m0 m1 m2 m3 rr pe ds
  by_cases e3 : od = 3
  · subst e3
    exact does_release h ha hL hd hn f0 f1 f2 f3 m0 m1 m2 m3 rr pe ds
  · exact does_other h ha hL hn f0 f1 f2 f3 m0 m1 m2 m3 rr pe ds od e0 e1 e2 e3
end
end Go.Proofs.Ythmlibapjhmdbaa
