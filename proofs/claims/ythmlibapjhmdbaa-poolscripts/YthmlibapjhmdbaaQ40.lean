/- A call on both pools. -/
import Derived.Test.YthmlibapjhmdbaaQ39
namespace Go.Proofs.Ythmlibapjhmdbaa
open Go.RowKit Go.Shelf Go.Maps

theorem masks_td {X : Nat → Prop} {w w' : World} {gm : Nat} {ms : List (List Nat)} (h : MasksAt w w.heap.size gm ms) (ht : Td X w w') (hx : ¬ X gm) : MasksAt w' w'.heap.size gm ms := by
  refine ⟨Nat.lt_of_lt_of_le h.1 ht.size, fun k m hm j hj => ?_⟩
  rw [← h.2 k m hm j hj]
  exact World.cell?_of_block (ht.block gm h.1 hx)
section
variable {w V W : World} {p b k s q r nb : Nat} {g : Int → Option Sh} {L : List Int} {va vb : Value} {Ow Dn : List Int} {B : Nat} {cs : Array Value}
theorem Md.rres_no (h : Md w V W p b k s q g L r nb va vb Ow Dn B cs) (hL : LOk s q) (n : Int) (x0 x1 x2 x3 rr pe d : Int) (hE : rrE s q Ow (s * q) n rr pe d ≠ 0) :
    Calls Try.prog 31 #[.pointer (some ⟨r, 0, none⟩), .int .i64 n, .agg #[.int .u64 x0, .int .u64 x1, .int .u64 x2, .int .u64 x3, .int .i64 rr, .int .i64 pe, .int .i64 d]] W fun e w' => e = .returned (.tuple #[.slice none 0 0, .int .i64 (rrE s q Ow (s * q) n rr pe d)]) ∧ En w V w' p b k s q g L r nb va vb va vb Ow Dn B cs := by
  refine (rreserve_any h.two.rp hL hL.2.2.2.2 hL.pos n x0 x1 x2 x3 rr pe d).mono ?_
  rintro e w' (⟨_, rfl, hb⟩ | ⟨h1, _⟩)
  · exact ⟨rfl, h.same hb⟩
  · exact absurd h1 hE
def RRs (w V W W' : World) (p b k s q : Nat) (g : Int → Option Sh) (L : List Int) (r nb : Nat) (va vb : Value) (Ow Dn : List Int) (B : Nat) (cs : Array Value) (n : Int) (ms : List (List Nat)) (e : Ending) : Prop :=
  ∃ gm R cap, e = .returned (.tuple #[.slice (some ⟨gm, 0, none⟩) R cap, .int .i64 0]) ∧ MasksAt W' W'.heap.size gm ms ∧ ms.length = R ∧ Td (RX r va vb) W W' ∧ En w V W' p b k s q g L r nb va vb va vb (gvs ms n Ow (s * q)) Dn B cs
theorem Md.rres_ok (h : Md w V W p b k s q g L r nb va vb Ow Dn B cs) (hx : ¬ PX b r va vb B) (hL : LOk s q) (n : Int) (x0 x1 x2 x3 rr pe d : Int) (hE : rrE s q Ow (s * q) n rr pe d = 0) :
    Calls Try.prog 31 #[.pointer (some ⟨r, 0, none⟩), .int .i64 n, .agg #[.int .u64 x0, .int .u64 x1, .int .u64 x2, .int .u64 x3, .int .i64 rr, .int .i64 pe, .int .i64 d]] W fun e w' => RRs w V W w' p b k s q g L r nb va vb Ow Dn B cs n (asM (Mk.ofL (hv Ow (-1) (s * q))) s q rr pe d) e := by
  refine (rreserve_any h.two.rp hL hL.2.2.2.2 hL.pos n x0 x1 x2 x3 rr pe d).mono ?_
  rintro e w' (⟨h1, _⟩ | ⟨_, gm, R, cap, rfl, h1, _, h3, _, h5, h6⟩)
  · exact absurd hE h1
  · exact ⟨gm, R, cap, rfl, h1, h3, h6, h.ref hx h6 h5⟩
/-- What a call on both comes to. -/
def Dos (w V : World) (p b k s q : Nat) (g : Int → Option Sh) (r nb : Nat) (va vb : Value) (n d : Int) (e : Ending) (w' : World) : Prop :=
  ∃ k' g' L' nb' va' vb' Ow' Dn', e = .returned (.bool true) ∧ k' ≤ k + 1 ∧ nb' ≤ nb + 1 ∧ Two w w' p b k' s q g' L' r nb' va' vb' Ow' Dn' ∧ Agr (s * q) g' Ow' Dn' ∧ Td (PX b r va vb) V w' ∧
    ((d = 0 ∨ d = 1) → g' = g ∨ ∃ c, (g n).isSome = false ∧ c.m ≠ Mk.zero ∧ g' = fun m => if m = n then some c else g m)
end
/-- Both turn in the same way. -/
theorem agr_put {N : Nat} {g g' : Int → Option Sh} {Ow Dn : List Int} (h : Agr N g Ow Dn) (hN : N ≤ 256) {n : Int} {c : Sh} (hG : Gvn N g g' n c) {Ow' Dn' : List Int} (hl : Ow'.length = N) (hO : ∀ x, x < N → Ow'[x]? = if Mk.hasB c.m x = true then some n else Ow[x]?) (hD : ∀ k, k ∈ Dn' ↔ k ∈ Dn ∨ (k = n ∧ c.t = true)) : Agr N g' Ow' Dn' := by
  obtain ⟨h1, h2, h3, h4, rfl⟩ := hG
  exact h.put hN h2 h1 h3 h4 hl hO hD
theorem agr_take {N : Nat} {g g' : Int → Option Sh} {Ow Dn : List Int} (h : Agr N g Ow Dn) (hN : N ≤ 256) {n : Int} {c : Sh} (hG : Gvn N g g' n c) (ht : c.t = true) : Agr N g' (gv c.m n Ow N) (Dn ++ [n]) :=
  agr_put h hN hG (by rw [gv_len, h.len]) (fun x hx => by
    rw [gv_get c.m n Ow x (by rw [h.len]; exact hx) N]
    by_cases e : Mk.hasB c.m x = true
    · rw [if_pos ⟨hx, e⟩, if_pos e]
    · rw [if_neg (fun h => e h.2), if_neg e]) (fun k => by simp [ht])
theorem agr_res {N : Nat} {g g' : Int → Option Sh} {Ow Dn : List Int} (h : Agr N g Ow Dn) (hN : N ≤ 256) {n : Int} {c : Sh} (hG : Gvn N g g' n c) (ht : c.t = false) {ms : List (List Nat)} (h4 : ∀ m ∈ ms, Mk.W4 m) (hc : c.m = orAll ms) : Agr N g' (gvs ms n Ow N) Dn :=
  agr_put h hN hG (by rw [gvs_len, h.len]) (fun x hx => by
    rw [gvs_get n N x ms Ow (by rw [h.len]; exact hx) hx, hc]
    by_cases e : Mk.hasB (orAll ms) x = true
    · rw [if_pos e, if_pos (orAll_has h4 (by omega) e)]
    · rw [if_neg e, if_neg]
      rintro ⟨m, h1, h2⟩
      exact e (has_foldN ms _ Mk.W4.zero h4 (by omega) (.inr ⟨m, h1, h2⟩))) (fun k => by simp [ht])
section
variable {w V V0 : World} {p b k s q r nb : Nat} {g : Int → Option Sh} {L : List Int} {va vb : Value} {Ow Dn : List Int}
theorem Dos.of {W : World} {g' : Int → Option Sh} {k' nb' : Nat} {va' vb' : Value} {L' Ow' Dn' : List Int} {B : Nat} {cs : Array Value} {n d : Int} (hV : Below V.heap.size V V0) (h : En w V0 W p b k' s q g' L' r nb' va vb va' vb' Ow' Dn' B cs) (hk : k' ≤ k + 1) (hn : nb' ≤ nb + 1) (ha : Agr (s * q) g' Ow' Dn') (hs : (d = 0 ∨ d = 1) → g' = g ∨ ∃ c, (g n).isSome = false ∧ c.m ≠ Mk.zero ∧ g' = fun m => if m = n then some c else g m) {x : Bool} (hx : x = true) : Dos w V p b k s q g r nb va vb n d (.returned (.bool x)) W :=
  ⟨k', g', L', nb', va', vb', Ow', Dn', by rw [hx], hk, hn, h.two, ha, (Td.of_below hV).trans h.td, hs⟩
theorem dos_take {W2 : World} {B : Nat} {cs : Array Value} {n : Int} {m : List Nat} (hV : Below V.heap.size V V0) (ha : Agr (s * q) g Ow Dn) (hL : LOk s q) {k' : Nat} {g' : Int → Option Sh} {L' : List Int} (hk : k' ≤ k + 1) (h1 : (tkE s q g n m ≠ 0 ∧ g' = g) ∨ (tkE s q g n m = 0 ∧ ∃ c : Sh, c.m = m ∧ c.t = true ∧ Gvn (s * q) g g' n c)) (h2 : RTk w V0 W2 p b k' s q g' L' r nb va vb Ow Dn B cs n m) {x : Bool} (hx : x = decide (tkE s q g n m = rtE Ow n m)) : Dos w V p b k s q g r nb va vb n 1 (.returned (.bool x)) W2 := by
  obtain ⟨nb', va', vb', Ow', Dn', hn, hE, h3⟩ := h2
  rw [ha.tk hL.2.2.2.2 rfl] at h3 hx
  have hx2 : x = true := by rw [hx]; simp
  rcases h1 with ⟨h1, rfl⟩ | ⟨h1, c, rfl, ht, hG⟩
  · rcases h3 with ⟨_, rfl, rfl⟩ | ⟨h4, _⟩
    · exact Dos.of hV hE hk hn ha (fun _ => .inl rfl) hx2
    · exact absurd h4 h1
  · rcases h3 with ⟨h4, _⟩ | ⟨_, rfl, rfl⟩
    · exact absurd h1 h4
    · exact Dos.of hV hE hk hn (agr_take ha hL.2.2.2.2 hG ht) (fun _ => .inr ⟨c, hG.2.1, hG.2.2.1, hG.2.2.2.2⟩) hx2
theorem dos_commit {W2 : World} {B : Nat} {cs : Array Value} {n : Int} (hV : Below V.heap.size V V0) (ha : Agr (s * q) g Ow Dn) (hL : LOk s q) {k' : Nat} {g' : Int → Option Sh} {L' : List Int} (hk : k' ≤ k + 1) (h1 : (cmE g n ≠ 0 ∧ g' = g) ∨ (cmE g n = 0 ∧ ∃ c, g n = some c ∧ c.t = false ∧ g' = fun m => if m = n then some ⟨c.m, true, c.ok⟩ else g m)) (h2 : RCm w V0 W2 p b k' s q g' L' r nb va vb Ow Dn B cs n) {x : Bool} (hx : x = decide (cmE g n = rcE Ow Dn n)) : Dos w V p b k s q g r nb va vb n 2 (.returned (.bool x)) W2 := by
  obtain ⟨nb', va', vb', Ow', Dn', hn, hE, h3⟩ := h2
  have hEq : rcE Ow Dn n = cmE g n := by
    unfold rcE rcB cmE
    rw [ha.rh hL.2.2.2.2]
    have hd := ha.done n
    cases hg : g n with
    | none => simp
    | some c =>
      rw [hg] at hd
      cases ht : c.t with
      | false =>
        have : n ∉ Dn := fun e => by obtain ⟨c', e1, e2⟩ := hd.1 e; cases e1; rw [ht] at e2; cases e2
        simp [this, ht]
      | true =>
        have : n ∈ Dn := hd.2 ⟨c, rfl, ht⟩
        simp [this, ht]
  rw [hEq] at h3 hx
  have hx2 : x = true := by rw [hx]; simp
  rcases h1 with ⟨h1, rfl⟩ | ⟨h1, c, hg, ht, rfl⟩
  · rcases h3 with ⟨_, rfl, rfl⟩ | ⟨h4, _⟩
    · exact Dos.of hV hE hk hn ha (fun e => by omega) hx2
    · exact absurd h4 h1
  · rcases h3 with ⟨h4, _⟩ | ⟨_, rfl, rfl⟩
    · exact absurd h1 h4
    · exact Dos.of hV hE hk hn (ha.commit hg) (fun e => by omega) hx2
theorem dos_release {W2 : World} {B : Nat} {cs : Array Value} {n : Int} (hV : Below V.heap.size V V0) (ha : Agr (s * q) g Ow Dn) (hL : LOk s q) {k' : Nat} {g' : Int → Option Sh} {L' : List Int} (hk : k' ≤ k + 1) (h1 : (rlE g n ≠ 0 ∧ g' = g) ∨ (rlE g n = 0 ∧ (g n).isSome = true ∧ g' = fun m => if m = n then none else g m)) (h2 : RRl w V0 W2 p b k' s q g' L' r nb va vb Ow Dn B cs n) {x : Bool} (hx : x = decide (rlE g n = rrlE Ow n)) : Dos w V p b k s q g r nb va vb n 3 (.returned (.bool x)) W2 := by
  obtain ⟨nb', va', vb', Ow', Dn', hn, hE, h3⟩ := h2
  have hEq : rrlE Ow n = rlE g n := by
    unfold rrlE rlE
    rw [ha.rh hL.2.2.2.2]
  rw [hEq] at h3 hx
  have hx2 : x = true := by rw [hx]; simp
  rcases h1 with ⟨h1, rfl⟩ | ⟨h1, hg, rfl⟩
  · rcases h3 with ⟨_, rfl, rfl⟩ | ⟨h4, _⟩
    · exact Dos.of hV hE hk hn ha (fun e => by omega) hx2
    · exact absurd h4 h1
  · rcases h3 with ⟨h4, _⟩ | ⟨_, rfl, rfl⟩
    · exact absurd h1 h4
    · exact Dos.of hV hE hk hn (ha.del hL.2.2.2.2 hg) (fun e => by omega) hx2
end
end Go.Proofs.Ythmlibapjhmdbaa
