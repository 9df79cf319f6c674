/- Nets: takeAt, Take, Drop. -/
import Derived.Test.YtlhfijjjfolldaaA3
namespace Go.Proofs.Ytlhfijjjfolldaa
open Go.RowKit Go.Maps

/-- The place of a number. -/
def plc (l : List Str) (i : Int) : Nat := (i % (l.length : Int)).toNat
theorem plc_cast {l : List Str} (hl : 0 < l.length) (i : Int) : ((plc l i : Nat) : Int) = i % (l.length : Int) ∧ plc l i < l.length := by
  have h1 := Int.emod_nonneg i (show (l.length : Int) ≠ 0 by omega)
  have h2 := Int.emod_lt_of_pos i (show (0 : Int) < l.length by omega)
  unfold plc
  omega
theorem row_some {w : World} {p : Nat} {v : Value} {l : List Str} (h : w.ownsRow p 9 1 v l.length (sv l)) (hl : 0 < l.length) : ∃ g cap, v = .slice (some ⟨g, 0, none⟩) l.length cap := by
  rcases h.2 with ⟨_, h0⟩ | ⟨g, cap, _, e, _⟩
  · omega
  · exact ⟨g, cap, e⟩
theorem row_cell {w : World} {p g cap i : Nat} {l : List Str} {x : Str} (h : w.ownsRow p 9 1 (.slice (some ⟨g, 0, none⟩) l.length cap) l.length (sv l)) (hx : l[i]? = some x) : w.cell? ⟨g, i, none⟩ = some (.string x) := by
  have := h.cells (g := g) rfl i (.string x) (by rw [sv_get, hx]; rfl)
  rwa [add_at] at this
theorem NtAt.len {w : World} {p : Nat} {m k : Int} {v : Value} {l : List Str} (h : NtAt w p m v l k) : l.length ≤ 1000 := by
  have h1 := h.fit
  have h2 := h.m2
  omega
/-- A net whose row was turned in place, or made anew, and is stored. -/
theorem NtAt.store {w w1 : World} {p : Nat} {m k : Int} {v v' : Value} {l l' : List Str} (h : NtAt w p m v l k) (hg : w.grownBy w1 v.ownBlock) (hr : w1.ownsRow p 9 1 v' l'.length (sv l')) (hf : (l'.length : Int) ≤ m) (hn : ∀ g, v'.ownBlock = some g → v.ownBlock = some g ∨ w.heap.size ≤ g) :
    w1.cell? ⟨p, 1, none⟩ = some v ∧ w1.frozen? ⟨p, 1, none⟩ = false ∧ NtAt (w1.setCell ⟨p, 1, none⟩ v') p m v' l' k ∧ Tn w (w1.setCell ⟨p, 1, none⟩ v') p v v' := by
  have hk : Bk w1 p 47 #[.int .i64 m, v, .int .i64 k] := (hg.block p h.blk.lt (fun e => h.ne e.symm)).trans h.blk
  refine ⟨hk.cell 1 _ rfl, hk.frozen 1, ⟨hk.set 1 v', row_kept hr fun g e => Below.heap_setCell _ _ _ _ ?_, hf, h.m1, h.m2⟩, ⟨(Td.grown hg fun g e => .inr e).trans (Td.set _ (.inl rfl) _), hn⟩⟩
  rintro rfl
  obtain ⟨_, cs, hk'⟩ := row_bk hr e
  exact bk_ne hk' hk (by decide) rfl
set_option maxRecDepth 100000 in
set_option maxHeartbeats 1000000 in
theorem takeAt_any {w : World} {p : Nat} {m k : Int} {v : Value} {l : List Str} (h : NtAt w p m v l k) (i : Nat) (x : Str) (hx : l[i]? = some x) :
    Calls Try.prog 27 #[.pointer (some ⟨p, 1, none⟩), .int .i64 i] w fun e w' => e = .returned (.string x) ∧ ∃ v', NtAt w' p m v' (l.eraseIdx i) k ∧ Tn w w' p v v' := by
  have hi := (List.getElem?_eq_some_iff.1 hx).1
  obtain ⟨g, cap, rfl⟩ := row_some h.row (by omega)
  have c1 := h.blk.cell 1 _ rfl
  have x0 := row_cell h.row hx
  have hlen := h.len
  have KD := Lib.hid (delete_any h.row i (i + 1) l.length rfl rfl hi)
  have hl' : (l.eraseIdx i).length = l.length - 1 := by rw [List.length_eraseIdx, if_pos hi]
  have HS := Lib.hid (fun w1 (q1 : w1.ownsRow p 9 1 (.slice (some ⟨g, 0, none⟩) (l.length - 1) cap) (l.length - 1) (sv (l.eraseIdx i))) (q2 : w.grownBy w1 (some g)) => h.store (v' := .slice (some ⟨g, 0, none⟩) (l.length - 1) cap) (l' := l.eraseIdx i) q2 (by rw [hl']; exact q1) (by rw [hl']; have := h.fit; omega) (fun g' e => .inl e))
  have i0 : (0 : Int) ≤ (i : Int) := by omega
  have i1 : (i : Int) < (l.length : Int) := by omega
  have ei : ((i + 1 : Nat) : Int) = (i : Int) + 1 := by omega
  rw [ei] at KD
  clear hx h hl' hi ei
  generalize l.length = n at *
  go_enter Try.func27, Try.ntmps27
  go_wp2_with fail
  refine KD.out.mono ?_
  rintro _ w1 ⟨rfl, q1, q2⟩
  obtain ⟨z1, z2, z3, z4⟩ := HS.out w1 q1 q2
  have Z3 := Lib.hid z3
  have Z4 := Lib.hid z4
  clear q1 q2 KD HS z3 z4
  go_wp2_with fail
  go_ret
  exact ⟨rfl, _, Z3.out, Z4.out⟩
theorem place_s (i : Int) (k : Nat) (hk : 0 < k) (hm : k ≤ 1000000) (w : World) :
    Calls Try.prog 28 #[.int .i64 i, .int .i64 (k : Int)] w fun e w' => e = .returned (.int .i64 (i % (k : Int))) ∧ w' = w :=
  (place_any i k hk hm w).mono fun _ _ q => ⟨q.1, q.2.symm⟩
theorem size_s {w : World} {p : Nat} {m k : Int} {v : Value} {l : List Str} (h : NtAt w p m v l k) :
    Calls Try.prog 26 #[.pointer (some ⟨p, 0, none⟩)] w fun e w' => e = .returned (.int .i64 (l.length : Int)) ∧ w' = w :=
  (size_any h).mono fun _ _ q => ⟨q.1, q.2.symm⟩
def tkS (l : List Str) (i : Int) : Str := (l[plc l i]?).getD ⟨#[]⟩
def tkL (l : List Str) (i : Int) : List Str := l.eraseIdx (plc l i)
set_option maxRecDepth 100000 in
set_option maxHeartbeats 2000000 in
theorem take_any {w : World} {p : Nat} {m k : Int} {v : Value} {l : List Str} (h : NtAt w p m v l k) (i : Int) :
    Calls Try.prog 17 #[.pointer (some ⟨p, 0, none⟩), .int .i64 i] w fun e w' => e = .returned (.tuple #[.string (tkS l i), .bool (!l.isEmpty)]) ∧ ∃ v', NtAt w' p m v' (tkL l i) k ∧ Tn w w' p v v' := by
  have KS := Lib.hid (size_any h)
  have hlen := h.len
  rcases hl : l with _ | ⟨y, r⟩
  · subst hl
    have H := Lib.hid h
    clear h
    go_enter Try.func17, Try.ntmps17
    go_wp2_with fail
    refine KS.out.mono ?_
    rintro _ w1 ⟨rfl, rfl⟩
    go_wp2_with fail
    go_ret2
    exact ⟨rfl, _, H.out, Tn.same (Below.refl _ _)⟩
  · rw [← hl]
    have hl0 : 0 < l.length := by rw [hl]; simp
    have hne : l.isEmpty = false := by rw [hl]; rfl
    rw [hne]
    obtain ⟨hp1, hp2⟩ := plc_cast hl0 i
    obtain ⟨x, hx⟩ : ∃ x, l[plc l i]? = some x := ⟨_, List.getElem?_eq_getElem hp2⟩
    have HX := Lib.hid (show tkS l i = x from by unfold tkS; rw [hx]; rfl)
    have KT := Lib.hid (fun w1 (q : NtAt w1 p m v l k) => takeAt_any q (plc l i) x hx)
    have KP := Lib.hid (fun W => place_s i l.length hl0 (by omega) W)
    rw [← hp1] at KP
    have H := Lib.hid h
    have hn0 : ((l.length : Int) == 0) = false := by
      have : ¬ ((l.length : Int) = 0) := by omega
      simpa using this
    have HTL : Hid (l.eraseIdx (plc l i) = tkL l i) := rfl
    generalize plc l i = j at *
    clear hl hne hp1 hx h
    go_enter Try.func17, Try.ntmps17
    go_wp2_with fail
    refine KS.out.mono ?_
    rintro _ w1 ⟨rfl, rfl⟩
    go_wp2_with fail
    refine region_tail 7 (by kernel_rfl) (by kernel_rfl) (fun w2 hw2 => ?_)
    have h2 : NtAt w2 p m v l k := by rw [hw2.out]; exact H.out.next (Below.refl _ _).drew
    have T2 : Hid (Tn w w2 p v v) := by
      rw [hw2.out]
      exact Tn.same (Below.refl _ _).drew
    have KS2 := Lib.hid (size_s h2)
    have H2 := Lib.hid h2
    clear hw2 h2
    simp only [List.take_succ_cons, List.take_zero, List.drop_succ_cons, List.drop_zero]
    repeat still_step
    still_call KS2.out
    repeat still_step
    still_call (KP.out _)
    repeat still_step
    refine wpStill_nil ?_
    go_wp2_with fail
    refine (KT.out _ H2.out).mono ?_
    rintro _ w3 ⟨rfl, v', q1, q2⟩
    have Q1 := Lib.hid q1
    have Q2 := Lib.hid q2
    clear q1 q2
    go_wp2_with fail
    go_ret2
    exact ⟨by rw [HX.out]; rfl, v', by rw [← HTL.out]; exact Q1.out, T2.out.trans Q2.out⟩
end Go.Proofs.Ytlhfijjjfolldaa
