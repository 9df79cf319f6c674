/- The document's pool: owner, has, give. -/
import Derived.Test.YthmlibapjhmdbaaQ25
namespace Go.Proofs.Ythmlibapjhmdbaa
open Go.RowKit Go.Shelf Go.Maps

attribute [local go_sem] eq33 eq40

set_option maxRecDepth 100000 in
set_option maxHeartbeats 400000 in
theorem rowner_any (n : Int) (w : World) : Calls Try.prog 50 #[.int .i64 n] w fun e w' => e = .returned (.bool (isOwn n)) ∧ w = w' := by
  unfold isOwn
  by_cases h : 0 ≤ n
  · have t0 : decide (0 ≤ n) = true := by simpa using h
    go_enter Try.func50, Try.ntmps50
    go_wp2_with fail
    go_ret
    exact ⟨by rw [t0]; rfl, rfl⟩
  · have t0 : decide (0 ≤ n) = false := by simpa using h
    go_enter Try.func50, Try.ntmps50
    go_wp2_with fail
    go_ret
    exact ⟨by first | rfl | (rw [t0]; rfl), rfl⟩
/-- Whether an owner has cores. -/
def rh (Ow : List Int) (n : Int) : Bool := isOwn n && decide (Mk.ofL (hv Ow n Ow.length) ≠ Mk.zero)
set_option maxRecDepth 100000 in
set_option maxHeartbeats 2000000 in
theorem rhas_any {w : World} {r s q na nb : Nat} {va vb : Value} {Ow Dn : List Int} (h : RPool w r s q va vb na nb Ow Dn) (hm : na ≤ 256) (n : Int) :
    Calls Try.prog 40 #[.pointer (some ⟨r, 0, none⟩), .int .i64 n] w fun e w' => e = .returned (.bool (rh Ow n)) ∧ Below w.heap.size w w' := by
  have KO := Lib.hid (rowner_any n)
  have KH := Lib.hid (having_any h hm n)
  have hl := h.la
  have hF := Mk.ofL_W4 (hv_lt (Ow := Ow) (n := n) hm)
  clear h
  unfold rh
  rw [hl]
  obtain ⟨m, hme⟩ : ∃ m, Mk.ofL (hv Ow n na) = m := ⟨_, rfl⟩
  rw [hme] at KH hF ⊢
  clear hme hl
  obtain ⟨z0, z1, z2, z3, rfl⟩ : ∃ z0 z1 z2 z3, m = [z0, z1, z2, z3] := ⟨_, _, _, _, Mk.len4 hF.1⟩
  replace KH : Hid (Calls Try.prog 37 #[.pointer (some ⟨r, 0, none⟩), .int .i64 n] w fun e w' => e = .returned (.agg #[.int .u64 z0, .int .u64 z1, .int .u64 z2, .int .u64 z3]) ∧ Below w.heap.size w w') := KH
  clear hF
  cases ho : isOwn n with
  | false =>
    rw [ho] at KO
    clear ho
    go_enter Try.func40, Try.ntmps40
    go_wp2_with fail
    refine (KO.out _).mono ?_
    rintro _ w1 ⟨rfl, rfl⟩
    go_wp2_with fail
    go_ret
    exact ⟨rfl, Below.refl _ _⟩
  | true =>
    rw [ho] at KO
    clear ho
    go_enter Try.func40, Try.ntmps40
    go_wp2_with fail
    refine (KO.out _).mono ?_
    rintro _ w1 ⟨rfl, rfl⟩
    go_wp2_with fail
    refine KH.out.mono ?_
    rintro _ w2 ⟨rfl, hb⟩
    go_wp2_with fail
    go_ret
    refine ⟨?_, hb⟩
    by_cases e : [z0, z1, z2, z3] = Mk.zero
    · have e2 := e
      simp [Mk.zero] at e2
      simp [e]
      omega
    · have e2 := e
      simp [Mk.zero] at e2
      simp [e]
      omega
theorem RPool.putA {w : World} {r s q na nb g cap : Nat} {vb : Value} {Ow Dn : List Int} (h : RPool w r s q (.slice (some ⟨g, 0, none⟩) na cap) vb na nb Ow Dn) (i : Nat) (x : Int) :
    RPool (w.setCell ⟨g, i, none⟩ (.int .i64 x)) r s q (.slice (some ⟨g, 0, none⟩) na cap) vb na nb (Ow.set i x) Dn ∧ r < g := by
  have hs := h.ra.stored i (.int .i64 x)
  have hq : r + 1 ≤ g := (own_blk h.ra rfl).1
  exact ⟨⟨(hs.2.block r h.blk.lt (fun e => by cases e; omega)).trans h.blk, by rw [← iv_set]; exact hs.1, own_kept h.rb hs.2 (fun g' e e2 => h.ab g rfl (e.trans e2.symm)), h.ab, by simp [h.la], h.lb⟩, hq⟩
end Go.Proofs.Ythmlibapjhmdbaa
