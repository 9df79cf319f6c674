/- told: masks of the program's, for the document. -/
import Derived.Test.YteggadafcedojaaW20
namespace Go.Proofs.Yteggadafcedojaa
open Go.RowKit Go.Shelf

theorem conj4 {W : World} {B g : Nat} {ms : List (List Nat)} {k : Nat} {m : List Nat} (h : MasksAt W B g ms) (hm : ms[k]? = some m) :
    W.cell? ⟨g, k * 4, none⟩ = some (.int .u64 (Mk.nth m 0 : Nat)) ∧ W.cell? ⟨g, k * 4 + 1, none⟩ = some (.int .u64 (Mk.nth m 1 : Nat)) ∧ W.cell? ⟨g, k * 4 + 2, none⟩ = some (.int .u64 (Mk.nth m 2 : Nat)) ∧ W.cell? ⟨g, k * 4 + 3, none⟩ = some (.int .u64 (Mk.nth m 3 : Nat)) :=
  ⟨h.2 k m hm 0 (by decide), h.2 k m hm 1 (by decide), h.2 k m hm 2 (by decide), h.2 k m hm 3 (by decide)⟩
theorem takeM_snoc (ms : List (List Nat)) (k : Nat) (m : List Nat) (h : ms[k]? = some m) : ms.take (k + 1) = ms.take k ++ [m] := by
  have hk := (List.getElem?_eq_some_iff.1 h)
  obtain ⟨hk, he⟩ := hk
  rw [List.take_succ_eq_append_getElem hk, he]

theorem own_drew {w : World} {base size n : Nat} {e : TypeId} {v : Value} {xs : List Value} (h : w.ownsRow base e size v n xs) : w.drew.ownsRow base e size v n xs := h
theorem ungrow {a w : World} {row : Option Nat} (h : a.drew.grownBy w row) : a.grownBy w row := ⟨h.os, h.tape, h.output, h.size, h.block⟩
theorem news_drew (w : World) (m : List Nat) : ∀ j u, (w4 m)[j]? = some u → ((w.alloc (.cells #[.int .u64 (Mk.nth m 0 : Nat), .int .u64 (Mk.nth m 1 : Nat), .int .u64 (Mk.nth m 2 : Nat), .int .u64 (Mk.nth m 3 : Nat)] 40)).drew).cell? ((⟨w.heap.size, 0, none⟩ : Addr).add j) = some u :=
  World.news_of_block (w := (w.alloc (.cells #[.int .u64 (Mk.nth m 0 : Nat), .int .u64 (Mk.nth m 1 : Nat), .int .u64 (Mk.nth m 2 : Nat), .int .u64 (Mk.nth m 3 : Nat)] 40)).drew) (Bk.new w 40 #[.int .u64 (Mk.nth m 0 : Nat), .int .u64 (Mk.nth m 1 : Nat), .int .u64 (Mk.nth m 2 : Nat), .int .u64 (Mk.nth m 3 : Nat)])

/-- Masks in a slice of its own. -/
def GivesM (w : World) (ms : List (List Nat)) (n : Nat) (e : Ending) (w' : World) : Prop :=
  ∃ v, e = .returned v ∧ w'.ownsRow w.heap.size 40 4 v n (mv ms) ∧ Below w.heap.size w w'

set_option maxRecDepth 100000 in
set_option maxHeartbeats 1000000 in
theorem told_any (g ca n : Nat) (ms : List (List Nat)) (w : World) (hA : MasksAt w w.heap.size g ms) (hn : ms.length = n) (hl : n ≤ 32) :
    Calls Try.prog 23 #[.slice (some ⟨g, 0, none⟩) n ca] w (GivesM w ms n) := by
  have HN := Lib.hid hn
  clear hn
  obtain ⟨i0, hi, hz0, hz1, hz2⟩ := info_parts infoB
  go_enter Try.func23, Try.ntmps23
  go_wp2_with fail
  go_loopw [3, 4] (fun o i wr => ∃ k : Nat, k ≤ n ∧ i = .int .i64 k ∧ wr.ownsRow w.heap.size 40 4 o k (mv (ms.take k)) ∧ Below w.heap.size w wr)
    (fun _ i _ => n - (intOf i).toNat)
  case atStart => exact ⟨0, Nat.zero_le _, rfl, World.ownsRow_nil _ _ _ _, Below.refl _ _⟩
  case round =>
    obtain ⟨k, hk, rfl, hrow, hb⟩ := hrel
    obtain ⟨A, cap, rfl⟩ := own_form hrow
    by_cases hlt : k < n
    · obtain ⟨m, hm⟩ : ∃ m, ms[k]? = some m := ⟨ms[k]'(by rw [HN.out]; exact hlt), List.getElem?_eq_getElem _⟩
      have HM := Lib.hid hm
      have HT := Lib.hid (takeM_snoc ms k m hm)
      have hAr := hA.below hb
      have hcs := conj4 hAr hm
      clear hm
      have i0' : (0 : Int) ≤ (k : Int) := by omega
      have i1 : (k : Int) < (n : Int) := by omega
      have hsz := hb.size
      go_wp2_with fail
      go_region_held3 (fun W => W.cell? ⟨g, k * 4, none⟩ = some (.int .u64 (Mk.nth m 0 : Nat)) ∧ W.cell? ⟨g, k * 4 + 1, none⟩ = some (.int .u64 (Mk.nth m 1 : Nat)) ∧ W.cell? ⟨g, k * 4 + 2, none⟩ = some (.int .u64 (Mk.nth m 2 : Nat)) ∧ W.cell? ⟨g, k * 4 + 3, none⟩ = some (.int .u64 (Mk.nth m 3 : Nat)))
        (first | exact hcs | exact conj4 hA1 HM.out | exact conj4 (hAr.below ((Below.refl _ wr).alloc hsz _).drew) HM.out)
        (first | ((refine step_append_lies _ (by rfl) _ _ 52 (by rfl) w.heap.size 40 i0 (.agg #[.int .u64 0, .int .u64 0, .int .u64 0, .int .u64 0]) 4 32 Try.underlying52 hi hz0 hz1 hz2 (by rfl) (by decide) (.slice A k cap) k (mv (ms.take k)) (by rfl) (own_drew (hrow.alloc _)) ⟨wr.heap.size, 0, none⟩ 1 1 (w4 m) (by rfl) (by rfl) (news_drew wr m) (by simp [w4, Value.oneCell']) (by decide) (by unfold maxLen; omega) (by omega) (by simp; omega) (wr.heap.size + 1) (by simp) ?_; intro g' cap' w1 hown' hgrow hat hlt'; have hb1 := appended_below hrow hsz (ungrow hgrow); have hA1 := hAr.below hb1)))
      go_wp2_with fail
      go_roundw
      case rel => exact ⟨k + 1, by omega, by go_num, by rw [HT.out, mv_snoc]; exact hown', hb.trans hb1⟩
      case measure => simp [intOf]; omega
    · obtain rfl : k = n := by omega
      rw [List.take_of_length_le (by rw [HN.out]; exact Nat.le_refl _)] at hrow
      go_wp2_with fail
      go_ret
      exact ⟨_, rfl, hrow, hb⟩

set_option maxRecDepth 100000 in
set_option maxHeartbeats 1000000 in
theorem told_nil (w : World) : Calls Try.prog 23 #[.slice none 0 0] w fun e w' => e = .returned (.slice none 0 0) ∧ Below w.heap.size w w' := by
  go_enter Try.func23, Try.ntmps23
  go_wp2_with fail
  go_loop [3, 4] (fun o i => o = .slice none 0 0 ∧ i = .int .i64 0) (fun _ _ => 0)
  case atStart => exact ⟨rfl, rfl⟩
  case round =>
    obtain ⟨rfl, rfl⟩ := hrel
    go_wp2_with fail
    go_ret
    exact ⟨rfl, Below.refl _ _⟩

/-- Make, of a part of a slice of its own. -/
theorem make_part {xs : List Nat} {base gz cap n lo q : Nat} {w : World} (hz : xs.length = n) (hx : ∀ x ∈ xs, x < 256) (hrow : w.ownsRow base 3 1 (.slice (some ⟨gz, 0, none⟩) n cap) n (nv xs)) (hq : lo + q ≤ n) (hl : q ≤ 256) (c2 : Nat) :
    Calls Try.prog 38 #[.slice (some ⟨gz, lo, none⟩) q c2] w fun e w' => e = .returned (.agg #[.int .u64 (Mk.nth (Mk.ofL ((xs.drop lo).take q)) 0 : Nat), .int .u64 (Mk.nth (Mk.ofL ((xs.drop lo).take q)) 1 : Nat), .int .u64 (Mk.nth (Mk.ofL ((xs.drop lo).take q)) 2 : Nat), .int .u64 (Mk.nth (Mk.ofL ((xs.drop lo).take q)) 3 : Nat)]) ∧ Below w.heap.size w w' := by
  have hw := nats_nv hz hrow
  have hsub : ((xs.drop lo).take q).Sublist xs := (List.take_sublist _ _).trans (List.drop_sublist _ _)
  have hx2 : ∀ x ∈ (xs.drop lo).take q, x < 256 := fun x h => hx x (hsub.subset h)
  have hlen : ((xs.drop lo).take q).length = q := by simp; omega
  have hA : NatsAt w w.heap.size (some ⟨gz, lo, none⟩) ((xs.drop lo).take q) := by
    rcases hw with h0 | ⟨ad, h1, h2, h3⟩
    · left; rw [h0]; simp
    · obtain rfl : (⟨gz, 0, none⟩ : Addr) = ad := by injection h1
      refine .inr ⟨_, rfl, h2, fun j hj => ?_⟩
      have hj2 : j < q := by omega
      have e1 : (⟨gz, lo, none⟩ : Addr).add j = (⟨gz, 0, none⟩ : Addr).add (lo + j) := by
        have a1 : (⟨gz, lo, none⟩ : Addr).add j = ⟨gz, lo + j, none⟩ := by unfold Addr.add; split <;> simp_all
        have a2 : (⟨gz, 0, none⟩ : Addr).add (lo + j) = ⟨gz, lo + j, none⟩ := by unfold Addr.add; split <;> simp_all
        rw [a1, a2]
      rw [e1, h3 (lo + j) (by omega)]
      congr 3
      rw [Mk.nth_getElem?, Mk.nth_getElem?, List.getElem?_take, if_pos hj2, List.getElem?_drop]
  have := make_any (some ⟨gz, lo, none⟩) c2 q _ w hA hlen (by omega)
  rw [wds_ofL hx2, vs4 (Mk.ofL_W4 hx2).1] at this
  exact this
end Go.Proofs.Yteggadafcedojaa
