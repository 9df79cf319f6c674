/- A pool: Reserve of any owner, any wish. -/
import Derived.Test.YthmlibapjhmdbaaQ11
import Derived.Test.YthmlibapjhmdbaaW23
namespace Go.Proofs.Ythmlibapjhmdbaa
open Go.RowKit Go.Shelf Go.Maps

theorem has_orN {a b : List Nat} (ha : Mk.W4 a) (hb : Mk.W4 b) {d : Nat} (hd : d < 256) : Mk.hasB (zw Nat.lor a b) d = (Mk.hasB a d || Mk.hasB b d) := by
  unfold Mk.hasB
  rw [zw_nth ha.1 hb.1 (by omega)]
  exact Nat.testBit_or _ _ _
theorem has_foldN : ∀ (ms : List (List Nat)) (a : List Nat), Mk.W4 a → (∀ m ∈ ms, Mk.W4 m) → ∀ {d : Nat}, d < 256 → (Mk.hasB a d = true ∨ ∃ m, m ∈ ms ∧ Mk.hasB m d = true) → Mk.hasB (ms.foldl (zw Nat.lor) a) d = true
  | [], a, _, _, d, _, h => by
    rcases h with h | ⟨m, hm, _⟩
    · exact h
    · cases hm
  | x :: ms, a, ha, hm, d, hd, h => has_foldN ms _ (lor_W4 ha (hm x List.mem_cons_self)) (fun y hy => hm y (List.mem_cons_of_mem _ hy)) hd (by
      rcases h with h | ⟨m, h1, h2⟩
      · exact .inl (by rw [has_orN ha (hm x List.mem_cons_self) hd, h]; rfl)
      · rcases List.mem_cons.1 h1 with rfl | h1
        · exact .inl (by rw [has_orN ha (hm _ List.mem_cons_self) hd, h2, Bool.or_true])
        · exact .inr ⟨m, h1, h2⟩)
theorem orAll_some {ms : List (List Nat)} (h4 : ∀ m ∈ ms, Mk.W4 m) {m : List Nat} (hm : m ∈ ms) {d : Nat} (hd : d < 256) (h : Mk.hasB m d = true) : orAll ms ≠ Mk.zero := by
  intro e
  have := has_foldN ms _ Mk.W4.zero h4 hd (.inr ⟨m, hm, h⟩)
  unfold orAll at e
  rw [e, Mk.has_zero] at this
  cases this
theorem ranks_some {zs : List Core} {r q : Nat} (hr : 1 ≤ r) (hq : 1 ≤ q) (hz : 1 ≤ zs.length) : orAll (ranks zs r q) ≠ Mk.zero := by
  cases zs with
  | nil => simp at hz
  | cons z zs =>
    refine orAll_some (ranks_W4 _ r q) (List.mem_of_getElem? (ranks_get (z :: zs) r q 0 (by omega))) z.2 (d := z.1) ?_
    rw [Mk.has_ofL (fun x hx => core_lt (z :: zs) x (List.mem_of_mem_drop (List.mem_of_mem_take hx)))]
    obtain ⟨q', rfl⟩ : ∃ q', q = q' + 1 := ⟨q - 1, by omega⟩
    simp

set_option maxRecDepth 100000 in
set_option maxHeartbeats 1000000 in
theorem reserve_bad {w : World} {p b k s q : Nat} {g : Int → Option Sh} (h : PoolAt w p b k s q g) {n : Int} (hn : (Lit.int .i64 n).wf = true) (x0 x1 x2 x3 : Nat) (r pe d : Int) (KO : ∀ V : World, Calls Try.prog 45 #[.int .i64 n] V fun e w' => e = .returned (.bool false) ∧ V = w') : Calls Try.prog 26 #[.pointer (some ⟨p, 0, none⟩), .int .i64 n, .agg #[.int .u64 x0, .int .u64 x1, .int .u64 x2, .int .u64 x3, .int .i64 r, .int .i64 pe, .int .i64 d]] w fun e w' => e = .returned (.tuple #[.slice none 0 0, .int .i64 1]) ∧ Below w.heap.size w w' := by
  replace KO := Lib.hid KO
  have HN := Lib.hid hn
  have hb0 := (Below.refl _ w).alloc (Nat.le_refl _) (.cells #[.int .u64 x0, .int .u64 x1, .int .u64 x2, .int .u64 x3, .int .i64 r, .int .i64 pe, .int .i64 d] 61)
  replace h := h.next hb0
  go_enter Try.func26, Try.ntmps26
  go_wp2_with fail
  refine (KO.out _).mono ?_
  rintro e w1 ⟨rfl, rfl⟩
  go_wp2_with fail
  go_ret2
  exact ⟨rfl, hb0⟩

/-- What Reserve gives: masks that have a core, together the owner's. -/
def Got (w w' : World) (p b k s q : Nat) (g : Int → Option Sh) (n : Int) (e : Ending) : Prop :=
  ∃ (gm R : Nat) (ms : List (List Nat)) (c : Sh), e = .returned (.tuple #[.slice (some ⟨gm, 0, none⟩) R R, .int .i64 0]) ∧ w.heap.size ≤ gm ∧ Row .u64 40 w' gm ms.flatten ∧ (∀ m ∈ ms, Mk.W4 m) ∧ ms.length = R ∧ R ≤ 32 ∧ c.m = orAll ms ∧ c.t = false ∧ c.m ≠ Mk.zero ∧ Turned w w' p b (k + 1) s q (fun m => if m = n then some c else g m)
theorem reserve_any {w : World} {p b k s q : Nat} {g : Int → Option Sh} (h : PoolAt w p b k s q g) (hL : LOk s q) {n : Int} (hn : (Lit.int .i64 n).wf = true) (x0 x1 x2 x3 : Nat) (r pe d : Int) (hk : k < 1000000) : Calls Try.prog 26 #[.pointer (some ⟨p, 0, none⟩), .int .i64 n, .agg #[.int .u64 x0, .int .u64 x1, .int .u64 x2, .int .u64 x3, .int .i64 r, .int .i64 pe, .int .i64 d]] w fun e w' => (∃ er : Int, e = .returned (.tuple #[.slice none 0 0, .int .i64 er]) ∧ er ≠ 0 ∧ Below w.heap.size w w') ∨ Got w w' p b k s q g n e := by
  cases ho : isOwn n with
  | false =>
    refine (reserve_bad h hn x0 x1 x2 x3 r pe d (fun V => by have := isOwner_any n V; rw [ho] at this; exact this)).mono ?_
    rintro e w' ⟨rfl, hb⟩
    exact .inl ⟨1, rfl, by decide, hb⟩
  | true =>
    have KO : ∀ V : World, Calls Try.prog 45 #[.int .i64 n] V fun e w' => e = .returned (.bool true) ∧ V = w' := fun V => by have := isOwner_any n V; rw [ho] at this; exact this
    cases hg : (g n).isSome with
    | true =>
      refine (reserve_has h hn x0 x1 x2 x3 r pe d KO hg).mono ?_
      rintro e w' ⟨rfl, hb⟩
      exact .inl ⟨14, rfl, by decide, hb⟩
    | false =>
      have hF := freeM_W4 (Mk.ofL (List.range (s * q))) g
      have KF0 : ∀ V : World, PoolAt V p b k s q g → Calls Try.prog 13 #[.pointer (some ⟨p, 0, none⟩)] V fun e w' => e = .returned (.agg (vs .u64 (freeM (Mk.ofL (List.range (s * q))) g))) ∧ Below V.heap.size V w' := fun V hV => free_fix hV hL
      revert KF0 hF
      generalize freeM (Mk.ofL (List.range (s * q))) g = F
      intro hF KF0
      obtain ⟨f0, f1, f2, f3, rfl⟩ : ∃ f0 f1 f2 f3, F = [f0, f1, f2, f3] := ⟨_, _, _, _, Mk.len4 hF.1⟩
      have KF : ∀ V : World, PoolAt V p b k s q g → Calls Try.prog 13 #[.pointer (some ⟨p, 0, none⟩)] V fun e w' => e = .returned (.agg #[.int .u64 f0, .int .u64 f1, .int .u64 f2, .int .u64 f3]) ∧ Below V.heap.size V w' := KF0
      by_cases hd : d = 0 ∨ d = 1
      · obtain ⟨fid, of, hD⟩ : ∃ fid of, IsDist d fid s q of := by
          rcases hd with rfl | rfl
          · exact ⟨84, id, .inl ⟨rfl, rfl, rfl⟩⟩
          · exact ⟨85, cyc s q, .inr ⟨rfl, rfl, rfl⟩⟩
        rcases ROk_or r pe with ⟨a, c, rfl, rfl, hR⟩ | hR
        · by_cases hf : (fr [f0, f1, f2, f3] (upto of (s * q))).length < a * c
          · refine (reserve_few h hn x0 x1 x2 x3 a c d f0 f1 f2 f3 12 (by decide) KO hg KF (fun V => assign_few hD a c f0 f1 f2 f3 V hL hR hF hf)).mono ?_
            rintro e w' ⟨rfl, hb⟩
            exact .inl ⟨12, rfl, by decide, hb⟩
          · have hz : 1 ≤ (wished [f0, f1, f2, f3] of (s * q) (a * c)).length := by
              have := mul_pos' hR
              unfold wished
              rw [List.length_take]
              omega
            have hS := ranks_some hR.1 hR.2.2.1 hz
            have hl := ranks_len (wished [f0, f1, f2, f3] of (s * q) (a * c)) a c
            have hW4 := ranks_W4 (wished [f0, f1, f2, f3] of (s * q) (a * c)) a c
            have KA : ∀ V : World, Calls Try.prog 46 #[.agg #[.int .i64 s, .int .i64 q], .agg #[.int .u64 f0, .int .u64 f1, .int .u64 f2, .int .u64 f3, .int .i64 a, .int .i64 c, .int .i64 d]] V (Lays V (ranks (wished [f0, f1, f2, f3] of (s * q) (a * c)) a c) a) := fun V => assign_ok hD a c f0 f1 f2 f3 V hL hR hF (by omega)
            revert hS hl hW4 KA
            generalize ranks (wished [f0, f1, f2, f3] of (s * q) (a * c)) a c = ms
            intro hS hl hW4 KA
            have hor := orAll_W4 ms hW4
            obtain ⟨a0, a1, a2, a3, ea⟩ : ∃ a0 a1 a2 a3, orAll ms = [a0, a1, a2, a3] := ⟨_, _, _, _, Mk.len4 hor.1⟩
            refine (reserve_ok h hn x0 x1 x2 x3 a c d hk ⟨orAll ms, false, hor⟩ f0 f1 f2 f3 a0 a1 a2 a3 a ms.flatten ea rfl KO hg KF KA (fun V gm hr => by
              have := union_any gm a a ms V (masks_row hr (fun m hm => (hW4 m hm).1)) hW4 hl hR.2.1
              rw [ea] at this
              exact this)).mono ?_
            rintro e w' ⟨gm, rfl, h1, h2, h3⟩
            exact .inr ⟨gm, a, ms, ⟨orAll ms, false, hor⟩, rfl, h1, h2, hW4, hl, hR.2.1, rfl, rfl, hS, h3⟩
        · refine (reserve_few h hn x0 x1 x2 x3 r pe d f0 f1 f2 f3 1 (by decide) KO hg KF (fun V => assign_arg hD r pe f0 f1 f2 f3 V hL hR)).mono ?_
          rintro e w' ⟨rfl, hb⟩
          exact .inl ⟨1, rfl, by decide, hb⟩
      · refine (reserve_few h hn x0 x1 x2 x3 r pe d f0 f1 f2 f3 1 (by decide) KO hg KF (fun V => assign_no s q d r pe f0 f1 f2 f3 V (fun W => dist_none s q d W hL (by simpa using fun h => hd (.inl h)) (by simpa using fun h => hd (.inr h))))).mono ?_
        rintro e w' ⟨rfl, hb⟩
        exact .inl ⟨1, rfl, by decide, hb⟩
end Go.Proofs.Ythmlibapjhmdbaa
