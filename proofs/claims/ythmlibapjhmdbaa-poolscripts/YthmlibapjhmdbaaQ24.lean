/- A pool: Take, Commit of any owner; what Reserve gives was free. -/
import Derived.Test.YthmlibapjhmdbaaQ19
namespace Go.Proofs.Ythmlibapjhmdbaa
open Go.RowKit Go.Shelf Go.Maps

theorem fold_has : ∀ (ms : List (List Nat)) (a : List Nat), Mk.W4 a → (∀ m ∈ ms, Mk.W4 m) → ∀ {d : Nat}, d < 256 → Mk.hasB (ms.foldl (zw Nat.lor) a) d = true → Mk.hasB a d = true ∨ ∃ m, m ∈ ms ∧ Mk.hasB m d = true
  | [], _, _, _, _, _, h => .inl h
  | x :: ms, a, ha, hm, d, hd, h => by
    rcases fold_has ms _ (lor_W4 ha (hm x List.mem_cons_self)) (fun y hy => hm y (List.mem_cons_of_mem _ hy)) hd h with h1 | ⟨m, h1, h2⟩
    · rw [has_orN ha (hm x List.mem_cons_self) hd, Bool.or_eq_true] at h1
      rcases h1 with h1 | h1
      · exact .inl h1
      · exact .inr ⟨x, List.mem_cons_self, h1⟩
    · exact .inr ⟨m, List.mem_cons_of_mem _ h1, h2⟩
theorem orAll_has {ms : List (List Nat)} (h4 : ∀ m ∈ ms, Mk.W4 m) {d : Nat} (hd : d < 256) (h : Mk.hasB (orAll ms) d = true) : ∃ m, m ∈ ms ∧ Mk.hasB m d = true := by
  rcases fold_has ms _ Mk.W4.zero h4 hd h with h1 | h1
  · rw [Mk.has_zero] at h1
    cases h1
  · exact h1
theorem orAll_lt {ms : List (List Nat)} (h4 : ∀ m ∈ ms, Mk.W4 m) {d : Nat} (h : Mk.hasB (orAll ms) d = true) : d < 256 := by
  rcases Nat.lt_or_ge d 256 with l | l
  · exact l
  · rw [Mk.has_out (orAll_W4 ms h4).1 d l] at h
    cases h
theorem ranks_free {F : List Nat} (of : Nat → Nat) (N n r q : Nat) {d : Nat} (h : Mk.hasB (orAll (ranks (wished F of N n) r q)) d = true) : Mk.hasB F d = true := by
  have h4 := ranks_W4 (wished F of N n) r q
  obtain ⟨m, hm, hx⟩ := orAll_has h4 (orAll_lt h4 h) h
  obtain ⟨i, _, rfl⟩ := List.mem_map.1 hm
  rw [Mk.has_ofL (fun x hx => core_lt (wished F of N n) x (List.mem_of_mem_drop (List.mem_of_mem_take hx))), decide_eq_true_eq] at hx
  obtain ⟨c, hc, rfl⟩ := List.mem_map.1 (List.mem_of_mem_drop (List.mem_of_mem_take hx))
  exact (List.mem_filter.1 (List.mem_of_mem_take hc)).2

theorem commit_any {w : World} {p b k s q : Nat} {g : Int → Option Sh} (h : PoolAt w p b k s q g) {n : Int} (hn : (Lit.int .i64 n).wf = true) (hk : k < 1000000) :
    Calls Try.prog 28 #[.pointer (some ⟨p, 0, none⟩), .int .i64 n] w fun e w' => (e = .returned (.int .i64 14) ∧ ((g n).isSome = true → ((g n).getD Sh.none).t = true) ∧ Below w.heap.size w w') ∨ ∃ c, g n = some c ∧ c.t = false ∧ e = .returned (.int .i64 0) ∧ Turned w w' p b (k + 1) s q (fun m => if m = n then some ⟨c.m, true, c.ok⟩ else g m) := by
  have c2 := h.cells.2.2
  have hl := (h.look hn).1
  cases hg : g n with
  | none =>
    rw [hg] at hl
    refine (commit_no p b n _ _ _ _ _ _ w c2 (.inl rfl) hl).mono ?_
    rintro e w' ⟨rfl, hb⟩
    exact .inl ⟨rfl, fun x => (by cases x), hb⟩
  | some c =>
    cases ht : c.t with
    | true =>
      rw [hg] at hl
      refine (commit_no p b n _ _ _ _ _ _ w c2 (.inr ⟨rfl, ht⟩) hl).mono ?_
      rintro e w' ⟨rfl, hb⟩
      exact .inl ⟨rfl, fun _ => ht, hb⟩
    | false =>
      refine (commit_ok h hn hg ht hk).mono ?_
      rintro e w' ⟨rfl, hT⟩
      exact .inr ⟨c, rfl, ht, rfl, hT⟩
theorem zero_iff (a0 a1 a2 a3 : Nat) : ((a0 : Int) == 0 && (a1 : Int) == 0 && (a2 : Int) == 0 && (a3 : Int) == 0) = decide ([a0, a1, a2, a3] = Mk.zero) := by
  rw [Bool.eq_iff_iff]
  simp [Mk.zero]
  omega
/-- Take of any owner, any mask. -/
theorem take_any {w : World} {p b k s q : Nat} {g : Int → Option Sh} (h : PoolAt w p b k s q g) (hL : LOk s q) {n : Int} (hn : (Lit.int .i64 n).wf = true) (a0 a1 a2 a3 : Nat) (ha : Mk.W4 [a0, a1, a2, a3]) (hk : k < 1000000) :
    Calls Try.prog 27 #[.pointer (some ⟨p, 0, none⟩), .int .i64 n, .agg #[.int .u64 a0, .int .u64 a1, .int .u64 a2, .int .u64 a3]] w fun e w' =>
      (∃ er : Int, e = .returned (.int .i64 er) ∧ er ≠ 0 ∧ Below w.heap.size w w') ∨
      (e = .returned (.int .i64 0) ∧ isOwn n = true ∧ (g n).isSome = false ∧ [a0, a1, a2, a3] ≠ Mk.zero ∧ (∀ d, d < 256 → Mk.hasB [a0, a1, a2, a3] d = true → Mk.hasB (freeM (Mk.ofL (List.range (s * q))) g) d = true) ∧ Turned w w' p b (k + 1) s q (fun m => if m = n then some ⟨[a0, a1, a2, a3], true, ha⟩ else g m)) := by
  cases ho : isOwn n with
  | false =>
    refine (take_none h hn a0 a1 a2 a3 (fun V => by have := isOwner_any n V; rw [ho] at this; exact this)).mono ?_
    rintro e w' ⟨rfl, hb⟩
    exact .inl ⟨1, rfl, by decide, hb⟩
  | true =>
    have KO : ∀ V : World, Calls Try.prog 45 #[.int .i64 n] V fun e w' => e = .returned (.bool true) ∧ V = w' := fun V => by have := isOwner_any n V; rw [ho] at this; exact this
    by_cases hz : [a0, a1, a2, a3] = Mk.zero
    · refine (take_empty h hn a0 a1 a2 a3 KO (fun V => by have := isEmpty_any a0 a1 a2 a3 V; rw [zero_iff, decide_eq_true hz] at this; exact this)).mono ?_
      rintro e w' ⟨rfl, hb⟩
      exact .inl ⟨1, rfl, by decide, hb⟩
    have KE : ∀ V : World, Calls Try.prog 48 #[.agg #[.int .u64 a0, .int .u64 a1, .int .u64 a2, .int .u64 a3]] V fun e w' => e = .returned (.bool false) ∧ Below V.heap.size V w' := fun V => by have := isEmpty_any a0 a1 a2 a3 V; rw [zero_iff, decide_eq_false hz] at this; exact this
    cases hg : (g n).isSome with
    | true =>
      refine (take_state h hn a0 a1 a2 a3 hg KO KE).mono ?_
      rintro e w' ⟨rfl, hb⟩
      exact .inl ⟨14, rfl, by decide, hb⟩
    | false =>
      have hF := freeM_W4 (Mk.ofL (List.range (s * q))) g
      have KF0 : ∀ V : World, PoolAt V p b k s q g → Calls Try.prog 13 #[.pointer (some ⟨p, 0, none⟩)] V fun e w' => e = .returned (.agg (vs .u64 (freeM (Mk.ofL (List.range (s * q))) g))) ∧ Below V.heap.size V w' := fun V hV => free_fix hV hL
      revert KF0 hF
      generalize freeM (Mk.ofL (List.range (s * q))) g = F
      intro hF KF0
      obtain ⟨f0, f1, f2, f3, rfl⟩ : ∃ f0 f1 f2 f3, F = [f0, f1, f2, f3] := ⟨_, _, _, _, Mk.len4 hF.1⟩
      obtain ⟨d0, d1, d2, d3, hd⟩ : ∃ d0 d1 d2 d3, zw andN [a0, a1, a2, a3] [f0, f1, f2, f3] = [d0, d1, d2, d3] := ⟨_, _, _, _, Mk.len4 (zw_len ha.1 hF.1)⟩
      have KM : ∀ V : World, Calls Try.prog 24 #[.agg #[.int .u64 a0, .int .u64 a1, .int .u64 a2, .int .u64 a3], .agg #[.int .u64 f0, .int .u64 f1, .int .u64 f2, .int .u64 f3]] V fun e w' => e = .returned (.agg #[.int .u64 d0, .int .u64 d1, .int .u64 d2, .int .u64 d3]) ∧ Below V.heap.size V w' := fun V => by
        have := minus_any [a0, a1, a2, a3] [f0, f1, f2, f3] V ha hF
        rw [hd] at this
        exact this
      by_cases hz2 : [d0, d1, d2, d3] = Mk.zero
      · refine (take_walk h hn hk ⟨[a0, a1, a2, a3], true, ha⟩ a0 a1 a2 a3 f0 f1 f2 f3 d0 d1 d2 d3 rfl rfl hg KO KE KF0 KM (fun V => by have := isEmpty_any d0 d1 d2 d3 V; rw [zero_iff, decide_eq_true hz2] at this; exact this)).mono ?_
        rintro e w' ⟨rfl, hT⟩
        refine .inr ⟨rfl, rfl, rfl, hz, fun d hd2 hx => ?_, hT⟩
        have := has_andN ha hF hd2
        rw [hd, hz2, Mk.has_zero, hx] at this
        simpa using this
      · refine (take_cores h hn a0 a1 a2 a3 f0 f1 f2 f3 d0 d1 d2 d3 hg KO KE KF0 KM (fun V => by have := isEmpty_any d0 d1 d2 d3 V; rw [zero_iff, decide_eq_false hz2] at this; exact this)).mono ?_
        rintro e w' ⟨rfl, hb⟩
        exact .inl ⟨12, rfl, by decide, hb⟩

/-- What Reserve gives: masks that have a core, of those that were free, together the owner's. -/
def GotF (w w' : World) (p b k s q : Nat) (g : Int → Option Sh) (n : Int) (e : Ending) : Prop :=
  ∃ (gm R : Nat) (ms : List (List Nat)) (c : Sh), e = .returned (.tuple #[.slice (some ⟨gm, 0, none⟩) R R, .int .i64 0]) ∧ w.heap.size ≤ gm ∧ Row .u64 40 w' gm ms.flatten ∧ (∀ m ∈ ms, Mk.W4 m) ∧ ms.length = R ∧ R ≤ 32 ∧ c.m = orAll ms ∧ c.t = false ∧ c.m ≠ Mk.zero ∧ (∀ d, d < 256 → Mk.hasB c.m d = true → Mk.hasB (freeM (Mk.ofL (List.range (s * q))) g) d = true) ∧ Turned w w' p b (k + 1) s q (fun m => if m = n then some c else g m)
theorem reserve_in {w : World} {p b k s q : Nat} {g : Int → Option Sh} (h : PoolAt w p b k s q g) (hL : LOk s q) {n : Int} (hn : (Lit.int .i64 n).wf = true) (x0 x1 x2 x3 : Nat) (r pe d : Int) (hk : k < 1000000) : Calls Try.prog 26 #[.pointer (some ⟨p, 0, none⟩), .int .i64 n, .agg #[.int .u64 x0, .int .u64 x1, .int .u64 x2, .int .u64 x3, .int .i64 r, .int .i64 pe, .int .i64 d]] w fun e w' => (∃ er : Int, e = .returned (.tuple #[.slice none 0 0, .int .i64 er]) ∧ er ≠ 0 ∧ Below w.heap.size w w') ∨ GotF w w' p b k s q g n e := by
  cases ho : isOwn n with
  | false =>
    refine (reserve_bad h hn x0 x1 x2 x3 r pe d (fun V => by have := isOwner_any n V; rw [ho] at this; exact this)).mono ?_
    rintro e w' ⟨rfl, hb⟩
    exact .inl ⟨1, rfl, by decide, hb⟩
  | true =>
    have KO : ∀ V : World, Calls Try.prog 45 #[.int .i64 n] V fun e w' => e = .returned (.bool true) ∧ V = w' := fun V => by have := isOwner_any n V; rw [ho] at this; exact this
    cases hg : (g n).isSome with
    | true =>
      refine (reserve_has h hn x0 x1 x2 x3 r pe d KO hg).mono ?_
      rintro e w' ⟨rfl, hb⟩
      exact .inl ⟨14, rfl, by decide, hb⟩
    | false =>
      have hF := freeM_W4 (Mk.ofL (List.range (s * q))) g
      have KF0 : ∀ V : World, PoolAt V p b k s q g → Calls Try.prog 13 #[.pointer (some ⟨p, 0, none⟩)] V fun e w' => e = .returned (.agg (vs .u64 (freeM (Mk.ofL (List.range (s * q))) g))) ∧ Below V.heap.size V w' := fun V hV => free_fix hV hL
      revert KF0 hF
      obtain ⟨F, hFe⟩ : ∃ F, freeM (Mk.ofL (List.range (s * q))) g = F := ⟨_, rfl⟩
      rw [hFe]
      intro hF KF0
      obtain ⟨f0, f1, f2, f3, rfl⟩ : ∃ f0 f1 f2 f3, F = [f0, f1, f2, f3] := ⟨_, _, _, _, Mk.len4 hF.1⟩
      have KF : ∀ V : World, PoolAt V p b k s q g → Calls Try.prog 13 #[.pointer (some ⟨p, 0, none⟩)] V fun e w' => e = .returned (.agg #[.int .u64 f0, .int .u64 f1, .int .u64 f2, .int .u64 f3]) ∧ Below V.heap.size V w' := KF0
      by_cases hd : d = 0 ∨ d = 1
      · obtain ⟨fid, of, hD⟩ : ∃ fid of, IsDist d fid s q of := by
          rcases hd with rfl | rfl
          · exact ⟨84, id, .inl ⟨rfl, rfl, rfl⟩⟩
          · exact ⟨85, cyc s q, .inr ⟨rfl, rfl, rfl⟩⟩
        rcases ROk_or r pe with ⟨a, c, rfl, rfl, hR⟩ | hR
        · by_cases hf : (fr [f0, f1, f2, f3] (upto of (s * q))).length < a * c
          · refine (reserve_few h hn x0 x1 x2 x3 a c d f0 f1 f2 f3 12 (by decide) KO hg KF (fun V => assign_few hD a c f0 f1 f2 f3 V hL hR hF hf)).mono ?_
            rintro e w' ⟨rfl, hb⟩
            exact .inl ⟨12, rfl, by decide, hb⟩
          · have hz : 1 ≤ (wished [f0, f1, f2, f3] of (s * q) (a * c)).length := by
              have := mul_pos' hR
              unfold wished
              rw [List.length_take]
              omega
            have hS := ranks_some hR.1 hR.2.2.1 hz
            have hl := ranks_len (wished [f0, f1, f2, f3] of (s * q) (a * c)) a c
            have hW4 := ranks_W4 (wished [f0, f1, f2, f3] of (s * q) (a * c)) a c
            have hI := fun d => ranks_free (F := [f0, f1, f2, f3]) of (s * q) (a * c) a c (d := d)
            have KA : ∀ V : World, Calls Try.prog 46 #[.agg #[.int .i64 s, .int .i64 q], .agg #[.int .u64 f0, .int .u64 f1, .int .u64 f2, .int .u64 f3, .int .i64 a, .int .i64 c, .int .i64 d]] V (Lays V (ranks (wished [f0, f1, f2, f3] of (s * q) (a * c)) a c) a) := fun V => assign_ok hD a c f0 f1 f2 f3 V hL hR hF (by omega)
            revert hS hl hW4 hI KA
            generalize ranks (wished [f0, f1, f2, f3] of (s * q) (a * c)) a c = ms
            intro hS hl hW4 hI KA
            have hor := orAll_W4 ms hW4
            obtain ⟨a0, a1, a2, a3, ea⟩ : ∃ a0 a1 a2 a3, orAll ms = [a0, a1, a2, a3] := ⟨_, _, _, _, Mk.len4 hor.1⟩
            refine (reserve_ok h hn x0 x1 x2 x3 a c d hk ⟨orAll ms, false, hor⟩ f0 f1 f2 f3 a0 a1 a2 a3 a ms.flatten ea rfl KO hg KF KA (fun V gm hr => by
              have := union_any gm a a ms V (masks_row hr (fun m hm => (hW4 m hm).1)) hW4 hl hR.2.1
              rw [ea] at this
              exact this)).mono ?_
            rintro e w' ⟨gm, rfl, h1, h2, h3⟩
            exact .inr ⟨gm, a, ms, ⟨orAll ms, false, hor⟩, rfl, h1, h2, hW4, hl, hR.2.1, rfl, rfl, hS, fun d _ hx => by rw [hFe]; exact hI d hx, h3⟩
        · refine (reserve_few h hn x0 x1 x2 x3 r pe d f0 f1 f2 f3 1 (by decide) KO hg KF (fun V => assign_arg hD r pe f0 f1 f2 f3 V hL hR)).mono ?_
          rintro e w' ⟨rfl, hb⟩
          exact .inl ⟨1, rfl, by decide, hb⟩
      · refine (reserve_few h hn x0 x1 x2 x3 r pe d f0 f1 f2 f3 1 (by decide) KO hg KF (fun V => assign_no s q d r pe f0 f1 f2 f3 V (fun W => dist_none s q d W hL (by simpa using fun h => hd (.inl h)) (by simpa using fun h => hd (.inr h))))).mono ?_
        rintro e w' ⟨rfl, hb⟩
        exact .inl ⟨1, rfl, by decide, hb⟩
end Go.Proofs.Ythmlibapjhmdbaa
