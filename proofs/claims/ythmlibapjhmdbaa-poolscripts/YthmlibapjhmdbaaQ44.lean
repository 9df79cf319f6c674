/- What PoolBack's calls tell of both pools. -/
import Derived.Test.YthmlibapjhmdbaaQ43
namespace Go.Proofs.Ythmlibapjhmdbaa
open Go.RowKit Go.Shelf Go.Maps Go.Sort

theorem nats_td {X : Nat → Prop} {w w' : World} {A : Option Addr} {xs : List Nat} (h : NatsAt w w.heap.size A xs) (ht : Td X w w') (hx : ∀ ad, A = some ad → ¬ X ad.block) : NatsAt w' w'.heap.size A xs := by
  rcases h with h | ⟨ad, rfl, h2, h3⟩
  · exact .inl h
  · refine .inr ⟨ad, rfl, Nat.lt_of_lt_of_le h2 ht.size, fun j hj => ?_⟩
    rw [← h3 j hj]
    exact World.cell?_of_block (by rw [block_add]; exact ht.block ad.block h2 (hx ad rfl))
theorem nats_next {w w' : World} {A : Option Addr} {xs : List Nat} (h : NatsAt w w.heap.size A xs) (hb : Below w.heap.size w w') : NatsAt w' w'.heap.size A xs := (h.below hb).more hb.size
theorem enc_nv : ∀ {L : List Int}, (∀ z ∈ L, 0 ≤ z) → L.map encZ = nv (L.map Int.toNat)
  | [], _ => rfl
  | z :: L, h => by
    have h1 := h z List.mem_cons_self
    have ih := enc_nv (fun x hx => h x (List.mem_cons_of_mem _ hx))
    unfold nv at ih ⊢
    rw [List.map_cons, List.map_cons, List.map_cons, ih]
    congr 1
    show Value.int .i64 z = Value.int .i64 ((z.toNat : Nat) : Int)
    rw [Int.toNat_of_nonneg h1]
section
variable {w V : World} {p b k s q r nb : Nat} {g : Int → Option Sh} {L : List Int} {va vb : Value} {Ow Dn : List Int}
/-- Owners. -/
def OwsA (V w' : World) (L : List Int) (e : Ending) : Prop :=
  ∃ A cap, e = .returned (.slice A L.length cap) ∧ NatsAt w' w'.heap.size A (L.map Int.toNat) ∧ (∀ ad, A = some ad → V.heap.size ≤ ad.block) ∧ Below V.heap.size V w'
theorem Two.owners (h : Two w V p b k s q g L r nb va vb Ow Dn) (hk : k ≤ 1000) (hi : ∀ n c, g n = some c → isOwn n = true) : Calls Try.prog 16 #[.pointer (some ⟨p, 0, none⟩)] V fun e w' => OwsA V w' L e := by
  refine (owners_at h.st.pool L h.st.own.up h.st.own.has (by have := h.st.own.len; omega)).mono ?_
  rintro e w' ⟨v, rfl, hrow, _, hb⟩
  obtain ⟨A, cap, rfl⟩ := own_form hrow
  have hz : ∀ z ∈ L, 0 ≤ z := fun z hz => by
    obtain ⟨c, hc⟩ := Option.isSome_iff_exists.1 ((h.st.own.has z).1 hz)
    exact isOwn_ge (hi z c hc)
  rw [enc_nv hz] at hrow
  refine ⟨A, cap, rfl, nats_nv (by simp) hrow, fun ad e => ?_, hb⟩
  subst e
  rcases hrow.2 with ⟨h0, _⟩ | ⟨_, _, _, h1, h2, _⟩
  · cases h0
  · cases h1
    exact h2
/-- What is free. -/
theorem Two.free (h : Two w V p b k s q g L r nb va vb Ow Dn) (hL : LOk s q) : Calls Try.prog 13 #[.pointer (some ⟨p, 0, none⟩)] V fun e w' => e = .returned (.agg (vs .u64 (freeM (Mk.ofL (List.range (s * q))) g))) ∧ Below V.heap.size V w' := free_fix h.st.pool hL
/-- What somebody has. -/
theorem Two.ofO (h : Two w V p b k s q g L r nb va vb Ow Dn) {n : Int} (hn : (Lit.int .i64 n).wf = true) : Calls Try.prog 18 #[.pointer (some ⟨p, 0, none⟩), .int .i64 n] V fun e w' => e = .returned (.tuple #[.agg (vs .u64 ((g n).getD Sh.none).m), .bool ((g n).getD Sh.none).t]) ∧ Below V.heap.size V w' := ofOwner_any h.st.pool hn
theorem Two.back (h : Two w V p b k s q g L r nb va vb Ow Dn) {V' : World} {k' : Nat} {g' : Int → Option Sh} (ht : Turned V V' p b k' s q g') (hO : ∃ L', Own g' L' k') : ∃ L', Two w V' p b k' s q g' L' r nb va vb Ow Dn := h.prog ht hO
end
/-- An owner's list is told by who has cores. -/
theorem own_same {g : Int → Option Sh} {L L' : List Int} {k k' : Nat} (h : Own g L k) (h' : Own g L' k') : L = L' := by
  have key : ∀ (l l' : List Int), l.Pairwise (· < ·) → l'.Pairwise (· < ·) → (∀ x, x ∈ l ↔ x ∈ l') → l = l' := by
    intro l
    induction l with
    | nil =>
      intro l' _ _ hm
      cases l' with
      | nil => rfl
      | cons y l' => exact absurd ((hm y).2 List.mem_cons_self) (by simp)
    | cons x l ih =>
      intro l' hl hl' hm
      cases l' with
      | nil => exact absurd ((hm x).1 List.mem_cons_self) (by simp)
      | cons y l' =>
        obtain ⟨a1, a2⟩ := List.pairwise_cons.1 hl
        obtain ⟨b1, b2⟩ := List.pairwise_cons.1 hl'
        have e : x = y := by
          rcases List.mem_cons.1 ((hm x).1 List.mem_cons_self) with e | e
          · exact e
          · rcases List.mem_cons.1 ((hm y).2 List.mem_cons_self) with e2 | e2
            · exact e2.symm
            · have := a1 y e2
              have := b1 x e
              omega
        subst e
        congr 1
        refine ih l' a2 b2 fun z => ?_
        constructor
        · intro hz
          rcases List.mem_cons.1 ((hm z).1 (List.mem_cons_of_mem _ hz)) with e | e
          · have := a1 z hz; omega
          · exact e
        · intro hz
          rcases List.mem_cons.1 ((hm z).2 (List.mem_cons_of_mem _ hz)) with e | e
          · have := b1 z hz; omega
          · exact e
  exact key L L' h.up h'.up fun x => (h.has x).trans (h'.has x).symm
theorem put_del {g : Int → Option Sh} {n : Int} {c : Sh} (hg : (g n).isSome = false) : (fun m => if m = n then none else (if m = n then some c else g m)) = g := by
  funext m
  by_cases e : m = n
  · subst e
    rw [if_pos rfl]
    cases h : g m with
    | none => rfl
    | some d => rw [h] at hg; cases hg
  · rw [if_neg e, if_neg e]
section
variable {H : Type} {enc : TypeId × Value → H} {w : World}
open Go.ChangeShapes Go.WideShapes Go.ChangeAt Go.WideMaps Go.WideElems Go.Joins Go.Deep
set_option maxRecDepth 100000 in
theorem open_opv {r : Reach} {b0 : Nat} {v : Value} {d : DataW H} {p : List MemPlace} (hv : Value.okWide Try.prog w r b0 39 v) (h : DataW.Trod enc Try.prog w 0 (fun _ => true) true 39 v d p) : ∃ o : Oq, v = .agg #[.int .i64 o.d, .int .i64 o.n, .int .u64 o.f0, .int .u64 o.f1, .int .u64 o.f2, .int .u64 o.f3, .int .i64 o.r, .int .i64 o.pe, .int .i64 o.ds, .int .u64 o.m0, .int .u64 o.m1, .int .u64 o.m2, .int .u64 o.m3] ∧ (Lit.int .i64 o.n).wf = true ∧ W8 o := by
  obtain ⟨cs, rfl, hsz⟩ := okWide_struct Try.underlying39 hv
  obtain ⟨cs⟩ := cs
  obtain ⟨fuel, hf⟩ := h
  have hf' : DataW.trod enc Try.prog w 0 (fun _ => true) true fuel 39 cs = some (d, p) := hf
  obtain ⟨o, rfl, hn, h8⟩ := open_op_c hf'
  exact ⟨o, rfl, hn, h8⟩
end
end Go.Proofs.Ythmlibapjhmdbaa
