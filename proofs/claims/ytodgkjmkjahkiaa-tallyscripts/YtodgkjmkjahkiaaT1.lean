/- What nodes said, as maps of pointers in memory. -/
import Derived.Test.YtodgkjmkjahkiaaE6
import Derived.Maps.OwnOps
import Derived.Maps.OwnSet
import Derived.Maps.Views
import Derived.Maps.RangeWalk
import Derived.Lib.SlKeysI
import Derived.Carry
namespace Go.Proofs.Ytodgkjmkjahkiaa
open Go.RowKit Go.Maps

abbrev wf (n : Int) : Prop := (Lit.int .i64 n).wf = true
theorem wf_iff {n : Int} : wf n ↔ -9223372036854775808 ≤ n ∧ n ≤ 9223372036854775807 := by
  simp [wf, Lit.wf, show IntKind.i64.min = -9223372036854775808 from rfl, show IntKind.i64.max = 9223372036854775807 from rfl]
theorem law3 : Keyed Try.prog 3 := int_keyed Try.underlying3
abbrev ky (n : Int) : Lit := .int .i64 n
theorem key_of {n : Int} (h : wf n) : keyOf Try.prog 3 (.int .i64 n) = some (ky n) := keyOf_int_mk Try.underlying3 h
theorem ky_lit (n : Int) : WideAt.IsKeyLit (ky n) := trivial
theorem ky_ne {n m : Int} (h : n ≠ m) : ky n ≠ ky m := fun e => h (by cases e; rfl)
theorem atKey_out {D : DataW Unit} {k : Lit} (hD : IsMap D) (h : Maps.has D k = false) (z : DataW Unit) : D.atKey k z = z := by
  obtain ⟨es, rfl⟩ := hD
  rw [Maps.has_eq] at h
  have hf : es.find? (fun p => p.1.sameKey k) = Option.none := List.find?_eq_none.2 (fun p hp => by
    have := List.any_eq_false.1 h p hp
    simpa using this)
  simp only [DataW.atKey, hf]
/-- Who has what, as the map's datum says it. -/
structure Says {α : Type} (D : DataW Unit) (rd : α → DataW Unit) (g : Int → Option α) : Prop where
  map : IsMap D
  has : ∀ n, Maps.has D (ky n) = (g n).isSome
  at_ : ∀ n s, g n = some s → ∀ z, D.atKey (ky n) z = rd s
section
variable {α : Type} {rd : α → DataW Unit}
theorem says_none : Says (.map []) rd (fun _ => Option.none) := ⟨⟨_, rfl⟩, fun _ => rfl, fun _ _ h => by cases h⟩
theorem Says.put {D : DataW Unit} {g : Int → Option α} (h : Says D rd g) (n : Int) (s : α) (hM : IsMap (D.put (ky n) (rd s))) : Says (D.put (ky n) (rd s)) rd (fun k => if k = n then some s else g k) := by
  refine ⟨hM, fun k => ?_, fun k s' hk z => ?_⟩
  · by_cases e : k = n
    · subst e
      rw [Maps.has_put_same h.map (ky_lit k), if_pos rfl]
      rfl
    · rw [Maps.has_put_other (ky_ne e), if_neg e, h.has]
  · by_cases e : k = n
    · subst e
      rw [if_pos rfl] at hk
      cases hk
      exact Maps.atKey_put_same h.map (ky_lit k) _ _
    · rw [if_neg e] at hk
      rw [Maps.atKey_put_other (ky_ne e)]
      exact h.at_ k s' hk z
theorem Says.congr {D : DataW Unit} {g g' : Int → Option α} (h : Says D rd g) (e : ∀ k, g k = g' k) : Says D rd g' := by
  have : g = g' := funext e
  rw [← this]; exact h
end
theorem not_map {w : World} {g b n : Nat} {t k : TypeId} {cs : Array Value} {R : Value → Option (DataW Unit × List MemPlace)} {D : DataW Unit} (h : Bk w g t cs) (ho : w.ownsMap Try.prog k R b n D) : g ≠ b := by
  rintro rfl
  obtain ⟨es, cl, hb, _⟩ := ho
  unfold Bk at h
  rw [hb] at h
  cases h
/-- A pointer as the map's element. -/
def ptV : Option Nat → Value
  | none => .pointer none
  | some b => .pointer (some ⟨b, 0, none⟩)
def rdP : Option Nat → DataW Unit
  | none => .lit (.int .i64 (-1))
  | some b => .lit (.int .i64 b)
theorem ptV_inj {a b : Option Nat} (h : ptV a = ptV b) : a = b := by
  cases a <;> cases b <;> simp_all [ptV]
theorem rdP_inj {a b : Option Nat} (h : rdP a = rdP b) : a = b := by
  cases a <;> cases b
  · rfl
  · injection h with h; injection h with _ h; omega
  · injection h with h; injection h with _ h; omega
  · injection h with h
    injection h with _ h
    rw [show _ = _ from Int.ofNat.inj h]
open Classical in
/-- How it is read. -/
noncomputable def ptE (v : Value) : Option (DataW Unit × List MemPlace) := if h : ∃ s, v = ptV s then some (rdP h.choose, []) else none
theorem ptE_mk (s : Option Nat) : ptE (ptV s) = some (rdP s, []) := by
  unfold ptE
  have h : ∃ s', ptV s = ptV s' := ⟨s, rfl⟩
  rw [dif_pos h, ptV_inj h.choose_spec.symm]
theorem ptE_inv {v : Value} {y : DataW Unit × List MemPlace} (h : ptE v = some y) : ∃ s, v = ptV s ∧ y = (rdP s, []) := by
  unfold ptE at h
  split at h
  · rename_i hx
    cases h
    exact ⟨hx.choose, hx.choose_spec, rfl⟩
  · cases h
theorem zero85 (w : World) : (zeroValue 85).run Try.prog w = .ok (ptV none) w := by kernel_rfl
theorem zero74 (w : World) : (zeroValue 74).run Try.prog w = .ok (ptV none) w := by kernel_rfl
/-- What a node said, and where that lies. -/
structure En where
  n : Int
  v : Value
  b : Nat
def lk : List En → Int → Option En
  | [], _ => none
  | x :: r, n => if x.n = n then some x else lk r n
theorem lk_mem {T : List En} {n : Int} {x : En} (h : lk T n = some x) : x ∈ T ∧ x.n = n := by
  induction T with
  | nil => cases h
  | cons y r ih =>
    unfold lk at h
    split at h
    · rename_i e
      cases h
      exact ⟨List.mem_cons_self, e⟩
    · exact ⟨List.mem_cons_of_mem _ (ih h).1, (ih h).2⟩
theorem lk_none {T : List En} {n : Int} : lk T n = none ↔ ∀ x ∈ T, x.n ≠ n := by
  induction T with
  | nil => simp [lk]
  | cons y r ih =>
    unfold lk
    by_cases e : y.n = n
    · rw [if_pos e]
      simp only [reduceCtorEq, false_iff]
      exact fun h => h y List.mem_cons_self e
    · rw [if_neg e, ih]
      constructor
      · intro h x hx
        rcases List.mem_cons.1 hx with rfl | hx
        · exact e
        · exact h x hx
      · exact fun h x hx => h x (List.mem_cons_of_mem _ hx)
theorem lk_of_mem {T : List En} (hu : T.Pairwise fun a b => a.n ≠ b.n) {x : En} (h : x ∈ T) : lk T x.n = some x := by
  induction T with
  | nil => cases h
  | cons y r ih =>
    have h' := List.pairwise_cons.1 hu
    unfold lk
    rcases List.mem_cons.1 h with e | e
    · subst e; rw [if_pos rfl]
    · rw [if_neg (h'.1 x e)]
      exact ih h'.2 e
theorem lk_snoc {T : List En} {x : En} (hx : lk T x.n = none) (n : Int) : lk (T ++ [x]) n = if n = x.n then some x else lk T n := by
  induction T with
  | nil =>
    show (if x.n = n then some x else none) = _
    by_cases e : x.n = n
    · rw [if_pos e, if_pos e.symm]
    · rw [if_neg e, if_neg (fun h => e h.symm)]; rfl
  | cons y r ih =>
    have hy : y.n ≠ x.n := by
      intro e
      unfold lk at hx
      rw [if_pos e] at hx
      cases hx
    have hr : lk r x.n = none := by
      unfold lk at hx
      rwa [if_neg hy] at hx
    show (if y.n = n then some y else lk (r ++ [x]) n) = _
    rw [ih hr]
    show _ = if n = x.n then some x else (if y.n = n then some y else lk r n)
    by_cases e : y.n = n
    · rw [if_pos e, if_pos e, if_neg (by omega)]
    · rw [if_neg e, if_neg e]
/-- A map of what was said: its block, at most so many, the type of what was said. -/
structure MpAt (w : World) (b k : Nat) (t : TypeId) (L : List En) : Prop where
  own : ∃ D, w.ownsMap Try.prog 3 ptE b k D ∧ Says D rdP (fun n => (lk L n).map (fun x => some x.b))
  cells : ∀ x ∈ L, Bk w x.b t #[x.v]
  up : L.Pairwise fun a b => a.n ≠ b.n
  wfs : ∀ x ∈ L, wf x.n
section
variable {w w' : World} {b k : Nat} {t : TypeId} {L : List En}
theorem MpAt.lt (h : MpAt w b k t L) : b < w.heap.size := by
  obtain ⟨D, h1, _⟩ := h.own
  exact h1.lt
theorem MpAt.ne (h : MpAt w b k t L) {g : Nat} {t : TypeId} {cs : Array Value} (hg : Bk w g t cs) : g ≠ b := by
  obtain ⟨D, h1, _⟩ := h.own
  exact not_map hg h1
theorem MpAt.kept (h : MpAt w b k t L) {o : Option Nat} (hg : w.grownBy w' o) (hb : o ≠ some b) (hc : ∀ x ∈ L, o ≠ some x.b) : MpAt w' b k t L :=
  ⟨by obtain ⟨D, h1, h2⟩ := h.own; exact ⟨D, h1.kept hg hb.symm, h2⟩, fun x hx => (hg.block x.b (h.cells x hx).lt (fun e => hc x hx e.symm)).trans (h.cells x hx), h.up, h.wfs⟩
theorem MpAt.next (h : MpAt w b k t L) (hb : Below w.heap.size w w') : MpAt w' b k t L := h.kept (only_of_below hb) (by simp) (fun _ _ => by simp)
theorem MpAt.few (h : MpAt w b k t L) {k' : Nat} (hk : k ≤ k') : MpAt w b k' t L := by
  obtain ⟨D, ⟨es, cl, q1, q2, q3, q4⟩, h2⟩ := h.own
  exact ⟨⟨D, ⟨es, cl, q1, q2, by omega, q4⟩, h2⟩, h.cells, h.up, h.wfs⟩
theorem MpAt.look {m e : TypeId} (hm : Try.prog.underlying m = some (.map 3 e)) (hz : ∀ w, (zeroValue e).run Try.prog w = .ok (ptV none) w) (h : MpAt w b k t L) {n : Int} (hn : wf n) : (Instr.lookup m (.map (some b)) (.int .i64 n) false).run Try.prog w = .ok (ptV ((lk L n).map (·.b))) w := by
  obtain ⟨D, h1, h2⟩ := h.own
  obtain ⟨v, ps, hr, hv⟩ := h1.lookup law3 hm (hz w) (ptE_mk none) (key_of hn)
  obtain ⟨s, rfl, hs⟩ := ptE_inv hv
  have e : s = (lk L n).map (·.b) := by
    have := congrArg Prod.fst hs
    cases hg : lk L n with
    | none =>
      rw [atKey_out h2.map (by rw [h2.has, hg]; rfl)] at this
      exact (rdP_inj this).symm
    | some x =>
      rw [h2.at_ n (some x.b) (by rw [hg]; rfl)] at this
      exact (rdP_inj this).symm
  rw [← e]
  exact hr
theorem size_keys {D : DataW Unit} (h : IsMap D) : Maps.size D = (intKeys D).length := by
  obtain ⟨es, rfl⟩ := h
  simp [Maps.size, intKeys]
theorem MpAt.size {m e : TypeId} (hm : Try.prog.underlying m = some (.map 3 e)) (h : MpAt w b k t L) (ty : TypeId) : (Builtin.len_ #[m] ty #[.map (some b)]).run Try.prog w = .ok (.int .i64 L.length) w := by
  obtain ⟨D, h1, h2⟩ := h.own
  have hnd : (L.map (·.n)).Nodup := by rw [List.nodup_iff_pairwise_ne]; exact List.pairwise_map.2 h.up
  have hp : (L.map (·.n)).Perm (intKeys D) := by
    obtain ⟨es, hD, hpw, _⟩ := h1.entries law3
    obtain ⟨es', hD', hko⟩ := h1.keysOf
    obtain rfl : es = es' := by rw [hD] at hD'; simpa using hD'
    subst hD
    exact perm_intKeys hpw (fun p hp => by obtain ⟨v, hv⟩ := hko p hp; obtain ⟨x, _, hx, _⟩ := Maps.keyOf_i64 Try.underlying3 hv; exact ⟨x, hx⟩) hnd (fun n => by
      have hh := h2.has n
      rw [hh, List.mem_map]
      constructor
      · rintro ⟨x, hx, rfl⟩
        rw [lk_of_mem h.up hx]; rfl
      · intro hs
        cases e : lk L n with
        | none => rw [e] at hs; cases hs
        | some x => exact ⟨x, lk_mem e⟩)
  rw [h1.len hm ty, size_keys h2.map, ← hp.length_eq, List.length_map]
end
end Go.Proofs.Ytodgkjmkjahkiaa
