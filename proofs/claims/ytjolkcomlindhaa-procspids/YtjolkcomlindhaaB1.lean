/- A book in memory; New, Job, Note. -/
import Derived.Test.YtjolkcomlindhaaA3
import Derived.Maps.OwnOps
import Derived.Maps.OwnSet
import Derived.Maps.Views
import Derived.Maps.RangeWalk
namespace Go.Proofs.Ytjolkcomlindhaa
open Go.RowKit Go.Maps

theorem law3 : Keyed Try.prog 3 := int_keyed Try.underlying3
theorem zero3 (w : World) : (zeroValue 3).run Try.prog w = .ok (.int .i64 0) w := by kernel_rfl
abbrev ky (n : Int) : Lit := .int .i64 n
theorem key_of {n : Int} (h : wf n) : keyOf Try.prog 3 (.int .i64 n) = some (ky n) := keyOf_int_mk Try.underlying3 h
theorem ky_lit (n : Int) : WideAt.IsKeyLit (ky n) := trivial
theorem ky_ne {n m : Int} (h : n ≠ m) : ky n ≠ ky m := fun e => h (by cases e; rfl)
theorem atKey_out {D : DataW Unit} {k : Lit} (hD : IsMap D) (h : Maps.has D k = false) (z : DataW Unit) : D.atKey k z = z := by
  obtain ⟨es, rfl⟩ := hD
  rw [Maps.has_eq] at h
  have hf : es.find? (fun p => p.1.sameKey k) = Option.none := List.find?_eq_none.2 (fun p hp => by
    have := List.any_eq_false.1 h p hp
    simpa using this)
  simp only [DataW.atKey, hf]
/-- Who has what, as the map's datum says it: whatever is kept, by its reading. -/
structure Says {α : Type} (D : DataW Unit) (rd : α → DataW Unit) (g : Int → Option α) : Prop where
  map : IsMap D
  has : ∀ n, Maps.has D (ky n) = (g n).isSome
  at_ : ∀ n s, g n = some s → ∀ z, D.atKey (ky n) z = rd s
section
variable {α : Type} {rd : α → DataW Unit}
theorem says_none : Says (.map []) rd (fun _ => Option.none) := ⟨⟨_, rfl⟩, fun _ => rfl, fun _ _ h => by cases h⟩
theorem Says.put {D : DataW Unit} {g : Int → Option α} (h : Says D rd g) (n : Int) (s : α) (hM : IsMap (D.put (ky n) (rd s))) : Says (D.put (ky n) (rd s)) rd (fun k => if k = n then some s else g k) := by
  refine ⟨hM, fun k => ?_, fun k s' hk z => ?_⟩
  · by_cases e : k = n
    · subst e
      rw [Maps.has_put_same h.map (ky_lit k), if_pos rfl]
      rfl
    · rw [Maps.has_put_other (ky_ne e), if_neg e, h.has]
  · by_cases e : k = n
    · subst e
      rw [if_pos rfl] at hk
      cases hk
      exact Maps.atKey_put_same h.map (ky_lit k) _ _
    · rw [if_neg e] at hk
      rw [Maps.atKey_put_other (ky_ne e)]
      exact h.at_ k s' hk z
theorem Says.del {D : DataW Unit} {g : Int → Option α} (h : Says D rd g) (n : Int) (hM : IsMap (D.del (ky n))) : Says (D.del (ky n)) rd (fun k => if k = n then Option.none else g k) := by
  refine ⟨hM, fun k => ?_, fun k s' hk z => ?_⟩
  · by_cases e : k = n
    · subst e
      rw [Maps.has_del_same, if_pos rfl]
      rfl
    · rw [Maps.has_del_other (ky_ne e), if_neg e, h.has]
  · by_cases e : k = n
    · rw [if_pos e] at hk; cases hk
    · rw [if_neg e] at hk
      rw [Maps.atKey_del_other (ky_ne e)]
      exact h.at_ k s' hk z
theorem Says.congr {D : DataW Unit} {g g' : Int → Option α} (h : Says D rd g) (e : ∀ k, g k = g' k) : Says D rd g' := by
  have : g = g' := funext e
  rw [← this]; exact h
end
abbrev rdI (n : Int) : DataW Unit := .lit (.int .i64 n)

/-- A book: its struct's block, its map's block if it has one, at most so many jobs, and what it has. -/
structure BookAt (w : World) (p : Nat) (m : Option Nat) (k : Nat) (L : List (Int × Int)) : Prop where
  blk : Bk w p 78 #[.map m]
  none_ : m = none → L = []
  own : ∀ b, m = some b → ∃ D, w.ownsMap Try.prog 3 (plainElem Try.prog 3) b k D ∧ Says D rdI (look L)
  ok : OkL L
theorem not_map {w : World} {g b n : Nat} {t k : TypeId} {cs : Array Value} {R : Value → Option (DataW Unit × List MemPlace)} {D : DataW Unit} (h : Bk w g t cs) (ho : w.ownsMap Try.prog k R b n D) : g ≠ b := by
  rintro rfl
  obtain ⟨es, cl, hb, _⟩ := ho
  unfold Bk at h
  rw [hb] at h
  cases h
section
variable {w w' : World} {p : Nat} {m : Option Nat} {k : Nat} {L : List (Int × Int)}
theorem BookAt.next (h : BookAt w p m k L) (hb : Below w.heap.size w w') : BookAt w' p m k L :=
  ⟨h.blk.next hb, h.none_, fun b e => by obtain ⟨D, h1, h2⟩ := h.own b e; exact ⟨D, h1.kept (only_of_below hb) (by simp), h2⟩, h.ok⟩
theorem BookAt.hid (h : BookAt w p m k L) (e : Hid (w' = w.drew)) : BookAt w' p m k L := by
  rw [e.out]
  exact ⟨h.blk, h.none_, fun b e => by obtain ⟨D, h1, h2⟩ := h.own b e; exact ⟨D, h1.drew, h2⟩, h.ok⟩
theorem BookAt.cell (h : BookAt w p m k L) : w.cell? ⟨p, 0, none⟩ = some (.map m) := h.blk.cell 0 _ rfl
theorem BookAt.ne (h : BookAt w p m k L) {g : Nat} {t : TypeId} {cs : Array Value} (hg : Bk w g t cs) : m ≠ some g := by
  rintro rfl
  obtain ⟨D, h1, _⟩ := h.own g rfl
  exact not_map hg h1 rfl
theorem BookAt.lt (h : BookAt w p m k L) {b : Nat} (e : m = some b) : b < w.heap.size := by
  obtain ⟨D, h1, _⟩ := h.own b e
  exact h1.lt
/-- A job's number, looked up. -/
theorem BookAt.look (h : BookAt w p m k L) {n : Int} (hn : wf n) : (Instr.lookup 76 (.map m) (.int .i64 n) false).run Try.prog w = .ok (.int .i64 (jobS L n)) w := by
  cases m with
  | none =>
    rw [h.none_ rfl]
    kernel_rfl
  | some b =>
    obtain ⟨D, h1, h2⟩ := h.own b rfl
    obtain ⟨v, ps, hr, hv⟩ := h1.lookup law3 Try.underlying76 (zero3 w) (plainElem_int Try.underlying3 (by decide)) (key_of hn)
    obtain ⟨c, rfl, hc, _⟩ := plainElem_int_inv Try.underlying3 hv
    have e : jobS L n = c := by
      have := congrArg Prod.fst hc
      unfold jobS
      cases hg : Ytjolkcomlindhaa.look L n with
      | none =>
        rw [atKey_out h2.map (by rw [h2.has, hg]; rfl)] at this
        simpa using this
      | some s =>
        rw [h2.at_ n s hg] at this
        simpa using this
    rw [e]
    exact hr
end
/-- What may have turned: the book's block and its map's. -/
structure Tn (w w' : World) (p : Nat) (m : Option Nat) : Prop where
  os : w'.os = w.os
  tape : w'.tape = w.tape
  output : w'.output = w.output
  size : w.heap.size ≤ w'.heap.size
  block : ∀ i, i < w.heap.size → i ≠ p → m ≠ some i → w'.heap[i]? = w.heap[i]?
theorem Tn.of_below {w w' : World} {p : Nat} {m : Option Nat} (h : Below w.heap.size w w') : Tn w w' p m := ⟨h.os, h.tape, h.output, h.size, fun i hi _ _ => h.block i hi⟩
end Go.Proofs.Ytjolkcomlindhaa
