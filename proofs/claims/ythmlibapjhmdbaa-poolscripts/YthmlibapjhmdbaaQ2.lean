/- A pool: New, has. -/
import Derived.Test.YthmlibapjhmdbaaQ1
import Derived.Test.YthmlibapjhmdbaaW12
namespace Go.Proofs.Ythmlibapjhmdbaa
open Go.RowKit Go.Shelf Go.Maps

theorem atKey_out {D : DataW Unit} {k : Lit} (hD : IsMap D) (h : Maps.has D k = false) (z : DataW Unit) : D.atKey k z = z := by
  obtain ⟨es, rfl⟩ := hD
  rw [Maps.has_eq] at h
  have hf : es.find? (fun p => p.1.sameKey k) = Option.none := List.find?_eq_none.2 (fun p hp => by
    have := List.any_eq_false.1 h p hp
    simpa using this)
  simp only [DataW.atKey, hf]
theorem ky_lit (n : Int) : WideAt.IsKeyLit (ky n) := trivial
theorem ky_ne {n m : Int} (h : n ≠ m) : ky n ≠ ky m := fun e => h (by cases e; rfl)
theorem Says.put {D : DataW Unit} {g : Int → Option Sh} (h : Says D g) (n : Int) (s : Sh) (hM : IsMap (D.put (ky n) (shD s))) : Says (D.put (ky n) (shD s)) (fun k => if k = n then some s else g k) := by
  refine ⟨hM, fun k => ?_, fun k s' hk z => ?_⟩
  · by_cases e : k = n
    · subst e
      rw [Maps.has_put_same h.map (ky_lit k), if_pos rfl]
      rfl
    · rw [Maps.has_put_other (ky_ne e), if_neg e, h.has]
  · by_cases e : k = n
    · subst e
      rw [if_pos rfl] at hk
      cases hk
      exact Maps.atKey_put_same h.map (ky_lit k) _ _
    · rw [if_neg e] at hk
      rw [Maps.atKey_put_other (ky_ne e)]
      exact h.at_ k s' hk z
theorem Says.del {D : DataW Unit} {g : Int → Option Sh} (h : Says D g) (n : Int) (hM : IsMap (D.del (ky n))) : Says (D.del (ky n)) (fun k => if k = n then Option.none else g k) := by
  refine ⟨hM, fun k => ?_, fun k s' hk z => ?_⟩
  · by_cases e : k = n
    · subst e
      rw [Maps.has_del_same, if_pos rfl]
      rfl
    · rw [Maps.has_del_other (ky_ne e), if_neg e, h.has]
  · by_cases e : k = n
    · rw [if_pos e] at hk; cases hk
    · rw [if_neg e] at hk
      rw [Maps.atKey_del_other (ky_ne e)]
      exact h.at_ k s' hk z

/-- A pool: its layout, its map's block, at most so many owners, and who has what. -/
structure PoolAt (w : World) (p b k s q : Nat) (g : Int → Option Sh) : Prop where
  blk : Bk w p 67 #[.int .i64 s, .int .i64 q, .map (some b)]
  own : ∃ D, w.ownsMap Try.prog 3 shE b k D ∧ Says D g
theorem PoolAt.next {w w' : World} {p b k s q : Nat} {g : Int → Option Sh} (h : PoolAt w p b k s q g) (hb : Below w.heap.size w w') : PoolAt w' p b k s q g := by
  obtain ⟨D, h1, h2⟩ := h.own
  exact ⟨h.blk.next hb, D, h1.kept (only_of_below hb) (by simp), h2⟩
theorem PoolAt.cells {w : World} {p b k s q : Nat} {g : Int → Option Sh} (h : PoolAt w p b k s q g) : w.cell? ⟨p, 0, none⟩ = some (.int .i64 s) ∧ w.cell? ⟨p, 1, none⟩ = some (.int .i64 q) ∧ w.cell? ⟨p, 2, none⟩ = some (.map (some b)) :=
  ⟨h.blk.cell 0 _ rfl, h.blk.cell 1 _ rfl, h.blk.cell 2 _ rfl⟩
theorem look_sh {D : DataW Unit} {g : Int → Option Sh} (h : Says D g) (n : Int) {v : Value} {ps : List MemPlace} (hv : shE v = some (D.atKey (ky n) (shD Sh.none), ps)) : v = shV ((g n).getD Sh.none) := by
  obtain ⟨s, rfl, hs⟩ := shE_inv hv
  congr 1
  apply shD_inj
  have e : D.atKey (ky n) (shD Sh.none) = shD s := congrArg Prod.fst hs
  rw [← e]
  cases hg : g n with
  | none => rw [atKey_out h.map (by rw [h.has, hg]; rfl)]; rfl
  | some s' => rw [h.at_ n s' hg]; rfl
/-- The map, asked for an owner. -/
theorem PoolAt.look {w : World} {p b k s q : Nat} {g : Int → Option Sh} (h : PoolAt w p b k s q g) {n : Int} (hn : (Lit.int .i64 n).wf = true) :
    (Instr.lookup 65 (.map (some b)) (.int .i64 n) true).run Try.prog w = .ok (.tuple #[shV ((g n).getD Sh.none), .bool (g n).isSome]) w ∧
    (Instr.lookup 65 (.map (some b)) (.int .i64 n) false).run Try.prog w = .ok (shV ((g n).getD Sh.none)) w := by
  obtain ⟨D, h1, h2⟩ := h.own
  obtain ⟨v, ps, hr, hv⟩ := h1.look_ok law Try.underlying65 (zero78 w) (shE_mk Sh.none) (key_of hn)
  obtain ⟨v', ps', hr', hv'⟩ := h1.lookup law Try.underlying65 (zero78 w) (shE_mk Sh.none) (key_of hn)
  rw [look_sh h2 n hv, h2.has n] at hr
  rw [look_sh h2 n hv'] at hr'
  exact ⟨hr, hr'⟩

set_option maxRecDepth 100000 in
set_option maxHeartbeats 400000 in
theorem has_walk (p b : Nat) (n : Int) (a0 a1 a2 a3 : Int) (t r : Bool) (w : World) (c2 : w.cell? ⟨p, 2, none⟩ = some (.map (some b)))
    (hl : (Instr.lookup 65 (.map (some b)) (.int .i64 n) true).run Try.prog w = .ok (.tuple #[.agg #[.int .u64 a0, .int .u64 a1, .int .u64 a2, .int .u64 a3, .bool t], .bool r]) w) :
    Calls Try.prog 44 #[.pointer (some ⟨p, 0, none⟩), .int .i64 n] w fun e w' => e = .returned (.bool r) ∧ Below w.heap.size w w' := by
  have hb := (Below.refl _ w).alloc (Nat.le_refl _) (.cells #[.int .u64 a0, .int .u64 a1, .int .u64 a2, .int .u64 a3, .bool t] 78)
  go_enter Try.func44, Try.ntmps44
  go_wp2_with fail
  go_ret
  exact ⟨rfl, hb⟩
end Go.Proofs.Ythmlibapjhmdbaa
