/- Places as keys; a cache in memory; New, Len. -/
import Derived.Test.YtiokpflciagdoaaA1
import Derived.Test.YtiokpflciagdoaaM1
namespace Go.Proofs.Ytiokpflciagdoaa
open Go.RowKit Go.Maps

theorem laidOut : laidOutB Try.prog = true := by kernel_rfl
theorem wide60 : (match Try.prog.underlying 60 with | some (.array _ _) | some (.struct _) => true | _ => false) = true := by rw [Try.underlying60]
theorem law60 : Keyed Try.prog 60 := Keyed.of_law (deep_law_laid laidOut (m := 2) (by omega) (of_decide_eq_true (by kernel_rfl)) (by kernel_rfl) wide60)
theorem law3 : Keyed Try.prog 3 := int_keyed Try.underlying3

/-- An int. -/
abbrev wf (n : Int) : Prop := (Lit.int .i64 n).wf = true
/-- A place. -/
structure Pl where
  j : Int
  e : Int
  s : Int
  ok : wf j ∧ wf e ∧ wf s
theorem Pl.ext' {a b : Pl} (h1 : a.j = b.j) (h2 : a.e = b.e) (h3 : a.s = b.s) : a = b := by
  cases a; cases b; simp only at h1 h2 h3; subst h1 h2 h3; rfl
abbrev Pl.dec (a b : Pl) : Decidable (a = b) := if h : a.j = b.j ∧ a.e = b.e ∧ a.s = b.s then isTrue (Pl.ext' h.1 h.2.1 h.2.2) else isFalse (fun e => h (by rw [e]; exact ⟨rfl, rfl, rfl⟩))
attribute [instance] Pl.dec
def plV (p : Pl) : Value := .agg #[.int .i64 p.j, .int .i64 p.e, .int .i64 p.s]
def pk (p : Pl) : Lit := .string (keyBytes [.int .i64 p.j, .int .i64 p.e, .int .i64 p.s])
theorem lits60 (n : Nat) (a b c : Value) (hn : 2 ≤ n) : Try.prog.keyLits n 60 [a, b, c] = ((Try.prog.keyLits (n - 1) 3 [a]).bind fun x => (Try.prog.keyLits (n - 1) 3 [b]).bind fun y => (Try.prog.keyLits (n - 1) 3 [c]).bind fun z => some (x ++ (y ++ z))) := by
  obtain ⟨n, rfl⟩ : ∃ m, n = m + 1 := ⟨n - 1, by omega⟩
  have hc : Try.prog.cellsOf 60 = 3 := by kernel_rfl
  have h3 : Try.prog.cellsOf 3 = 1 := by kernel_rfl
  simp only [Program.keyLits, Try.underlying60, Nat.add_sub_cancel]
  simp [hc, h3]
  cases Try.prog.keyLits n 3 [a] <;> cases Try.prog.keyLits n 3 [b] <;> cases Try.prog.keyLits n 3 [c] <;> simp
theorem lits3 (n : Nat) (v : Value) (hn : 1 ≤ n) {l : List Lit} (h : Try.prog.keyLits n 3 [v] = some l) : ∃ z, v = .int .i64 z ∧ l = [.int .i64 z] ∧ wf z := by
  obtain ⟨n, rfl⟩ : ∃ m, n = m + 1 := ⟨n - 1, by omega⟩
  simp only [Program.keyLits, Try.underlying3] at h
  cases v <;> simp at h
  obtain ⟨⟨rfl, hw⟩, rfl⟩ := h
  exact ⟨_, rfl, rfl, hw⟩
theorem lits3_mk (n : Nat) (z : Int) (hn : 1 ≤ n) (hw : wf z) : Try.prog.keyLits n 3 [.int .i64 z] = some [.int .i64 z] := by
  obtain ⟨n, rfl⟩ : ∃ m, n = m + 1 := ⟨n - 1, by omega⟩
  have hw' : (Lit.int .i64 z).wf = true := hw
  simp only [Program.keyLits, Try.underlying3]
  simp [hw']
theorem many : 2 ≤ Try.prog.types.size := of_decide_eq_true (by kernel_rfl)
theorem key_mk (p : Pl) : keyOf Try.prog 60 (plV p) = some (pk p) := by
  have hc : Try.prog.cellsOf 60 = 3 := by kernel_rfl
  have hf : (plV p).formed Try.prog 60 = true := by simp [Value.formed, Try.underlying60, plV, hc]
  have ht : Try.prog.keyType 60 = true := by kernel_rfl
  have hm := many
  unfold keyOf
  simp only [Try.underlying60, ht, hf, Bool.and_self, if_true]
  show (Try.prog.keyLits (Try.prog.types.size + 1) 60 [.int .i64 p.j, .int .i64 p.e, .int .i64 p.s]).map _ = _
  rw [lits60 _ _ _ _ (by omega), lits3_mk _ _ (by omega) p.ok.1, lits3_mk _ _ (by omega) p.ok.2.1, lits3_mk _ _ (by omega) p.ok.2.2]
  rfl
theorem key_inv {v : Value} {l : Lit} (h : keyOf Try.prog 60 v = some l) : ∃ p, v = plV p ∧ l = pk p := by
  have hc : Try.prog.cellsOf 60 = 3 := by kernel_rfl
  have hm := many
  unfold keyOf at h
  simp only [Try.underlying60] at h
  split at h
  · rename_i hf
    rw [Bool.and_eq_true] at hf
    have hf2 := hf.2
    cases v <;> simp [Value.formed, Try.underlying60] at hf2
    rename_i cs
    obtain ⟨cl⟩ := cs
    match cl, hf2.trans hc with
    | [a, b, c], _ =>
      have h' : (Try.prog.keyLits (Try.prog.types.size + 1) 60 [a, b, c]).map (fun ls => Lit.string (keyBytes ls)) = some l := h
      rw [lits60 _ _ _ _ (by omega)] at h'
      rw [Option.map_eq_some_iff] at h'
      obtain ⟨ls, h1, rfl⟩ := h'
      rw [Option.bind_eq_some_iff] at h1
      obtain ⟨x, hx, h1⟩ := h1
      rw [Option.bind_eq_some_iff] at h1
      obtain ⟨y, hy, h1⟩ := h1
      rw [Option.bind_eq_some_iff] at h1
      obtain ⟨z, hz, h1⟩ := h1
      obtain ⟨j, rfl, rfl, wj⟩ := lits3 _ _ (by omega) hx
      obtain ⟨e, rfl, rfl, we⟩ := lits3 _ _ (by omega) hy
      obtain ⟨s, rfl, rfl, ws⟩ := lits3 _ _ (by omega) hz
      cases h1
      exact ⟨⟨j, e, s, wj, we, ws⟩, rfl, rfl⟩
  · cases h
theorem plV_inj {a b : Pl} (h : plV a = plV b) : a = b := by
  simp only [plV, Value.agg.injEq, Array.mk.injEq, List.cons.injEq, Value.int.injEq, true_and, and_true] at h
  exact Pl.ext' h.1 h.2.1 h.2.2
theorem keyFnP : KeyFn pk := ⟨fun p => law60.key (key_mk p), fun a b h => plV_inj (law60.inj (key_mk a) (h ▸ key_mk b))⟩
/-- A job. -/
structure Jb where
  n : Int
  ok : wf n
theorem Jb.ext' {a b : Jb} (h : a.n = b.n) : a = b := by
  cases a; cases b; simp only at h; subst h; rfl
abbrev Jb.dec (a b : Jb) : Decidable (a = b) := if h : a.n = b.n then isTrue (Jb.ext' h) else isFalse (fun e => h (by rw [e]))
attribute [instance] Jb.dec
def jk (j : Jb) : Lit := .int .i64 j.n
theorem keyFnJ : KeyFn jk := ⟨fun _ => trivial, fun a b h => by
  cases a; cases b
  have : _ = _ := (Lit.int.inj h).2
  simp only at this
  subst this
  rfl⟩
theorem jk_mk (j : Jb) : keyOf Try.prog 3 (.int .i64 j.n) = some (jk j) := keyOf_int_mk Try.underlying3 j.ok

/-- A cache: how many it keeps at most, its two maps' blocks, what it keeps, and what is taken back. -/
structure CacheAt (w : World) (p bk bt : Nat) (most : Int) (L : List (Pl × Int)) (T : List (Jb × Int)) : Prop where
  blk : Bk w p 57 #[.int .i64 most, .map (some bk), .map (some bt)]
  ne : bk ≠ bt
  kept : ∃ D, w.ownsMap Try.prog 60 (plainElem Try.prog 3) bk L.length D ∧ Tells pk D L
  tak : ∃ D, w.ownsMap Try.prog 3 (plainElem Try.prog 3) bt T.length D ∧ Tells jk D T
section
variable {w w' : World} {p bk bt : Nat} {most : Int} {L : List (Pl × Int)} {T : List (Jb × Int)}
theorem CacheAt.next (h : CacheAt w p bk bt most L T) (hb : Below w.heap.size w w') : CacheAt w' p bk bt most L T := by
  obtain ⟨D, h1, h2⟩ := h.kept
  obtain ⟨E, h3, h4⟩ := h.tak
  exact ⟨h.blk.next hb, h.ne, ⟨D, h1.kept (only_of_below hb) (by simp), h2⟩, ⟨E, h3.kept (only_of_below hb) (by simp), h4⟩⟩
theorem CacheAt.hid (h : CacheAt w p bk bt most L T) (e : Hid (w' = w.drew)) : CacheAt w' p bk bt most L T := by
  rw [e.out]
  obtain ⟨D, h1, h2⟩ := h.kept
  obtain ⟨E, h3, h4⟩ := h.tak
  exact ⟨h.blk, h.ne, ⟨D, h1.drew, h2⟩, ⟨E, h3.drew, h4⟩⟩
theorem CacheAt.cells (h : CacheAt w p bk bt most L T) : w.cell? ⟨p, 0, none⟩ = some (.int .i64 most) ∧ w.cell? ⟨p, 1, none⟩ = some (.map (some bk)) ∧ w.cell? ⟨p, 2, none⟩ = some (.map (some bt)) :=
  ⟨h.blk.cell 0 _ rfl, h.blk.cell 1 _ rfl, h.blk.cell 2 _ rfl⟩
theorem not_map {g b n : Nat} {t k : TypeId} {cs : Array Value} {R : Value → Option (DataW Unit × List MemPlace)} {D : DataW Unit} (h : Bk w g t cs) (ho : w.ownsMap Try.prog k R b n D) : g ≠ b := by
  rintro rfl
  obtain ⟨es, cl, hb, _⟩ := ho
  unfold Bk at h
  rw [hb] at h
  cases h
theorem CacheAt.nek (h : CacheAt w p bk bt most L T) : p ≠ bk := by
  obtain ⟨D, h1, _⟩ := h.kept
  exact not_map h.blk h1
theorem CacheAt.net (h : CacheAt w p bk bt most L T) : p ≠ bt := by
  obtain ⟨D, h1, _⟩ := h.tak
  exact not_map h.blk h1
theorem CacheAt.ltk (h : CacheAt w p bk bt most L T) : bk < w.heap.size := by
  obtain ⟨D, h1, _⟩ := h.kept
  exact h1.lt
theorem CacheAt.ltt (h : CacheAt w p bk bt most L T) : bt < w.heap.size := by
  obtain ⟨D, h1, _⟩ := h.tak
  exact h1.lt
theorem CacheAt.apart (h : CacheAt w p bk bt most L T) : Apart L := by
  obtain ⟨D, h1, h2⟩ := h.kept
  obtain ⟨es, e, hp, _⟩ := h1.entries law60
  exact h2.apart e hp
theorem CacheAt.apartT (h : CacheAt w p bk bt most L T) : Apart T := by
  obtain ⟨D, h1, h2⟩ := h.tak
  obtain ⟨es, e, hp, _⟩ := h1.entries law3
  exact h2.apart e hp
theorem zero3 (w : World) : (zeroValue 3).run Try.prog w = .ok (.int .i64 0) w := by kernel_rfl
theorem CacheAt.look (h : CacheAt w p bk bt most L T) (x : Pl) : (Instr.lookup 54 (.map (some bk)) (.agg #[.int .i64 x.j, .int .i64 x.e, .int .i64 x.s]) true).run Try.prog w = .ok (.tuple #[.int .i64 ((getL L x).getD 0), .bool (hasL L x)]) w := by
  obtain ⟨D, h1, h2⟩ := h.kept
  obtain ⟨v, ps, hr, hv⟩ := h1.look_ok law60 Try.underlying54 (zero3 w) (plainElem_int Try.underlying3 (by decide)) (key_mk x)
  rw [h2.has keyFnP] at hr
  rw [h2.at_ keyFnP (h1.tidy law60)] at hv
  obtain ⟨c, rfl, hc, _⟩ := plainElem_int_inv Try.underlying3 hv
  have e : (getL L x).getD 0 = c := by
    have := congrArg Prod.fst hc
    simpa using this
  rw [e]
  exact hr
theorem CacheAt.lookT (h : CacheAt w p bk bt most L T) (x : Jb) : (Instr.lookup 55 (.map (some bt)) (.int .i64 x.n) true).run Try.prog w = .ok (.tuple #[.int .i64 ((getL T x).getD 0), .bool (hasL T x)]) w := by
  obtain ⟨D, h1, h2⟩ := h.tak
  obtain ⟨v, ps, hr, hv⟩ := h1.look_ok law3 Try.underlying55 (zero3 w) (plainElem_int Try.underlying3 (by decide)) (jk_mk x)
  rw [h2.has keyFnJ] at hr
  rw [h2.at_ keyFnJ (h1.tidy law3)] at hv
  obtain ⟨c, rfl, hc, _⟩ := plainElem_int_inv Try.underlying3 hv
  have e : (getL T x).getD 0 = c := by
    have := congrArg Prod.fst hc
    simpa using this
  rw [e]
  exact hr
theorem CacheAt.len (h : CacheAt w p bk bt most L T) (ty : TypeId) : (Builtin.len_ #[54] ty #[.map (some bk)]).run Try.prog w = .ok (.int .i64 L.length) w := by
  obtain ⟨D, h1, h2⟩ := h.kept
  rw [h1.len Try.underlying54 ty, h2.size]
theorem CacheAt.lenT (h : CacheAt w p bk bt most L T) (ty : TypeId) : (Builtin.len_ #[55] ty #[.map (some bt)]).run Try.prog w = .ok (.int .i64 T.length) w := by
  obtain ⟨D, h1, h2⟩ := h.tak
  rw [h1.len Try.underlying55 ty, h2.size]
end

set_option maxRecDepth 100000 in
set_option maxHeartbeats 400000 in
theorem new_ok (m : Int) (w : World) (h1 : 1 ≤ m) (h2 : m ≤ 64) :
    Calls Try.prog 10 #[.int .i64 m] w fun e w' => ∃ p bk bt, e = .returned (.pointer (some ⟨p, 0, none⟩)) ∧ w.heap.size ≤ p ∧ w.heap.size ≤ bk ∧ w.heap.size ≤ bt ∧ CacheAt w' p bk bt m [] [] ∧ Below w.heap.size w w' := by
  have hmm := @run_makeMap Try.prog
  go_enter Try.func10, Try.ntmps10
  go_wp2_with fail
  go_ret
  refine ⟨w.heap.size + 1 + 1, w.heap.size, w.heap.size + 1, rfl, by omega, by omega, by omega, ⟨?_, by omega, ⟨.map [], ?_, tells_none⟩, ⟨.map [], ?_, tells_none⟩⟩, ?_⟩
  · have := Bk.new ((w.alloc (.map #[] 0)).alloc (.map #[] 0)) 57 #[.int .i64 m, .map (some w.heap.size), .map (some (w.heap.size + 1))]
    rw [size_alloc, size_alloc] at this
    exact this
  · exact ((World.ownsMap_made w Try.prog 60 (plainElem Try.prog 3)).alloc _).alloc _
  · have := (World.ownsMap_made (w.alloc (.map #[] 0)) Try.prog 3 (plainElem (H := Unit) Try.prog 3)).alloc (.cells #[.int .i64 m, .map (some w.heap.size), .map (some (w.heap.size + 1))] 57)
    rw [size_alloc] at this
    exact this
  · exact ((below_alloc _ _).alloc (by simp) _).alloc (by simp; omega) _
set_option maxRecDepth 100000 in
set_option maxHeartbeats 400000 in
theorem new_bad (m : Int) (w : World) (h : m < 1 ∨ 64 < m) : Calls Try.prog 10 #[.int .i64 m] w fun e w' => e = .returned (.pointer none) ∧ w = w' := by
  rcases h with h | h
  · go_enter Try.func10, Try.ntmps10
    go_wp2_with fail
    go_ret
    exact ⟨rfl, rfl⟩
  · have h' : ¬ m < 1 := by omega
    go_enter Try.func10, Try.ntmps10
    go_wp2_with fail
    go_ret
    exact ⟨rfl, rfl⟩
set_option maxRecDepth 100000 in
set_option maxHeartbeats 400000 in
theorem len_any {w : World} {p bk bt : Nat} {most : Int} {L : List (Pl × Int)} {T : List (Jb × Int)} (h : CacheAt w p bk bt most L T) :
    Calls Try.prog 13 #[.pointer (some ⟨p, 0, none⟩)] w fun e w' => e = .returned (.int .i64 L.length) ∧ w = w' := by
  have hl := h.len
  have c1 := h.cells.2.1
  go_enter Try.func13, Try.ntmps13
  go_wp2_with fail
  go_ret
  exact ⟨rfl, rfl⟩
end Go.Proofs.Ytiokpflciagdoaa
