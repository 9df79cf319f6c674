/- A table of processes in memory; New, find. -/
import Derived.Test.YtjolkcomlindhaaG2
namespace Go.Proofs.Ytjolkcomlindhaa
open Go.RowKit Go.Shelf Go.Maps Go.Sort

/-- A process: its task, its signal, where its cores and itself lie. -/
structure Pr where
  pid : Int
  j : Int
  e : Int
  s : Int
  r : Int
  st : Int
  code : Int
  sig : Int
  A : Option Addr
  cap : Nat
  cs : List Int
  b : Nat
abbrev Pr.cells (x : Pr) : Array Value := #[.int .i64 x.pid, .int .i64 x.j, .int .i64 x.e, .int .i64 x.s, .int .i64 x.r, .slice x.A x.cs.length x.cap, .int .i64 x.st, .int .i64 x.code, .int .i64 x.sig]
structure PAt (w : World) (x : Pr) : Prop where
  blk : Bk w x.b 93 x.cells
  cs : Cs w x.A x.cs
  len : x.cs.length ≤ 1000
theorem PAt.next {w w' : World} {x : Pr} (h : PAt w x) (hb : Below w.heap.size w w') : PAt w' x := ⟨h.blk.next hb, h.cs.next hb, h.len⟩
def lookP : List Pr → Int → Option Pr
  | [], _ => none
  | x :: r, n => if x.pid = n then some x else lookP r n
theorem lookP_mem {T : List Pr} {n : Int} {x : Pr} (h : lookP T n = some x) : x ∈ T ∧ x.pid = n := by
  induction T with
  | nil => cases h
  | cons y r ih =>
    unfold lookP at h
    split at h
    · rename_i e
      cases h
      exact ⟨List.mem_cons_self, e⟩
    · exact ⟨List.mem_cons_of_mem _ (ih h).1, (ih h).2⟩
theorem lookP_none {T : List Pr} {n : Int} (h : ∀ x ∈ T, x.pid ≠ n) : lookP T n = none := by
  induction T with
  | nil => rfl
  | cons y r ih =>
    unfold lookP
    rw [if_neg (h y List.mem_cons_self)]
    exact ih fun x hx => h x (List.mem_cons_of_mem _ hx)
theorem lookP_of_mem {T : List Pr} (hu : T.Pairwise fun a b => a.pid < b.pid) {x : Pr} (h : x ∈ T) : lookP T x.pid = some x := by
  induction T with
  | nil => cases h
  | cons y r ih =>
    have h' := List.pairwise_cons.1 hu
    unfold lookP
    rcases List.mem_cons.1 h with e | e
    · subst e; rw [if_pos rfl]
    · have := h'.1 x e
      rw [if_neg (by omega)]
      exact ih h'.2 e
/-- A pointer as the map's element. -/
def ptV : Option Nat → Value
  | none => .pointer none
  | some b => .pointer (some ⟨b, 0, none⟩)
def rdP : Option Nat → DataW Unit
  | none => .lit (.int .i64 (-1))
  | some b => .lit (.int .i64 b)
theorem ptV_inj {a b : Option Nat} (h : ptV a = ptV b) : a = b := by
  cases a <;> cases b <;> simp_all [ptV]
theorem rdP_inj {a b : Option Nat} (h : rdP a = rdP b) : a = b := by
  cases a <;> cases b
  · rfl
  · injection h with h; injection h with _ h; omega
  · injection h with h; injection h with _ h; omega
  · injection h with h
    injection h with _ h
    rw [show _ = _ from Int.ofNat.inj h]
open Classical in
/-- How it is read. -/
noncomputable def ptE (v : Value) : Option (DataW Unit × List MemPlace) := if h : ∃ s, v = ptV s then some (rdP h.choose, []) else none
theorem ptE_mk (s : Option Nat) : ptE (ptV s) = some (rdP s, []) := by
  unfold ptE
  have h : ∃ s', ptV s = ptV s' := ⟨s, rfl⟩
  rw [dif_pos h, ptV_inj h.choose_spec.symm]
theorem ptE_inv {v : Value} {y : DataW Unit × List MemPlace} (h : ptE v = some y) : ∃ s, v = ptV s ∧ y = (rdP s, []) := by
  unfold ptE at h
  split at h
  · rename_i hx
    cases h
    exact ⟨hx.choose, hx.choose_spec, rfl⟩
  · cases h
theorem zero90 (w : World) : (zeroValue 90).run Try.prog w = .ok (ptV none) w := by kernel_rfl
/-- A table. -/
structure TbAt (w : World) (p : Nat) (m : Option Nat) (k : Nat) (N : Int) (T : List Pr) : Prop where
  blk : Bk w p 85 #[.int .i64 N, .map m]
  none_ : m = none → T = []
  own : ∀ b, m = some b → ∃ D, w.ownsMap Try.prog 3 ptE b k D ∧ Says D rdP (fun n => (lookP T n).map (fun x => some x.b))
  procs : ∀ x ∈ T, PAt w x
  up : T.Pairwise fun a b => a.pid < b.pid
  apart : T.Pairwise fun a b => a.b ≠ b.b
  pids : ∀ x ∈ T, 1 ≤ x.pid ∧ x.pid ≤ N
  few : 0 ≤ N ∧ N ≤ 1000
section
variable {w w' : World} {p k : Nat} {m : Option Nat} {N : Int} {T : List Pr}
theorem TbAt.next (h : TbAt w p m k N T) (hb : Below w.heap.size w w') : TbAt w' p m k N T :=
  ⟨h.blk.next hb, h.none_, fun b e => by obtain ⟨D, h1, h2⟩ := h.own b e; exact ⟨D, h1.kept (only_of_below hb) (by simp), h2⟩, fun x hx => (h.procs x hx).next hb, h.up, h.apart, h.pids, h.few⟩
theorem TbAt.lt (h : TbAt w p m k N T) {b : Nat} (e : m = some b) : b < w.heap.size := by
  obtain ⟨D, h1, _⟩ := h.own b e
  exact h1.lt
theorem TbAt.ne (h : TbAt w p m k N T) {g : Nat} {t : TypeId} {cs : Array Value} (hg : Bk w g t cs) : m ≠ some g := by
  rintro rfl
  obtain ⟨D, h1, _⟩ := h.own g rfl
  exact not_map hg h1 rfl
theorem TbAt.look (h : TbAt w p m k N T) {n : Int} (hn : wf n) : (Instr.lookup 83 (.map m) (.int .i64 n) false).run Try.prog w = .ok (ptV ((lookP T n).map (·.b))) w := by
  cases m with
  | none =>
    rw [h.none_ rfl]
    kernel_rfl
  | some b =>
    obtain ⟨D, h1, h2⟩ := h.own b rfl
    obtain ⟨v, ps, hr, hv⟩ := h1.lookup law3 Try.underlying83 (zero90 w) (ptE_mk none) (key_of hn)
    obtain ⟨s, rfl, hs⟩ := ptE_inv hv
    have e : s = (lookP T n).map (·.b) := by
      have := congrArg Prod.fst hs
      cases hg : lookP T n with
      | none =>
        rw [atKey_out h2.map (by rw [h2.has, hg]; rfl)] at this
        exact (rdP_inj this).symm
      | some x =>
        rw [h2.at_ n (some x.b) (by rw [hg]; rfl)] at this
        exact (rdP_inj this).symm
    rw [← e]
    exact hr
theorem TbAt.size (h : TbAt w p m k N T) (ty : TypeId) : (Builtin.len_ #[83] ty #[.map m]).run Try.prog w = .ok (.int .i64 T.length) w := by
  cases m with
  | none =>
    rw [h.none_ rfl]
    kernel_rfl
  | some b =>
    obtain ⟨D, h1, h2⟩ := h.own b rfl
    have hp : (T.map (·.pid)).Perm (intKeys D) := keys_perm h1 h2 _ (List.pairwise_map.2 h.up) (fun n => by
      rw [List.mem_map]
      constructor
      · rintro ⟨x, hx, rfl⟩
        rw [lookP_of_mem h.up hx]; rfl
      · intro hs
        cases e : lookP T n with
        | none => rw [e] at hs; cases hs
        | some x => exact ⟨x, lookP_mem e⟩)
    rw [h1.len Try.underlying83 ty, size_keys h2.map, ← hp.length_eq, List.length_map]
end
set_option maxRecDepth 100000 in
set_option maxHeartbeats 400000 in
theorem tnew_any (w : World) : Calls Try.prog 34 #[] w fun e w' => ∃ p, e = .returned (.pointer (some ⟨p, 0, none⟩)) ∧ w.heap.size ≤ p ∧ TbAt w' p none 0 0 [] ∧ Below w.heap.size w w' := by
  go_enter Try.func34, Try.ntmps34
  go_wp2_with fail
  go_ret
  exact ⟨w.heap.size, rfl, Nat.le_refl _, ⟨Bk.new _ _ _, fun _ => rfl, (fun b e => by cases e), (fun x hx => by cases hx), List.Pairwise.nil, List.Pairwise.nil, (fun x hx => by cases hx), by omega⟩, below_alloc _ _⟩
set_option maxRecDepth 100000 in
set_option maxHeartbeats 400000 in
theorem find_any {w : World} {p k : Nat} {m : Option Nat} {N : Int} {T : List Pr} (h : TbAt w p m k N T) {n : Int} (hn : wf n) : Calls Try.prog 58 #[.pointer (some ⟨p, 0, none⟩), .int .i64 n] w fun e w' => e = .returned (ptV ((lookP T n).map (·.b))) ∧ w = w' := by
  have hl := h.look hn
  have c1 := h.blk.cell 1 _ rfl
  clear hn h
  generalize ptV ((lookP T n).map (·.b)) = v at *
  go_enter Try.func58, Try.ntmps58
  go_wp2_with fail
  go_ret
  exact ⟨rfl, rfl⟩
set_option maxRecDepth 100000 in
theorem find_nil (n : Int) (w : World) : Calls Try.prog 58 #[.pointer none, .int .i64 n] w fun e w' => e = .returned (.pointer none) ∧ w = w' := by
  go_enter Try.func58, Try.ntmps58
  go_wp2_with fail
  go_ret
  exact ⟨rfl, rfl⟩
end Go.Proofs.Ytjolkcomlindhaa
