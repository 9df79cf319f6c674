/- A table of processes in memory; New, find. -/
import Derived.Test.YtjolkcomlindhaaGMW4xG1xG2
namespace Go.Proofs.Ytjolkcomlindhaa
open Go.RowKit Go.Shelf Go.Maps Go.Sort

/-- A process: its task, its signal, where its cores and itself lie. -/
structure Pr where
  pid : Int
  j : Int
  e : Int
  s : Int
  r : Int
  st : Int
  code : Int
  sig : Int
  A : Option Addr
  cap : Nat
  cs : List Int
  b : Nat
abbrev Pr.cells (x : Pr) : Array Value := #[.int .i64 x.pid, .int .i64 x.j, .int .i64 x.e, .int .i64 x.s, .int .i64 x.r, .slice x.A x.cs.length x.cap, .int .i64 x.st, .int .i64 x.code, .int .i64 x.sig]
structure PAt (w : World) (x : Pr) : Prop where
  blk : Bk w x.b 93 x.cells
  cs : Cs w x.A x.cs
  len : x.cs.length ≤ 1000
theorem PAt.next {w w' : World} {x : Pr} (h : PAt w x) (hb : Below w.heap.size w w') : PAt w' x := ⟨h.blk.next hb, h.cs.next hb, h.len⟩
def lookP : List Pr → Int → Option Pr
  | [], _ => none
  | x :: r, n => if x.pid = n then some x else lookP r n
theorem lookP_mem {T : List Pr} {n : Int} {x : Pr} (h : lookP T n = some x) : x ∈ T ∧ x.pid = n := by
  induction T with
  | nil => cases h
  | cons y r ih =>
    unfold lookP at h
    split at h
    · rename_i e
      cases h
      exact ⟨List.mem_cons_self, e⟩
    · exact ⟨List.mem_cons_of_mem _ (ih h).1, (ih h).2⟩
theorem lookP_none {T : List Pr} {n : Int} (h : ∀ x ∈ T, x.pid ≠ n) : lookP T n = none := by
  induction T with
  | nil => rfl
  | cons y r ih =>
    unfold lookP
    rw [if_neg (h y List.mem_cons_self)]
    exact ih fun x hx => h x (List.mem_cons_of_mem _ hx)
theorem lookP_of_mem {T : List Pr} (hu : T.Pairwise fun a b => a.pid < b.pid) {x : Pr} (h : x ∈ T) : lookP T x.pid = some x := by
  induction T with
  | nil => cases h
  | cons y r ih =>
    have h' := List.pairwise_cons.1 hu
    unfold lookP
    rcases List.mem_cons.1 h with e | e
    · subst e; rw [if_pos rfl]
    · have := h'.1 x e
      rw [if_neg (by omega)]
      exact ih h'.2 e
/-- A pointer as the map's element. -/
def ptV : Option Nat → Value
  | none => .pointer none
  | some b => .pointer (some ⟨b, 0, none⟩)
def rdP : Option Nat → DataW Unit
  | none => .lit (.int .i64 (-1))
  | some b => .lit (.int .i64 b)
theorem ptV_inj {a b : Option Nat} (h : ptV a = ptV b) : a = b := by
  cases a <;> cases b <;> simp_all [ptV]
theorem rdP_inj {a b : Option Nat} (h : rdP a = rdP b) : a = b := by
  cases a <;> cases b
  · rfl
  · injection h with h; injection h with _ h; omega
  · injection h with h; injection h with _ h; omega
  · injection h with h
    injection h with _ h
    rw [show _ = _ from Int.ofNat.inj h]
open Classical in
/-- How it is read. -/
noncomputable def ptE (v : Value) : Option (DataW Unit × List MemPlace) := if h : ∃ s, v = ptV s then some (rdP h.choose, []) else none
theorem ptE_mk (s : Option Nat) : ptE (ptV s) = some (rdP s, []) := by
  unfold ptE
  have h : ∃ s', ptV s = ptV s' := ⟨s, rfl⟩
  rw [dif_pos h, ptV_inj h.choose_spec.symm]
theorem ptE_inv {v : Value} {y : DataW Unit × List MemPlace} (h : ptE v = some y) : ∃ s, v = ptV s ∧ y = (rdP s, []) := by
  unfold ptE at h
  split at h
  · rename_i hx
    cases h
    exact ⟨hx.choose, hx.choose_spec, rfl⟩
  · cases h
theorem zero90 (w : World) : (zeroValue 90).run Try.prog w = .ok (ptV none) w := by kernel_rfl
/-- A table. -/
structure TbAt (w : World) (p : Nat) (m : Option Nat) (k : Nat) (N : Int) (T : List Pr) : Prop where
  blk : Bk w p 85 #[.int .i64 N, .map m]
  none_ : m = none → T = []
  own : ∀ b, m = some b → ∃ D, w.ownsMap Try.prog 3 ptE b k D ∧ Says D rdP (fun n => (lookP T n).map (fun x => some x.b))
  procs : ∀ x ∈ T, PAt w x
  up : T.Pairwise fun a b => a.pid < b.pid
  apart : T.Pairwise fun a b => a.b ≠ b.b
  pids : ∀ x ∈ T, 1 ≤ x.pid ∧ x.pid ≤ N
  few : 0 ≤ N ∧ N ≤ 1000
section
variable {w w' : World} {p k : Nat} {m : Option Nat} {N : Int} {T : List Pr}
theorem TbAt.next (h : TbAt w p m k N T) (hb : Below w.heap.size w w') : TbAt w' p m k N T :=
  ⟨h.blk.next hb, h.none_, fun b e => by obtain ⟨D, h1, h2⟩ := h.own b e; exact ⟨D, h1.kept (only_of_below hb) (by simp), h2⟩, fun x hx => (h.procs x hx).next hb, h.up, h.apart, h.pids, h.few⟩
theorem TbAt.lt (h : TbAt w p m k N T) {b : Nat} (e : m = some b) : b < w.heap.size := by
  obtain ⟨D, h1, _⟩ := h.own b e
  exact h1.lt
theorem TbAt.ne (h : TbAt w p m k N T) {g : Nat} {t : TypeId} {cs : Array Value} (hg : Bk w g t cs) : m ≠ some g := by
  rintro rfl
  obtain ⟨D, h1, _⟩ := h.own g rfl
  exact not_map hg h1 rfl
theorem TbAt.look (h : TbAt w p m k N T) {n : Int} (hn : wf n) : (Instr.lookup 83 (.map m) (.int .i64 n) false).run Try.prog w = .ok (ptV ((lookP T n).map (·.b))) w := by
  cases m with
  | none =>
    rw [h.none_ rfl]
    kernel_rfl
  | some b =>
    obtain ⟨D, h1, h2⟩ := h.own b rfl
    obtain ⟨v, ps, hr, hv⟩ := h1.lookup law3 Try.underlying83 (zero90 w) (ptE_mk none) (key_of hn)
    obtain ⟨s, rfl, hs⟩ := ptE_inv hv
    have e : s = (lookP T n).map (·.b) := by
      have := congrArg Prod.fst hs
      cases hg : lookP T n with
      | none =>
        rw [atKey_out h2.map (by rw [h2.has, hg]; rfl)] at this
        exact (rdP_inj this).symm
      | some x =>
        rw [h2.at_ n (some x.b) (by rw [hg]; rfl)] at this
        exact (rdP_inj this).symm
    rw [← e]
    exact hr
theorem TbAt.size (h : TbAt w p m k N T) (ty : TypeId) : (Builtin.len_ #[83] ty #[.map m]).run Try.prog w = .ok (.int .i64 T.length) w := by
  cases m with
  | none =>
    rw [h.none_ rfl]
    kernel_rfl
  | some b =>
    obtain ⟨D, h1, h2⟩ := h.own b rfl
    have hp : (T.map (·.pid)).Perm (intKeys D) := keys_perm h1 h2 _ (List.pairwise_map.2 h.up) (fun n => by
      rw [List.mem_map]
      constructor
      · rintro ⟨x, hx, rfl⟩
        rw [lookP_of_mem h.up hx]; rfl
      · intro hs
        cases e : lookP T n with
        | none => rw [e] at hs; cases hs
        | some x => exact ⟨x, lookP_mem e⟩)
    rw [h1.len Try.underlying83 ty, size_keys h2.map, ← hp.length_eq, List.length_map]
end
set_option maxRecDepth 100000 in
set_option maxHeartbeats 400000 in
theorem tnew_any (w : World) : Calls Try.prog 34 #[] w fun e w' => ∃ p, e = .returned (.pointer (some ⟨p, 0, none⟩)) ∧ w.heap.size ≤ p ∧ TbAt w' p none 0 0 [] ∧ Below w.heap.size w w' := by
  go_enter Try.func34, Try.ntmps34
  go_wp2_with fail
  go_ret
  exact ⟨w.heap.size, rfl, Nat.le_refl _, ⟨Bk.new _ _ _, fun _ => rfl, (fun b e => by cases e), (fun x hx => by cases hx), List.Pairwise.nil, List.Pairwise.nil, (fun x hx => by cases hx), by omega⟩, below_alloc _ _⟩
set_option maxRecDepth 100000 in
set_option maxHeartbeats 400000 in
theorem find_any {w : World} {p k : Nat} {m : Option Nat} {N : Int} {T : List Pr} (h : TbAt w p m k N T) {n : Int} (hn : wf n) : Calls Try.prog 58 #[.pointer (some ⟨p, 0, none⟩), .int .i64 n] w fun e w' => e = .returned (ptV ((lookP T n).map (·.b))) ∧ w = w' := by
  have hl := h.look hn
  have c1 := h.blk.cell 1 _ rfl
  clear hn h
  generalize ptV ((lookP T n).map (·.b)) = v at *
  go_enter Try.func58, Try.ntmps58
  go_wp2_with fail
  go_ret
  exact ⟨rfl, rfl⟩
set_option maxRecDepth 100000 in
theorem find_nil (n : Int) (w : World) : Calls Try.prog 58 #[.pointer none, .int .i64 n] w fun e w' => e = .returned (.pointer none) ∧ w = w' := by
  go_enter Try.func58, Try.ntmps58
  go_wp2_with fail
  go_ret
  exact ⟨rfl, rfl⟩
end Go.Proofs.Ytjolkcomlindhaa
/- A table: Release, Exit, Signal, Signalled; of none. -/
namespace Go.Proofs.Ytjolkcomlindhaa
open Go.RowKit Go.Shelf Go.Maps Go.Sort

/-- What may have turned: the table's block, its map's, and its processes. -/
structure Tt (w w' : World) (p : Nat) (m : Option Nat) (T : List Pr) : Prop where
  os : w'.os = w.os
  tape : w'.tape = w.tape
  output : w'.output = w.output
  size : w.heap.size ≤ w'.heap.size
  block : ∀ i, i < w.heap.size → i ≠ p → m ≠ some i → (∀ x ∈ T, x.b ≠ i) → w'.heap[i]? = w.heap[i]?
theorem Tt.of_below {w w' : World} {p : Nat} {m : Option Nat} {T : List Pr} (h : Below w.heap.size w w') : Tt w w' p m T := ⟨h.os, h.tape, h.output, h.size, fun i hi _ _ _ => h.block i hi⟩
theorem Tt.of_proc {w w' : World} {p : Nat} {m : Option Nat} {T : List Pr} {x : Pr} (h : w.grownBy w' (some x.b)) (hx : x ∈ T) : Tt w w' p m T :=
  ⟨h.os, h.tape, h.output, h.size, fun i hi _ _ hc => h.block i hi (fun e => by injection e with e; exact hc x hx e.symm)⟩
/-- One process is another. -/
def updP (T : List Pr) (x' : Pr) : List Pr := T.map fun y => if y.pid = x'.pid then x' else y
theorem lookP_upd_ne {T : List Pr} {x' : Pr} {n : Int} (hn : n ≠ x'.pid) : lookP (updP T x') n = lookP T n := by
  induction T with
  | nil => rfl
  | cons y r ih =>
    rw [show updP (y :: r) x' = (if y.pid = x'.pid then x' else y) :: updP r x' from rfl]
    by_cases e : y.pid = x'.pid
    · rw [if_pos e]
      unfold lookP
      rw [if_neg (fun q => hn q.symm), if_neg (by omega)]
      exact ih
    · rw [if_neg e]
      unfold lookP
      rw [ih]
theorem lookP_upd_eq {T : List Pr} {x x' : Pr} (hx : lookP T x'.pid = some x) : lookP (updP T x') x'.pid = some x' := by
  induction T with
  | nil => cases hx
  | cons y r ih =>
    rw [show updP (y :: r) x' = (if y.pid = x'.pid then x' else y) :: updP r x' from rfl]
    by_cases e : y.pid = x'.pid
    · rw [if_pos e]
      unfold lookP
      rw [if_pos rfl]
    · rw [if_neg e]
      unfold lookP at hx ⊢
      rw [if_neg e] at hx ⊢
      exact ih hx
theorem mem_upd {T : List Pr} {x' y : Pr} (h : y ∈ updP T x') : y = x' ∨ (y ∈ T ∧ y.pid ≠ x'.pid) := by
  obtain ⟨z, hz, e⟩ := List.mem_map.1 h
  split at e
  · exact .inl e.symm
  · rename_i hne
    subst e
    exact .inr ⟨hz, hne⟩
section
variable {w w' : World} {p k : Nat} {m : Option Nat} {N : Int} {T : List Pr} {x x' : Pr}
/-- One process has turned. -/
theorem TbAt.upd (h : TbAt w p m k N T) (hx : lookP T x'.pid = some x) (e1 : x'.b = x.b) (e2 : x'.A = x.A) (e3 : x'.cs = x.cs) (hg : w.grownBy w' (some x.b)) (hb : Bk w' x.b 93 x'.cells) : TbAt w' p m k N (updP T x') ∧ Tt w w' p m T := by
  obtain ⟨hm, hp⟩ := lookP_mem hx
  have hpx := h.procs x hm
  have hne : ∀ y ∈ T, y.pid ≠ x'.pid → y.b ≠ x.b := fun y hy hyp e => by
    have : x = y ∨ x.b ≠ y.b := by
      clear hx hg hb hpx hyp
      have ha := h.apart
      clear h
      induction T with
      | nil => cases hm
      | cons z r ih =>
        have h' := List.pairwise_cons.1 ha
        rcases List.mem_cons.1 hm with q1 | q1 <;> rcases List.mem_cons.1 hy with q2 | q2
        · exact .inl (q1.trans q2.symm)
        · subst q1; exact .inr (h'.1 y q2)
        · subst q2; exact .inr (fun q => h'.1 x q1 q.symm)
        · exact ih q1 q2 h'.2
    rcases this with q | q
    · subst q; exact hyp hp
    · exact q e.symm
  have csk : ∀ {A : Option Addr} {zs : List Int}, Cs w A zs → Cs w' A zs := fun {A zs} q => by
    have hblk : ∀ ad, A = some ad → w'.heap[ad.block]? = w.heap[ad.block]? := fun ad e => by
      obtain ⟨cur, hc⟩ := q.cells ad e
      refine hg.block _ (Array.getElem?_eq_some_iff.1 hc).1 (fun q => ?_)
      injection q with q
      have hk := hpx.blk
      unfold Bk at hk
      rw [← q, hc] at hk
      injection hk with hk
      injection hk with _ hk
      cases hk
    refine ⟨?_, fun ad e => ?_⟩
    · rcases q.ints with e | ⟨ad, e, h1, h2⟩
      · exact .inl e
      · refine .inr ⟨ad, e, Nat.lt_of_lt_of_le h1 hg.size, fun j hj => ?_⟩
        rw [← h2 j hj]
        simp only [World.cell?, block_add, hblk ad e]
    · obtain ⟨cur, hc⟩ := q.cells ad e
      exact ⟨cur, (hblk ad e).trans hc⟩
  have npx : p ≠ x.b := fun e => by
    have hk := hpx.blk
    have hk2 := h.blk
    unfold Bk at hk hk2
    rw [← e, hk2] at hk
    injection hk with hk
    injection hk with _ hk
    cases hk
  refine ⟨⟨h.blk.grown hg npx, fun e => by rw [h.none_ e]; rfl, fun b e => ?_, fun y hy => ?_, ?_, ?_, fun y hy => ?_, h.few⟩, Tt.of_proc hg hm⟩
  · obtain ⟨D, h1, h2⟩ := h.own b e
    have nb := not_map hpx.blk h1
    refine ⟨D, h1.kept hg (by simpa using nb.symm), h2.congr fun n => ?_⟩
    by_cases en : n = x'.pid
    · subst en
      rw [lookP_upd_eq hx, hx]
      simp [e1]
    · rw [lookP_upd_ne en]
  · rcases mem_upd hy with rfl | ⟨hy1, hy2⟩
    · exact ⟨by rw [e1]; exact hb, by rw [e2, e3]; exact csk hpx.cs, by rw [e3]; exact hpx.len⟩
    · have q := h.procs y hy1
      exact ⟨q.blk.grown hg (hne y hy1 hy2), csk q.cs, q.len⟩
  · refine List.pairwise_map.2 (h.up.imp ?_)
    intro a b hab
    split <;> split <;> omega
  · have hup := h.up
    have hap := h.apart
    have : ∀ a ∈ T, (if a.pid = x'.pid then x' else a).b = a.b := fun a ha => by
      split
      · rename_i e
        have : a = x := by
          have := lookP_of_mem h.up ha
          rw [e, hx] at this
          injection this with this
          exact this.symm
        rw [this, e1]
      · rfl
    refine List.pairwise_map.2 ?_
    refine List.Pairwise.imp_of_mem ?_ hap
    intro a b ha hb' hab
    rw [this a ha, this b hb']
    exact hab
  · rcases mem_upd hy with rfl | ⟨hy1, _⟩
    · have := h.pids x hm
      rw [hp] at this
      exact this
    · exact h.pids y hy1
end
end Go.Proofs.Ytjolkcomlindhaa
/- A table: Release, Exit, Signal, Signalled, walked. -/
namespace Go.Proofs.Ytjolkcomlindhaa
open Go.RowKit Go.Shelf Go.Maps Go.Sort

def relE (T : List Pr) (n : Int) : Int := match lookP T n with | none => 1 | some x => if x.st = 0 then 0 else 14
def relT (T : List Pr) (n : Int) : List Pr := match lookP T n with | none => T | some x => if x.st = 0 then updP T { x with st := 1 } else T
theorem gset (w : World) (b i : Nat) (v : Value) : w.grownBy (w.setCell ⟨b, i, none⟩ v) (some b) := by
  have hb := (Below.refl 0 w).setCell (p := ⟨b, i, none⟩) (Nat.zero_le _) v
  exact ⟨hb.os, hb.tape, hb.output, hb.size, fun q _ hne => heap_setCell_other w ⟨b, i, none⟩ q v (fun e => hne (by rw [e]))⟩
theorem gtrans {w w1 w2 : World} {b : Nat} (h : w.grownBy w1 (some b)) (k : w1.grownBy w2 (some b)) : w.grownBy w2 (some b) :=
  ⟨k.os.trans h.os, k.tape.trans h.tape, k.output.trans h.output, Nat.le_trans h.size k.size, fun i hi hne => (k.block i (Nat.lt_of_lt_of_le hi h.size) hne).trans (h.block i hi hne)⟩
section
variable {w : World} {p k : Nat} {m : Option Nat} {N : Int} {T : List Pr}
/-- What lies in a process. -/
theorem Bk.c9 {w : World} {b : Nat} {x : Pr} (h : Bk w b 93 x.cells) : (w.cell? ⟨b, 6, none⟩ = some (.int .i64 x.st) ∧ w.cell? ⟨b, 7, none⟩ = some (.int .i64 x.code) ∧ w.cell? ⟨b, 8, none⟩ = some (.int .i64 x.sig)) ∧ (w.frozen? ⟨b, 6, none⟩ = false ∧ w.frozen? ⟨b, 7, none⟩ = false ∧ w.frozen? ⟨b, 8, none⟩ = false) :=
  ⟨⟨h.cell 6 _ rfl, h.cell 7 _ rfl, h.cell 8 _ rfl⟩, h.frozen 6, h.frozen 7, h.frozen 8⟩
theorem find_none (h : TbAt w p m k N T) {n : Int} (hn : wf n) (hf : lookP T n = none) : Calls Try.prog 58 #[.pointer (some ⟨p, 0, none⟩), .int .i64 n] w fun e w' => e = .returned (.pointer none) ∧ w = w' := by
  have := find_any h hn
  rw [hf] at this
  exact this
theorem find_some (h : TbAt w p m k N T) {n : Int} {x : Pr} (hn : wf n) (hf : lookP T n = some x) : Calls Try.prog 58 #[.pointer (some ⟨p, 0, none⟩), .int .i64 n] w fun e w' => e = .returned (.pointer (some ⟨x.b, 0, none⟩)) ∧ w = w' := by
  have := find_any h hn
  rw [hf] at this
  exact this
set_option maxRecDepth 100000 in
set_option maxHeartbeats 1000000 in
theorem release_any (h : TbAt w p m k N T) {n : Int} (hn : wf n) : Calls Try.prog 40 #[.pointer (some ⟨p, 0, none⟩), .int .i64 n] w fun e w' => e = .returned (.int .i64 (relE T n)) ∧ TbAt w' p m k N (relT T n) ∧ Tt w w' p m T := by
  have H := Lib.hid h
  cases hf : lookP T n with
  | none =>
    have K := Lib.hid (find_none h hn hf)
    have e0 := Lib.hid (show relE T n = 1 ∧ relT T n = T from by simp [relE, relT, hf])
    clear hf h hn
    go_enter Try.func40, Try.ntmps40
    go_wp2_with fail
    refine K.out.mono ?_
    rintro y w1 ⟨rfl, rfl⟩
    go_wp2_with fail
    go_ret
    exact ⟨by rw [e0.out.1]; rfl, by rw [e0.out.2]; exact H.out, Tt.of_below (Below.refl _ _)⟩
  | some x =>
    have K := Lib.hid (find_some h hn hf)
    obtain ⟨hm, hp⟩ := lookP_mem hf
    have hb := (h.procs x hm).blk
    obtain ⟨⟨c6, c7, c8⟩, f6, f7, f8⟩ := hb.c9
    by_cases hs : x.st = 0
    · have e0 := Lib.hid (show relE T n = 0 ∧ relT T n = updP T { x with st := 1 } from by simp [relE, relT, hf, hs])
      have t0 : (x.st != 0) = false := by simp [hs]
      have U := Lib.hid (h.upd (x' := { x with st := 1 }) (x := x) (by show lookP T x.pid = _; rw [hp]; exact hf) rfl rfl rfl (gset w x.b 6 (.int .i64 1)) (hb.set 6 (.int .i64 1)))
      clear hf h hm hp hb hs hn
      go_enter Try.func40, Try.ntmps40
      go_wp2_with fail
      refine K.out.mono ?_
      rintro y w1 ⟨rfl, rfl⟩
      go_wp2_with fail
      go_ret
      exact ⟨by rw [e0.out.1]; rfl, by rw [e0.out.2]; exact U.out.1, U.out.2⟩
    · have e0 := Lib.hid (show relE T n = 14 ∧ relT T n = T from by simp [relE, relT, hf, hs])
      have t0 : (x.st != 0) = true := by simpa using hs
      clear hf h hm hp hb hs hn
      go_enter Try.func40, Try.ntmps40
      go_wp2_with fail
      refine K.out.mono ?_
      rintro y w1 ⟨rfl, rfl⟩
      go_wp2_with fail
      go_ret
      exact ⟨by rw [e0.out.1]; rfl, by rw [e0.out.2]; exact H.out, Tt.of_below (Below.refl _ _)⟩
set_option maxRecDepth 100000 in
set_option maxHeartbeats 1000000 in
theorem exit_any (b : Nat) (x : Pr) (code : Int) (V : World) (hb : Bk V b 93 x.cells) : Calls Try.prog 59 #[.pointer (some ⟨b, 0, none⟩), .int .i64 code] V fun e w' => (∃ v, e = .returned v) ∧ w' = (V.setCell ⟨b, 6, none⟩ (.int .i64 2)).setCell ⟨b, 7, none⟩ (.int .i64 code) := by
  obtain ⟨⟨c6, c7, c8⟩, f6, f7, f8⟩ := hb.c9
  have h2 : Bk (V.setCell ⟨b, 6, none⟩ (.int .i64 2)) b 93 ({ x with st := 2 } : Pr).cells := hb.set 6 _
  obtain ⟨⟨d6, d7, d8⟩, g6, g7, g8⟩ := h2.c9
  clear hb h2
  go_enter Try.func59, Try.ntmps59
  go_wp2_with fail
  go_end0
  exact ⟨⟨_, rfl⟩, rfl⟩
def exE (T : List Pr) (n c : Int) : Int := match lookP T n with | none => 1 | some x => if c < 0 ∨ 255 < c then 1 else if x.st = 1 then 0 else 14
def exT (T : List Pr) (n c : Int) : List Pr := match lookP T n with | none => T | some x => if c < 0 ∨ 255 < c then T else if x.st = 1 then updP T { x with st := 2, code := c } else T
set_option maxRecDepth 100000 in
set_option maxHeartbeats 1000000 in
theorem exitT_any (h : TbAt w p m k N T) {n : Int} (c : Int) (hn : wf n) : Calls Try.prog 42 #[.pointer (some ⟨p, 0, none⟩), .int .i64 n, .int .i64 c] w fun e w' => e = .returned (.int .i64 (exE T n c)) ∧ TbAt w' p m k N (exT T n c) ∧ Tt w w' p m T := by
  have H := Lib.hid h
  cases hf : lookP T n with
  | none =>
    have K := Lib.hid (find_none h hn hf)
    have e0 := Lib.hid (show exE T n c = 1 ∧ exT T n c = T from by simp [exE, exT, hf])
    clear hf h hn
    go_enter Try.func42, Try.ntmps42
    go_wp2_with fail
    refine K.out.mono ?_
    rintro y w1 ⟨rfl, rfl⟩
    go_wp2_with fail
    go_ret
    exact ⟨by rw [e0.out.1]; rfl, by rw [e0.out.2]; exact H.out, Tt.of_below (Below.refl _ _)⟩
  | some x =>
    have K := Lib.hid (find_some h hn hf)
    obtain ⟨hm, hp⟩ := lookP_mem hf
    have hb := (h.procs x hm).blk
    obtain ⟨⟨c6, c7, c8⟩, f6, f7, f8⟩ := hb.c9
    by_cases hc : c < 0
    · have e0 := Lib.hid (show exE T n c = 1 ∧ exT T n c = T from by simp [exE, exT, hf, hc])
      clear hf h hm hp hb hn
      go_enter Try.func42, Try.ntmps42
      go_wp2_with fail
      refine K.out.mono ?_
      rintro y w1 ⟨rfl, rfl⟩
      go_wp2_with fail
      go_ret
      exact ⟨by rw [e0.out.1]; rfl, by rw [e0.out.2]; exact H.out, Tt.of_below (Below.refl _ _)⟩
    by_cases hc2 : 255 < c
    · have e0 := Lib.hid (show exE T n c = 1 ∧ exT T n c = T from by simp [exE, exT, hf, hc2])
      clear hf h hm hp hb hn
      go_enter Try.func42, Try.ntmps42
      go_wp2_with fail
      refine K.out.mono ?_
      rintro y w1 ⟨rfl, rfl⟩
      go_wp2_with fail
      go_ret
      exact ⟨by rw [e0.out.1]; rfl, by rw [e0.out.2]; exact H.out, Tt.of_below (Below.refl _ _)⟩
    by_cases hs : x.st = 1
    · have e0 := Lib.hid (show exE T n c = 0 ∧ exT T n c = updP T { x with st := 2, code := c } from by simp [exE, exT, hf, hs, hc, hc2])
      have t0 : (x.st != 1) = false := by simp [hs]
      have KE := Lib.hid (exit_any x.b x c w hb)
      have U := Lib.hid (h.upd (x' := { x with st := 2, code := c }) (x := x) (by show lookP T x.pid = _; rw [hp]; exact hf) rfl rfl rfl (gtrans (gset w x.b 6 (.int .i64 2)) (gset _ x.b 7 (.int .i64 c))) ((hb.set 6 (.int .i64 2)).set 7 (.int .i64 c)))
      clear hf h hm hp hb hs hn
      go_enter Try.func42, Try.ntmps42
      go_wp2_with fail
      refine K.out.mono ?_
      rintro y w1 ⟨rfl, rfl⟩
      go_wp2_with fail
      refine KE.out.mono ?_
      rintro y w2 ⟨⟨v, rfl⟩, rfl⟩
      go_wp2_with fail
      go_ret
      exact ⟨by rw [e0.out.1]; rfl, by rw [e0.out.2]; exact U.out.1, U.out.2⟩
    · have e0 := Lib.hid (show exE T n c = 14 ∧ exT T n c = T from by simp [exE, exT, hf, hs, hc, hc2])
      have t0 : (x.st != 1) = true := by simpa using hs
      clear hf h hm hp hb hs hn
      go_enter Try.func42, Try.ntmps42
      go_wp2_with fail
      refine K.out.mono ?_
      rintro y w1 ⟨rfl, rfl⟩
      go_wp2_with fail
      go_ret
      exact ⟨by rw [e0.out.1]; rfl, by rw [e0.out.2]; exact H.out, Tt.of_below (Below.refl _ _)⟩
end
end Go.Proofs.Ytjolkcomlindhaa
