/- A call on both: the program's table, and the document's of none. -/
import Derived.Test.YtjolkcomlindhaaP2
import Derived.Test.YtjolkcomlindhaaP3
import Derived.Test.YtjolkcomlindhaaP5
import Derived.Test.YtjolkcomlindhaaP6
import Derived.Test.YtjolkcomlindhaaGG12xMR4xG13
import Derived.Deep.RegionHeld3
namespace Go.Proofs.Ytjolkcomlindhaa
open Go.RowKit Go.Shelf Go.Maps Go.Sort

theorem tt_low {V V1 V' : World} {p : Nat} {m : Option Nat} {T : List Pr} (hb : Below V.heap.size V V1) (ht : Tt V1 V' p m T) : Tt V V' p m T :=
  ⟨ht.os.trans hb.os, ht.tape.trans hb.tape, ht.output.trans hb.output, Nat.le_trans hb.size ht.size, fun i hi h1 h2 h3 => (ht.block i (Nat.lt_of_lt_of_le hi hb.size) h1 h2 h3).trans (hb.block i hi)⟩
theorem tt_far {V V1 V' : World} {p q : Nat} {m : Option Nat} {T : List Pr} (ht : Tt V V1 p m T) (hg : V1.grownBy V' (some q)) (hq : V.heap.size ≤ q) : Tt V V' p m T :=
  ⟨hg.os.trans ht.os, hg.tape.trans ht.tape, hg.output.trans ht.output, Nat.le_trans ht.size hg.size, fun i hi h1 h2 h3 => (hg.block i (Nat.lt_of_lt_of_le hi ht.size) (by intro e; cases e; omega)).trans (ht.block i hi h1 h2 h3)⟩
theorem tt_next {V V1 V' : World} {p : Nat} {m : Option Nat} {T : List Pr} (ht : Tt V V1 p m T) (hb : Below V1.heap.size V1 V') : Tt V V' p m T :=
  ⟨hb.os.trans ht.os, hb.tape.trans ht.tape, hb.output.trans ht.output, Nat.le_trans ht.size hb.size, fun i hi h1 h2 h3 => (hb.block i (Nat.lt_of_lt_of_le hi ht.size)).trans (ht.block i hi h1 h2 h3)⟩
/-- What a call may make of a table. -/
inductive Dd (N : Int) (T : List Pr) (o : Oq) : Int → List Pr → Prop
  | same : Dd N T o N T
  | new (A : Option Addr) (cap b : Nat) : o.d = 0 → Dd N T o (N + 1) (T ++ [⟨N + 1, o.j, o.e, o.s, o.r, 0, 0, 0, A, cap, o.zs, b⟩])
  | rel : o.d = 1 → Dd N T o N (relT T o.pid)
  | sig : o.d = 2 → Dd N T o N (sgT T o.pid o.n)
  | exi : o.d = 3 → Dd N T o N (exT T o.pid o.n)
  | rp : o.d = 4 → Dd N T o N (rpT T o.pid)
section
variable {w V V2 W : World} {p k q bx : Nat} {m : Option Nat} {N : Int} {T : List Pr} {dq cb : Array Value}
theorem hb_rel (h : ∀ x ∈ T, w.heap.size ≤ x.b) (n : Int) : ∀ x ∈ relT T n, w.heap.size ≤ x.b := by
  rcases relT_cases T n with e | ⟨x, hx, _, e⟩ <;> rw [e]
  · exact h
  · exact upd_b (x := x) (x' := { x with st := 1 }) (by show lookP T x.pid = _; rw [(lookP_mem hx).2]; exact hx) rfl h
theorem hb_sig (h : ∀ x ∈ T, w.heap.size ≤ x.b) (n g : Int) : ∀ x ∈ sgT T n g, w.heap.size ≤ x.b := by
  rcases sgT_cases T n g with e | ⟨x, hx, _, _, e⟩ <;> rw [e]
  · exact h
  · exact upd_b (x := x) (x' := sgP x g) (by show lookP T x.pid = _; rw [(lookP_mem hx).2]; exact hx) rfl h
theorem hb_exi (h : ∀ x ∈ T, w.heap.size ≤ x.b) (n c : Int) : ∀ x ∈ exT T n c, w.heap.size ≤ x.b := by
  rcases exT_cases T n c with e | ⟨x, hx, _, e⟩ <;> rw [e]
  · exact h
  · exact upd_b (x := x) (x' := { x with st := 2, code := c }) (by show lookP T x.pid = _; rw [(lookP_mem hx).2]; exact hx) rfl h
theorem hb_rp (h : ∀ x ∈ T, w.heap.size ≤ x.b) (n : Int) : ∀ x ∈ rpT T n, w.heap.size ≤ x.b := by
  rcases rpT_cases T n with e | ⟨x, hx, _, e⟩ <;> rw [e]
  · exact h
  · exact fun y hy => h y (List.mem_filter.1 hy).1
theorem at40 (h : Lt w V2 p m k N T) (kq : Bk V2 q 58 dq) (kb : Bk V2 bx 63 cb) {n : Int} (hn : wf n) (hW : Below V2.heap.size V2 W) :
    Calls Try.prog 40 #[.pointer (some ⟨p, 0, none⟩), .int .i64 n] W fun e V' => (∃ er : Int, e = .returned (.int .i64 er)) ∧ Lt w V' p m k N (relT T n) ∧ Tt V2 V' p m T ∧ Bk V' q 58 dq ∧ Bk V' bx 63 cb := by
  have h1 := h.next hW
  refine (release_any h1.tab hn).mono ?_
  rintro e V' ⟨rfl, r1, r2⟩
  exact ⟨⟨_, rfl⟩, h1.turn r1 r2 h1.hm (hb_rel h1.hb n), tt_low hW r2, (kq.next hW).tt h1.tab r2 (by decide) (by decide), (kb.next hW).tt h1.tab r2 (by decide) (by decide)⟩
theorem at41 (h : Lt w V2 p m k N T) (kq : Bk V2 q 58 dq) (kb : Bk V2 bx 63 cb) {n g : Int} (hn : wf n) (hW : Below V2.heap.size V2 W) :
    Calls Try.prog 41 #[.pointer (some ⟨p, 0, none⟩), .int .i64 n, .int .i64 g] W fun e V' => (∃ er : Int, e = .returned (.int .i64 er)) ∧ Lt w V' p m k N (sgT T n g) ∧ Tt V2 V' p m T ∧ Bk V' q 58 dq ∧ Bk V' bx 63 cb := by
  have h1 := h.next hW
  refine (signal_any h1.tab g hn).mono ?_
  rintro e V' ⟨rfl, r1, r2⟩
  exact ⟨⟨_, rfl⟩, h1.turn r1 r2 h1.hm (hb_sig h1.hb n g), tt_low hW r2, (kq.next hW).tt h1.tab r2 (by decide) (by decide), (kb.next hW).tt h1.tab r2 (by decide) (by decide)⟩
theorem at42 (h : Lt w V2 p m k N T) (kq : Bk V2 q 58 dq) (kb : Bk V2 bx 63 cb) {n c : Int} (hn : wf n) (hW : Below V2.heap.size V2 W) :
    Calls Try.prog 42 #[.pointer (some ⟨p, 0, none⟩), .int .i64 n, .int .i64 c] W fun e V' => (∃ er : Int, e = .returned (.int .i64 er)) ∧ Lt w V' p m k N (exT T n c) ∧ Tt V2 V' p m T ∧ Bk V' q 58 dq ∧ Bk V' bx 63 cb := by
  have h1 := h.next hW
  refine (exitT_any h1.tab c hn).mono ?_
  rintro e V' ⟨rfl, r1, r2⟩
  exact ⟨⟨_, rfl⟩, h1.turn r1 r2 h1.hm (hb_exi h1.hb n c), tt_low hW r2, (kq.next hW).tt h1.tab r2 (by decide) (by decide), (kb.next hW).tt h1.tab r2 (by decide) (by decide)⟩
theorem at39 (h : Lt w V2 p m k N T) (kq : Bk V2 q 58 dq) (kb : Bk V2 bx 63 cb) {n : Int} (hn : wf n) (hW : Below V2.heap.size V2 W) :
    Calls Try.prog 39 #[.pointer (some ⟨p, 0, none⟩), .int .i64 n] W fun e V' => e = .returned (.tuple #[rpV T n, .int .i64 (rpE T n)]) ∧ Lt w V' p m k N (rpT T n) ∧ Tt V2 V' p m T ∧ Bk V' q 58 dq ∧ Bk V' bx 63 cb := by
  have h1 := h.next hW
  refine (reap_any h1.tab hn).mono ?_
  rintro e V' ⟨rfl, r1, r2, _⟩
  exact ⟨rfl, h1.turn r1 r2 h1.hm (hb_rp h1.hb n), tt_low hW r2, (kq.next hW).tt h1.tab r2 (by decide) (by decide), (kb.next hW).tt h1.tab r2 (by decide) (by decide)⟩
end
set_option maxRecDepth 100000 in
theorem one_ne (p j e s r st c : Int) (sl sl' : Value) (hp : p ≠ 0) (w : World) :
    Calls Try.prog 38 #[tkV p j e s r sl st c, tkV 0 0 0 0 0 sl' 0 0] w fun x w' => x = .returned (.bool false) ∧ Below w.heap.size w w' := by
  have low := (below_alloc w (.cells (tkC p j e s r sl st c) 61)).alloc (by simp) (.cells (tkC 0 0 0 0 0 sl' 0 0) 61)
  have k0 := (Bk.new w 61 (tkC p j e s r sl st c)).alloc (.cells (tkC 0 0 0 0 0 sl' 0 0) 61)
  have k1 := Bk.new (w.alloc (.cells (tkC p j e s r sl st c) 61)) 61 (tkC 0 0 0 0 0 sl' 0 0)
  rw [size_alloc] at k1
  have d0 := k0.cell 0 _ rfl
  have e0 := k1.cell 0 _ rfl
  have t0 : (p == 0) = false := by simpa using hp
  clear hp k0 k1
  go_enter Try.func38, Try.ntmps38
  go_wp2_with fail
  go_ret
  exact ⟨rfl, low⟩
end Go.Proofs.Ytjolkcomlindhaa
