/- The law on Pids: what is kept. -/
import Derived.Test.YtjolkcomlindhaaQ6
import Derived.Test.YtjolkcomlindhaaQ3
namespace Go.Proofs.Ytjolkcomlindhaa
open Go.RowKit Go.Shelf Go.Maps Go.Sort

/-- What a process keeps. -/
def kin (a x : Pr) : Prop := a.j = x.j ∧ a.e = x.e ∧ a.s = x.s ∧ a.r = x.r ∧ a.cs = x.cs
theorem mem_upd_kin {T : List Pr} {z x' y : Pr} (hz : z ∈ T) (hp : z.pid = x'.pid) (hk : kin z x') (hy : y ∈ updP T x') : ∃ x ∈ T, x.pid = y.pid ∧ kin x y := by
  rcases mem_upd hy with rfl | ⟨h1, _⟩
  · exact ⟨z, hz, hp, hk⟩
  · exact ⟨y, h1, rfl, rfl, rfl, rfl, rfl, rfl⟩
theorem Dd.kin {N N' : Int} {T T' : List Pr} {o : Oq} (h : Dd N T o N' T') (hd : o.d ≠ 0) : N' = N ∧ ∀ y ∈ T', ∃ x ∈ T, x.pid = y.pid ∧ kin x y := by
  have self : ∀ y ∈ T, ∃ x ∈ T, x.pid = y.pid ∧ Go.Proofs.Ytjolkcomlindhaa.kin x y := fun y hy => ⟨y, hy, rfl, rfl, rfl, rfl, rfl, rfl⟩
  cases h with
  | same => exact ⟨rfl, self⟩
  | new A cap b e => exact absurd e hd
  | rel _ =>
    refine ⟨rfl, fun y hy => ?_⟩
    rcases relT_cases T o.pid with q | ⟨z, hz, _, q⟩ <;> rw [q] at hy
    · exact self y hy
    · exact mem_upd_kin (x' := { z with st := 1 }) (lookP_mem hz).1 rfl ⟨rfl, rfl, rfl, rfl, rfl⟩ hy
  | sig _ =>
    refine ⟨rfl, fun y hy => ?_⟩
    rcases sgT_cases T o.pid o.n with q | ⟨z, hz, _, _, q⟩ <;> rw [q] at hy
    · exact self y hy
    · exact mem_upd_kin (x' := sgP z o.n) (lookP_mem hz).1 rfl ⟨rfl, rfl, rfl, rfl, rfl⟩ hy
  | exi _ =>
    refine ⟨rfl, fun y hy => ?_⟩
    rcases exT_cases T o.pid o.n with q | ⟨z, hz, _, q⟩ <;> rw [q] at hy
    · exact self y hy
    · exact mem_upd_kin (x' := { z with st := 2, code := o.n }) (lookP_mem hz).1 rfl ⟨rfl, rfl, rfl, rfl, rfl⟩ hy
  | rp _ =>
    refine ⟨rfl, fun y hy => ?_⟩
    rcases rpT_cases T o.pid with q | ⟨z, _, _, q⟩ <;> rw [q] at hy
    · exact self y hy
    · exact self y (List.mem_filter.1 hy).1
/-- All that was spawned, as it was asked for. -/
structure PI (w wr : World) (N : Int) (T : List Pr) (v : Value) (aT : List Pr) : Prop where
  row : wr.ownsRow w.heap.size 61 8 v aT.length (kRow aT)
  len : (aT.length : Int) = N
  ok : ∀ a ∈ aT, IntsAt w a.A a.cs ∧ a.cs.length ≤ 300
  at_ : ∀ x ∈ T, ∃ a, aT[(x.pid - 1).toNat]? = some a ∧ kin a x
theorem row_tt {V V' : World} {p k B n : Nat} {m : Option Nat} {N : Int} {T : List Pr} {v : Value} {xs : List Value} (h : V.ownsRow B 61 8 v n xs) (ht : TbAt V p m k N T) (t : Tt V V' p m T) : V'.ownsRow B 61 8 v n xs := by
  refine ⟨h.1, ?_⟩
  rcases h.2 with h0 | ⟨g, cap, cur, h1, h2, h3, h4⟩
  · exact .inl h0
  · have hk : Bk V g 61 cur := h3
    exact .inr ⟨g, cap, cur, h1, h2, hk.tt ht t (by decide) (by decide), h4⟩
theorem PI.next {w wr W : World} {N : Int} {T aT : List Pr} {v : Value} (h : PI w wr N T v aT) (hb : Below wr.heap.size wr W) : PI w W N T v aT := ⟨own_next h.row hb, h.len, h.ok, h.at_⟩
theorem PI.dd {w wr W : World} {p k : Nat} {m : Option Nat} {N N' : Int} {T T' aT : List Pr} {v : Value} {o : Oq} (h : PI w wr N T v aT) (ht : TbAt wr p m k N T) (t : Tt wr W p m T) (hD : Dd N T o N' T') (hd : o.d ≠ 0) : PI w W N' T' v aT := by
  obtain ⟨rfl, hk⟩ := hD.kin hd
  refine ⟨row_tt h.row ht t, h.len, h.ok, fun y hy => ?_⟩
  obtain ⟨x, hx, e1, e2⟩ := hk y hy
  obtain ⟨a, h1, h2⟩ := h.at_ x hx
  exact ⟨a, by rw [← e1]; exact h1, h2.1.trans e2.1, h2.2.1.trans e2.2.1, h2.2.2.1.trans e2.2.2.1, h2.2.2.2.1.trans e2.2.2.2.1, h2.2.2.2.2.trans e2.2.2.2.2⟩
theorem PI.new {w wr : World} {N : Int} {T aT : List Pr} {v : Value} {a x : Pr} (hl : (aT.length : Int) = N) (hok : ∀ a ∈ aT, IntsAt w a.A a.cs ∧ a.cs.length ≤ 300) (hat : ∀ x ∈ T, 1 ≤ x.pid ∧ ∃ a, aT[(x.pid - 1).toNat]? = some a ∧ kin a x) (hrow : wr.ownsRow w.heap.size 61 8 v (aT.length + 1) (kRow aT ++ a.c8)) (ha : IntsAt w a.A a.cs ∧ a.cs.length ≤ 300) (hx : x.pid = N + 1) (hk : kin a x) : PI w wr (N + 1) (T ++ [x]) v (aT ++ [a]) := by
  refine ⟨?_, by simp; omega, fun b hb => ?_, fun y hy => ?_⟩
  · rw [kRow_snoc, List.length_append]; exact hrow
  · rcases List.mem_append.1 hb with q | q
    · exact hok b q
    · rw [List.mem_singleton.1 q]; exact ha
  · rcases List.mem_append.1 hy with q | q
    · obtain ⟨_, b, h1, h2⟩ := hat y q
      exact ⟨b, by rw [List.getElem?_append_left (List.getElem?_eq_some_iff.1 h1).1]; exact h1, h2⟩
    · rw [List.mem_singleton.1 q, hx]
      refine ⟨a, ?_, hk⟩
      have e : (N + 1 - 1).toNat = aT.length := by omega
      rw [e, List.getElem?_append_right (Nat.le_refl _), Nat.sub_self]
      rfl
/-- Spawn, as its caller sees it. -/
theorem spawn_two {w V2 : World} {p k : Nat} {m : Option Nat} {N : Int} {T : List Pr} {o : Oq} (h : Lt w V2 p m k N T) (ho : OqOk w o) (hl : o.len ≤ 300) (hk : k < 900) (hN : N < 200) (hT : T.length < 256) :
    Calls Try.prog 37 #[.pointer (some ⟨p, 0, none⟩), tkV o.p0 o.j o.e o.s o.r (.slice o.A o.len o.cap) o.st o.c] V2 fun x V' => (x = .returned (.tuple #[.int .i64 0, .int .i64 1]) ∧ Below V2.heap.size V2 V') ∨ (x = .returned (.tuple #[.int .i64 (N + 1), .int .i64 0]) ∧ ∃ m' A' cap' b', Lt w V' p m' (k + 1) (N + 1) (T ++ [⟨N + 1, o.j, o.e, o.s, o.r, 0, 0, 0, A', cap', o.zs, b'⟩]) ∧ Tt V2 V' p m T) := by
  have hz := ho.ints.next h.low
  by_cases hn : o.len = 0
  · refine (spawn_no h.tab o.p0 o.j o.e o.s o.r o.st o.c (cE o.zs) o.A o.len o.cap (of_says hz ho.len (by omega)) (by omega) (by unfold mayT; rw [hn]; simp)).mono ?_
    rintro x V' ⟨rfl, hb⟩
    exact .inl ⟨rfl, hb⟩
  · refine (spawn_any h.tab (by omega) hN hT o.p0 o.j o.e o.s o.r o.st o.c o.A o.len o.cap o.zs hz ho.len (fun ad e => by have := ho.blk (by omega) e; have := h.hp; omega) (by omega)).mono ?_
    rintro x V' (⟨_, rfl, hb⟩ | ⟨_, A', cap', b', m', rfl, r1, r2, r3, r4⟩)
    · exact .inl ⟨rfl, hb⟩
    · refine .inr ⟨rfl, m', A', cap', b', h.turn r1 r2 (fun b e => ?_) (fun x hx => ?_), r2⟩
      · rcases r3 with rfl | ⟨_, b2, e2, e3⟩
        · exact h.hm b e
        · rw [e] at e2
          cases e2
          exact Nat.le_trans h.low.size e3
      · rcases List.mem_append.1 hx with q | q
        · exact h.hb x q
        · rw [List.mem_singleton.1 q]
          exact Nat.le_trans h.low.size r4
/-- A table, while a row of tasks is appended to. -/
theorem Lt.app {w V W : World} {p k n : Nat} {m : Option Nat} {N : Int} {T : List Pr} {v : Value} {xs : List Value} {tmp : Obj} (h : Lt w V p m k N T) (hrow : V.ownsRow w.heap.size 61 8 v n xs) (hg : (V.alloc tmp).grownBy W v.ownBlock) : Lt w W p m k N T := by
  have h1 := h.next (below_alloc V tmp)
  rcases hrow.2 with ⟨rfl, _⟩ | ⟨g, cap, cur, rfl, h2, h3, _⟩
  · have hg' : (V.alloc tmp).grownBy W none := hg
    exact h1.next ⟨hg'.os, hg'.tape, hg'.output, hg'.size, fun i hi => hg'.block i hi (by simp)⟩
  · have hk : Bk (V.alloc tmp) g 61 cur := Bk.next (show Bk V g 61 cur from h3) (below_alloc V tmp)
    have hg' : (V.alloc tmp).grownBy W (some g) := hg
    exact ⟨h1.tab.far hg' hk (by decide), h1.low.grown hg' h1.low.size (fun j e => by cases e; exact h2), h1.hp, h1.hm, h1.hb⟩
end Go.Proofs.Ytjolkcomlindhaa
