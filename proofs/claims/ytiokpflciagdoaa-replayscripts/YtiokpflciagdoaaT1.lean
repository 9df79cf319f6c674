/- The document's cache in memory; alike, kept, Used. -/
import Derived.Test.YtiokpflciagdoaaB0
import Derived.Laws.AppendOwn
import Derived.Laws.OwnMore
import Derived.Deep.Onto
import Derived.RangeFuncBox
import Derived.Lib.SmallJoins
namespace Go.Proofs.Ytiokpflciagdoaa
open Go.RowKit Go.Maps

/-- Credentials, one behind the other. -/
def crRow (CL : List Cr) : List Value := CL.flatMap Cr.cs
def tRow (T : List (Jb × Int)) : List Value := T.flatMap fun p => [.int .i64 p.1.n, .int .i64 p.2]
theorem flat_at {α : Type} (f : α → List Value) (m : Nat) (hf : ∀ a, (f a).length = m) : ∀ (l : List α) (k : Nat) (a : α) (i : Nat), l[k]? = some a → i < m → (l.flatMap f)[k * m + i]? = (f a)[i]?
  | [], k, a, i, h, _ => by simp at h
  | b :: r, 0, a, i, h, hi => by
    simp at h
    subst h
    rw [List.flatMap_cons, Nat.zero_mul, Nat.zero_add, List.getElem?_append_left (by rw [hf]; exact hi)]
  | b :: r, k + 1, a, i, h, hi => by
    have h' : r[k]? = some a := by simpa using h
    rw [List.flatMap_cons, List.getElem?_append_right (by rw [hf, Nat.add_mul]; omega), hf]
    rw [show (k + 1) * m + i - m = k * m + i by rw [Nat.add_mul]; omega]
    exact flat_at f m hf r k a i h' hi
theorem flat_len {α : Type} (f : α → List Value) (m : Nat) (hf : ∀ a, (f a).length = m) : ∀ l : List α, (l.flatMap f).length = l.length * m
  | [] => by simp
  | b :: r => by rw [List.flatMap_cons, List.length_append, hf, flat_len f m hf r, List.length_cons, Nat.add_mul]; omega

/-- The document's cache: its most, its two slices, what it keeps, and what is taken back. -/
structure RefAt (V : World) (q : Nat) (most : Int) (sl sb : Value) (CL : List Cr) (T : List (Jb × Int)) : Prop where
  blk : Bk V q 39 #[.int .i64 most, sl, sb]
  rl : V.ownsRow (q + 1) 31 7 sl CL.length (crRow CL)
  rb : V.ownsRow (q + 1) 63 2 sb T.length (tRow T)
  ap : ∀ g, sl.ownBlock = some g → sb.ownBlock ≠ some g
theorem own_next {w w' : World} {base size n : Nat} {e : TypeId} {v : Value} {xs : List Value} (h : w.ownsRow base e size v n xs) (hb : Below w.heap.size w w') : w'.ownsRow base e size v n xs :=
  h.kept (only_of_below hb) (by cases hv : v.ownBlock with | none => exact .inl rfl | some g => exact .inr (by simp))
theorem own_form {w : World} {base size n : Nat} {e : TypeId} {v : Value} {xs : List Value} (h : w.ownsRow base e size v n xs) : ∃ A cap, v = .slice A n cap := by
  rcases Joins.ownsRow_forms h with ⟨rfl, rfl⟩ | ⟨g, cap, rfl⟩
  · exact ⟨none, 0, rfl⟩
  · exact ⟨_, cap, rfl⟩
section
variable {V V' : World} {q : Nat} {most : Int} {sl sb : Value} {CL : List Cr} {T : List (Jb × Int)}
theorem RefAt.next (h : RefAt V q most sl sb CL T) (hb : Below V.heap.size V V') : RefAt V' q most sl sb CL T := ⟨h.blk.next hb, own_next h.rl hb, own_next h.rb hb, h.ap⟩
theorem RefAt.hid (h : RefAt V q most sl sb CL T) (e : Hid (V' = V.drew)) : RefAt V' q most sl sb CL T := by rw [e.out]; exact ⟨h.blk, h.rl, h.rb, h.ap⟩
theorem RefAt.grown {b : Nat} (h : RefAt V q most sl sb CL T) (hg : V.grownBy V' (some b)) (hb : b < q) : RefAt V' q most sl sb CL T := by
  refine ⟨h.blk.grown hg (by omega), h.rl.kept hg ?_, h.rb.kept hg ?_, h.ap⟩
  · cases hv : sl.ownBlock with
    | none => exact .inl rfl
    | some g => have := (h.rl.lt g hv).1; exact .inr (by simp; omega)
  · cases hv : sb.ownBlock with
    | none => exact .inl rfl
    | some g => have := (h.rb.lt g hv).1; exact .inr (by simp; omega)
/-- The k-th credential that is kept. -/
theorem RefAt.at_ (h : RefAt V q most sl sb CL T) {k : Nat} {c : Cr} (hk : CL[k]? = some c) : ∃ g cap, sl = .slice (some ⟨g, 0, none⟩) CL.length cap ∧ g < V.heap.size ∧
    V.cell? ⟨g, k * 7, none⟩ = some (.int .i64 c.j) ∧ V.cell? ⟨g, k * 7 + 1, none⟩ = some (.int .i64 c.e) ∧ V.cell? ⟨g, k * 7 + 2, none⟩ = some (.int .i64 c.s) ∧ V.cell? ⟨g, k * 7 + 3, none⟩ = some (.int .i64 c.f) ∧ V.cell? ⟨g, k * 7 + 4, none⟩ = some (.int .i64 c.u) ∧ V.cell? ⟨g, k * 7 + 5, none⟩ = some (.slice c.A c.n c.cap) ∧ V.cell? ⟨g, k * 7 + 6, none⟩ = some (.int .i64 c.c) := by
  have hlt := (List.getElem?_eq_some_iff.1 hk).1
  rcases Joins.ownsRow_forms h.rl with ⟨_, h0⟩ | ⟨g, cap, rfl⟩
  · omega
  · have hc : ∀ i, i < 7 → V.cell? ⟨g, k * 7 + i, none⟩ = c.cs[i]? := by
      intro i hi
      rw [h.rl.cellAt (k * 7 + i) (by omega)]
      exact flat_at Cr.cs 7 (fun _ => rfl) CL k c i hk hi
    exact ⟨g, cap, rfl, (h.rl.lt g rfl).2, hc 0 (by omega), hc 1 (by omega), hc 2 (by omega), hc 3 (by omega), hc 4 (by omega), hc 5 (by omega), hc 6 (by omega)⟩
theorem RefAt.atT (h : RefAt V q most sl sb CL T) {k : Nat} {p : Jb × Int} (hk : T[k]? = some p) : ∃ g cap, sb = .slice (some ⟨g, 0, none⟩) T.length cap ∧ g < V.heap.size ∧
    V.cell? ⟨g, k * 2, none⟩ = some (.int .i64 p.1.n) ∧ V.cell? ⟨g, k * 2 + 1, none⟩ = some (.int .i64 p.2) := by
  have hlt := (List.getElem?_eq_some_iff.1 hk).1
  rcases Joins.ownsRow_forms h.rb with ⟨_, h0⟩ | ⟨g, cap, rfl⟩
  · omega
  · have hc : ∀ i, i < 2 → V.cell? ⟨g, k * 2 + i, none⟩ = ([.int .i64 p.1.n, .int .i64 p.2] : List Value)[i]? := by
      intro i hi
      rw [h.rb.cellAt (k * 2 + i) (by omega)]
      exact flat_at (fun p : Jb × Int => [.int .i64 p.1.n, .int .i64 p.2]) 2 (fun _ => rfl) T k p i hk hi
    exact ⟨g, cap, rfl, (h.rb.lt g rfl).2, hc 0 (by omega), hc 1 (by omega)⟩
end
/-- Have two the same place? -/
def alikeB (a b : Cr) : Bool := (a.j == b.j) && (a.e == b.e) && (a.s == b.s)
set_option maxRecDepth 100000 in
set_option maxHeartbeats 1000000 in
theorem alike_any (a b : Cr) (w : World) :
    Calls Try.prog 29 #[.agg #[.int .i64 a.j, .int .i64 a.e, .int .i64 a.s, .int .i64 a.f, .int .i64 a.u, .slice a.A a.n a.cap, .int .i64 a.c], .agg #[.int .i64 b.j, .int .i64 b.e, .int .i64 b.s, .int .i64 b.f, .int .i64 b.u, .slice b.A b.n b.cap, .int .i64 b.c]] w fun x w' => x = .returned (.bool (alikeB a b)) ∧ Below w.heap.size w w' := by
  have hb := (below_alloc w (.cells #[.int .i64 a.j, .int .i64 a.e, .int .i64 a.s, .int .i64 a.f, .int .i64 a.u, .slice a.A a.n a.cap, .int .i64 a.c] 31)).alloc (by simp) (.cells #[.int .i64 b.j, .int .i64 b.e, .int .i64 b.s, .int .i64 b.f, .int .i64 b.u, .slice b.A b.n b.cap, .int .i64 b.c] 31)
  unfold alikeB
  cases t1 : (a.j == b.j)
  · go_enter Try.func29, Try.ntmps29
    go_wp2_with fail
    go_ret
    exact ⟨rfl, hb⟩
  · cases t2 : (a.e == b.e)
    · go_enter Try.func29, Try.ntmps29
      go_wp2_with fail
      go_ret
      exact ⟨rfl, hb⟩
    · cases t3 : (a.s == b.s)
      · go_enter Try.func29, Try.ntmps29
        go_wp2_with fail
        go_ret
        exact ⟨rfl, hb⟩
      · go_enter Try.func29, Try.ntmps29
        go_wp2_with fail
        go_ret
        exact ⟨rfl, hb⟩
/-- Is one's place kept, above a time? -/
def keptB (CL : List Cr) (x : Cr) (above : Int) : Bool := CL.any fun c => alikeB c x && decide (above < c.u)
structure Kt (w V : World) (cs : Array Value) (q : Nat) (most : Int) (sl sb : Value) (CL : List Cr) (T : List (Jb × Int)) : Prop where
  box : Bk V w.heap.size 31 cs
  ref : RefAt V q most sl sb CL T
  low : Below w.heap.size w V
theorem Kt.next {w V V' : World} {cs : Array Value} {q : Nat} {most : Int} {sl sb : Value} {CL : List Cr} {T : List (Jb × Int)} (h : Kt w V cs q most sl sb CL T) (hb : Below V.heap.size V V') : Kt w V' cs q most sl sb CL T := ⟨h.box.next hb, h.ref.next hb, h.low.trans (hb.mono h.low.size)⟩
theorem Kt.drew {w V : World} {cs : Array Value} {q : Nat} {most : Int} {sl sb : Value} {CL : List Cr} {T : List (Jb × Int)} (h : Kt w V cs q most sl sb CL T) : Kt w V.drew cs q most sl sb CL T := ⟨h.box, h.ref.hid (V' := V.drew) rfl, h.low.drew⟩
end Go.Proofs.Ytiokpflciagdoaa
