/- A slice that grows by append, as a list of numbers. -/
import Derived.Test.YtalknjokamfggaaDoorR1
import Derived.Deep.AppendLies
namespace Go.Proofs.YtalknjokamfggaaDoor
open Go.RowKit

theorem info3 : (Tryd.prog.info? 3).map (fun i => (i.zero, i.size, i.bytes)) = some (some (.int .i64 0), 1, 8) := by kernel_rfl
def is64 (l : List Nat) : List Value := l.map fun n : Nat => Value.int .i64 n
theorem is64_get (l : List Nat) (i : Nat) (h : i < l.length) : (is64 l)[i]? = some (.int .i64 (Sh.nth l i)) := by
  simp [is64, Sh.nth_getElem?, h]
/-- The slice value v owns these numbers; its block is one from B on. -/
def Own (B : Nat) (w : World) (v : Value) (l : List Nat) : Prop := w.ownsRow B 3 1 v l.length (is64 l)

theorem Own.nil (B : Nat) (w : World) : Own B w (.slice none 0 0) [] := World.ownsRow_nil w B 3 1
theorem Own.form {B : Nat} {w : World} {v : Value} {l : List Nat} (h : Own B w v l) (hl : 0 < l.length) :
    ∃ g cap, v = .slice (some ⟨g, 0, none⟩) l.length cap ∧ B ≤ g ∧ g < w.heap.size ∧ l.length ≤ cap ∧ ∀ i, i < l.length → w.cell? ⟨g, i, none⟩ = some (.int .i64 (Sh.nth l i)) := by
  have h0 := h
  unfold Own World.ownsRow at h0
  rcases h0.2 with ⟨_, hn⟩ | ⟨g, cap, cur, hv, hB, hg, hc, _, _, hcur⟩
  · omega
  · subst hv
    refine ⟨g, cap, rfl, hB, ?_, hc, fun i hi => ?_⟩
    · by_cases hlt : g < w.heap.size
      · exact hlt
      · have hn : w.heap[g]? = none := by simp; omega
        rw [hn] at hg; cases hg
    · rw [cell_of_row w g i cur 3 (0, 0) hg]
      have e := is64_get l i hi
      rw [← hcur, Nat.mul_one, List.getElem?_take, if_pos hi] at e
      rw [← e]; simp
theorem Own.after {B : Nat} {w w' : World} {v : Value} {l : List Nat} (h : Own B w v l) (hb : Below w.heap.size w w') : Own B w' v l := by
  obtain ⟨h1, h2⟩ := h
  refine ⟨h1, ?_⟩
  rcases h2 with h2 | ⟨g, cap, cur, hv, hB, hg, r⟩
  · exact Or.inl h2
  · refine Or.inr ⟨g, cap, cur, hv, hB, ?_, r⟩
    have hlt : g < w.heap.size := by
      by_cases hlt : g < w.heap.size
      · exact hlt
      · have hn : w.heap[g]? = none := by simp; omega
        rw [hn] at hg; cases hg
    rw [hb.block g hlt]; exact hg
theorem Own.alloc {B : Nat} {w : World} {v : Value} {l : List Nat} (h : Own B w v l) (o : Obj) : Own B (w.alloc o) v l := h.after ((Below.refl _ _).alloc (Nat.le_refl _) o)
theorem Own.drew {B : Nat} {w : World} {v : Value} {l : List Nat} (h : Own B w v l) : Own B w.drew v l := h
theorem Own.drewN {B : Nat} {w : World} {v : Value} {l : List Nat} (h : Own B w v l) (n : Nat) : Own B (w.drewN n) v l := h
theorem Own.weaken {B B' : Nat} {w : World} {v : Value} {l : List Nat} (h : Own B w v l) (hB : B' ≤ B) : Own B' w v l := by
  obtain ⟨h1, h2⟩ := h
  refine ⟨h1, ?_⟩
  rcases h2 with h2 | ⟨g, cap, cur, hv, hg, r⟩
  · exact Or.inl h2
  · exact Or.inr ⟨g, cap, cur, hv, Nat.le_trans hB hg, r⟩
theorem Own.hid {B : Nat} {w w2 : World} {v : Value} {l : List Nat} (h : Own B w v l) (e : Hid (w2 = w.drew)) : Own B w2 v l := by rw [e.out]; exact h.drew
/-- A slice literal in a new block. -/
theorem Own.lit {B : Nat} {w : World} {g : Nat} {l : List Nat} (hg : w.heap[g]? = some (.cells (is64 l).toArray 3 (0, 0))) (hB : B ≤ g) (hl : l.length ≤ maxLen) : Own B w (.slice (some ⟨g, 0, none⟩) l.length l.length) l := by
  refine ⟨by simp [is64], Or.inr ⟨g, l.length, (is64 l).toArray, rfl, hB, hg, Nat.le_refl _, hl, by simp [is64], ?_⟩⟩
  simp [is64]
  exact List.take_of_length_le (by simp)

/-- append of one number. -/
theorem app_law {ops : Array Oper} {rest : List Oper} {o : Oper} {a : Act} {w : World} {Q : Exit → Act → World → Prop} (hgd : o.guard = none) (s x : Operand)
    (ho : o.op = .call { callee := .builtin .append, args := #[s, x], argTypes := #[32, 32] }) (B : Nat) (v : Value) (l : List Nat) (n : Nat) (hs : a.eval s = v) (hown : Own B w v l)
    (g1 c : Nat) (hx : a.eval x = .slice (some ⟨g1, 0, none⟩) 1 c) (hn : w.cell? ⟨g1, 0, none⟩ = some (.int .i64 (n : Int))) (hl : l.length ≤ 1000000) (hB : B ≤ w.heap.size)
    (h : ∀ v' w', Own B w' v' (l ++ [n]) → Below B w w' → wpList Tryd.prog ops Q rest (a.put o.dst v') w') : wpList Tryd.prog ops Q (o :: rest) a w := by
  obtain ⟨i, hi, hz0, hz1, hz2⟩ := info_parts info3
  have hlt := hown.lt
  refine wpList_append_own w hgd s x 32 ho B 3 i _ 1 8 Tryd.underlying32 hi hz0 hz1 hz2 rfl (by decide) v l.length (is64 l) hs hown ⟨g1, 0, none⟩ 1 c [.int .i64 (n : Int)] hx rfl ?_ ?_ ?_ ?_ hB ?_
  · intro j u hj
    match j, hj with
    | 0, hj => simp at hj; subst hj; exact hn
  · intro u hu; simp at hu; subst hu; rfl
  · unfold maxLen; omega
  · omega
  · intro v' w' h2 h3 _
    refine h v' w' ?_ ((Below.refl B w).grown h3 hB fun k hk => (hlt k hk).1)
    have e : is64 l ++ [.int .i64 (n : Int)] = is64 (l ++ [n]) := by simp [is64]
    rw [e] at h2
    simpa [Own] using h2
/-- The same as one step of a region that draws its order. -/
theorem app_step {ops : Array Oper} {o : Oper} {a : Act} {w : World} {K : Act → World → Prop} {Q : Exit → Act → World → Prop} {E : Prop} (hgd : o.guard = none) (s x : Operand)
    (ho : o.op = .call { callee := .builtin .append, args := #[s, x], argTypes := #[32, 32] }) (B : Nat) (v : Value) (l : List Nat) (n : Nat) (hs : a.eval s = v) (hown : Own B w v l)
    (g1 c : Nat) (hx : a.eval x = .slice (some ⟨g1, 0, none⟩) 1 c) (hn : w.cell? ⟨g1, 0, none⟩ = some (.int .i64 (n : Int))) (hl : l.length ≤ 1000000) (hB : B ≤ w.heap.size)
    (h : ∀ v' w', Own B w' v' (l ++ [n]) → Below B w w' → K (a.put o.dst v') w') : if Region.wanted o (yielded ops a.tmps) = true then Oper.wp Tryd.prog o a w K Q else E := by
  have hw : Region.wanted o (yielded ops a.tmps) = true := by simp [Region.wanted, hgd]
  rw [if_pos hw]
  obtain ⟨i, hi, hz0, hz1, hz2⟩ := info_parts info3
  have hlt := hown.lt
  refine wp_append_own w s x 32 ho B 3 i _ 1 8 Tryd.underlying32 hi hz0 hz1 hz2 rfl (by decide) v l.length (is64 l) hs hown ⟨g1, 0, none⟩ 1 c [.int .i64 (n : Int)] hx rfl ?_ ?_ ?_ ?_ hB ?_
  · intro j u hj
    match j, hj with
    | 0, hj => simp at hj; subst hj; exact hn
  · intro u hu; simp at hu; subst hu; rfl
  · unfold maxLen; omega
  · omega
  · intro v' w' h2 h3 _
    refine h v' w' ?_ ((Below.refl B w).grown h3 hB fun k hk => (hlt k hk).1)
    have e : is64 l ++ [.int .i64 (n : Int)] = is64 (l ++ [n]) := by simp [is64]
    rw [e] at h2
    simpa [Own] using h2

/-- xor and and of words, as int's. -/
theorem w64 (a : Nat) (h : a < 4294967296) : (BitVec.ofInt 64 (a : Int)).toNat = a := by
  rw [BitVec.ofInt_natCast, BitVec.toNat_ofNat, Nat.mod_eq_of_lt (by omega)]
theorem xor64 (a b : Nat) (ha : a < 4294967296) (hb : b < 4294967296) : bits .xor .i64 (a : Int) (b : Int) = ((a ^^^ b : Nat) : Int) := by
  have hx := Sh.xor_lt ha hb
  have e : bits .xor .i64 (a : Int) (b : Int) = IntKind.i64.wrap ((BitVec.ofInt 64 (a : Int) ^^^ BitVec.ofInt 64 (b : Int)).toNat : Int) := rfl
  rw [e, BitVec.toNat_xor, w64 a ha, w64 b hb]
  exact IntWalk.i64_in _ (by omega)
theorem and64 (a b : Nat) (ha : a < 4294967296) (hb : b < 4294967296) : bits .and .i64 (a : Int) (b : Int) = ((a &&& b : Nat) : Int) := by
  have hx := Sh.and_lt (b := b) ha
  have e : bits .and .i64 (a : Int) (b : Int) = IntKind.i64.wrap ((BitVec.ofInt 64 (a : Int) &&& BitVec.ofInt 64 (b : Int)).toNat : Int) := rfl
  rw [e, BitVec.toNat_and, w64 a ha, w64 b hb]
  exact IntWalk.i64_in _ (by omega)
theorem xor3_64 (a b c : Nat) (ha : a < 4294967296) (hb : b < 4294967296) (hc : c < 4294967296) :
    bits .xor .i64 (bits .xor .i64 (a : Int) (b : Int)) (c : Int) = (((a ^^^ b) ^^^ c : Nat) : Int) := by
  rw [xor64 a b ha hb, xor64 _ c (Sh.xor_lt ha hb) hc]

end Go.Proofs.YtalknjokamfggaaDoor
