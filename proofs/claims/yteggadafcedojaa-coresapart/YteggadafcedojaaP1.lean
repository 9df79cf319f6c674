/- How a mask and a wish are read. -/
import Derived.Test.YteggadafcedojaaP0
namespace Go.Proofs.Yteggadafcedojaa
open Go.ChangeShapes Go.WideShapes Go.ChangeAt Go.RowKit Go.Joins

section
variable {H : Type} {enc : TypeId × Value → H} {w : World} {base : Nat} {spare : Nat → Bool} {held : Bool}

theorem u64_of_wf {n : Int} (h : (Lit.int .u64 n).wf = true) : ∃ m : Nat, n = m ∧ m < 2 ^ 64 := by
  have h2 : IntKind.u64.min ≤ n ∧ n ≤ IntKind.u64.max := by simpa [Lit.wf] using h
  have h3 : IntKind.u64.min = 0 := by decide
  have h4 : IntKind.u64.max = 18446744073709551615 := by decide
  rw [h3, h4] at h2
  obtain ⟨m, rfl⟩ := Int.eq_ofNat_of_zero_le h2.1
  exact ⟨m, rfl, by have := h2.2; omega⟩
theorem trod_u64 (enc : TypeId × Value → H) (w : World) (base : Nat) (spare : Nat → Bool) (held : Bool) {n : Int} (hw : (Lit.int .u64 n).wf = true) : ∃ k, DataW.trod enc Try.prog w base spare held k 31 [.int .u64 n] = some (.lit (.int .u64 n), []) := by
  obtain ⟨k, hk⟩ := shut_int (enc := enc) (w := w) (base := base) (spare := spare) (held := held) Try.underlying31 hw
  exact ⟨k, hk⟩
/-- Four words, read. -/
theorem open_words {fuel : Nat} {c0 c1 c2 c3 : Value} {x : DataW H × List MemPlace} (h : DataW.trod enc Try.prog w base spare held fuel 40 [c0, c1, c2, c3] = some x) :
    ∃ a b c e : Int, c0 = .int .u64 a ∧ c1 = .int .u64 b ∧ c2 = .int .u64 c ∧ c3 = .int .u64 e ∧ x = (.agg [.lit (.int .u64 a), .lit (.int .u64 b), .lit (.int .u64 c), .lit (.int .u64 e)], []) ∧ (Lit.int .u64 a).wf = true ∧ (Lit.int .u64 b).wf = true ∧ (Lit.int .u64 c).wf = true ∧ (Lit.int .u64 e).wf = true := by
  obtain ⟨y0, y1, y2, y3, n, rfl, h0, h1, h2, h3⟩ := trod_array4 Try.underlying40 (by kernel_rfl) h
  obtain ⟨a, e0, rfl, wa⟩ := DataW.trod_int Try.underlying31 h0
  obtain ⟨b, e1, rfl, wb⟩ := DataW.trod_int Try.underlying31 h1
  obtain ⟨c, e2, rfl, wc⟩ := DataW.trod_int Try.underlying31 h2
  obtain ⟨e, e3, rfl, we⟩ := DataW.trod_int Try.underlying31 h3
  simp only [List.cons.injEq, and_true] at e0 e1 e2 e3
  exact ⟨a, b, c, e, e0, e1, e2, e3, rfl, wa, wb, wc, we⟩
theorem shut_words (enc : TypeId × Value → H) (w : World) (base : Nat) (spare : Nat → Bool) (held : Bool) {a b c e : Int} (wa : (Lit.int .u64 a).wf = true) (wb : (Lit.int .u64 b).wf = true) (wc : (Lit.int .u64 c).wf = true) (we : (Lit.int .u64 e).wf = true) :
    ∃ n, DataW.trod enc Try.prog w base spare held n 40 [.int .u64 a, .int .u64 b, .int .u64 c, .int .u64 e] = some (.agg [.lit (.int .u64 a), .lit (.int .u64 b), .lit (.int .u64 c), .lit (.int .u64 e)], []) := by
  obtain ⟨n0, t0⟩ := trod_u64 enc w base spare held wa
  obtain ⟨n1, t1⟩ := trod_u64 enc w base spare held wb
  obtain ⟨n2, t2⟩ := trod_u64 enc w base spare held wc
  obtain ⟨n3, t3⟩ := trod_u64 enc w base spare held we
  have s0 := DataW.trod_le (show n0 ≤ n0 + n1 + n2 + n3 by omega) t0
  have s1 := DataW.trod_le (show n1 ≤ n0 + n1 + n2 + n3 by omega) t1
  have s2 := DataW.trod_le (show n2 ≤ n0 + n1 + n2 + n3 by omega) t2
  have s3 := DataW.trod_le (show n3 ≤ n0 + n1 + n2 + n3 by omega) t3
  refine ⟨n0 + n1 + n2 + n3 + 1, ?_⟩
  unfold DataW.trod
  rw [Try.underlying40]
  have r4 : List.range 4 = [0, 1, 2, 3] := rfl
  have hc : Try.prog.cellsOf 31 = 1 := by kernel_rfl
  have h40 : Try.prog.cellsOf 40 = 4 := by kernel_rfl
  simp [r4, hc, h40, s0, s1, s2, s3]
theorem okWide_arr {P : Program} {w : World} {r : Reach} {b t : Nat} {v : Value} {n : Nat} {e : TypeId} (ht : P.underlying t = some (.array n e)) (h : Value.okWide P w r b t v) : ∃ cs, v = .agg cs ∧ cs.size = P.cellsOf t := by
  simp only [Value.okWide, ht] at h
  obtain ⟨cs, h1, h2, _⟩ := h
  exact ⟨cs, h1, h2⟩
theorem open_bits {r : Reach} {b0 : Nat} {v : Value} {d : DataW H} {p : List MemPlace} (hv : Value.okWide Try.prog w r b0 40 v) (h : DataW.Trod enc Try.prog w base spare held 40 v d p) :
    ∃ a b c e : Int, v = .agg #[.int .u64 a, .int .u64 b, .int .u64 c, .int .u64 e] ∧ d = .agg [.lit (.int .u64 a), .lit (.int .u64 b), .lit (.int .u64 c), .lit (.int .u64 e)] ∧ p = [] ∧ (Lit.int .u64 a).wf = true ∧ (Lit.int .u64 b).wf = true ∧ (Lit.int .u64 c).wf = true ∧ (Lit.int .u64 e).wf = true := by
  obtain ⟨cs, rfl, hsz⟩ := okWide_arr Try.underlying40 hv
  obtain ⟨l⟩ := cs
  match l, hsz.trans (show Try.prog.cellsOf 40 = 4 by kernel_rfl) with
  | [c0, c1, c2, c3], _ =>
    obtain ⟨fuel, hf⟩ := h
    obtain ⟨a, b, c, e, rfl, rfl, rfl, rfl, hx, wa, wb, wc, we⟩ := open_words hf
    simp only [Prod.mk.injEq] at hx
    exact ⟨a, b, c, e, rfl, hx.1, hx.2, wa, wb, wc, we⟩
theorem shut_bits {a b c e : Int} (wa : (Lit.int .u64 a).wf = true) (wb : (Lit.int .u64 b).wf = true) (wc : (Lit.int .u64 c).wf = true) (we : (Lit.int .u64 e).wf = true) :
    DataW.Trod enc Try.prog w base spare held 40 (.agg #[.int .u64 a, .int .u64 b, .int .u64 c, .int .u64 e]) (.agg [.lit (.int .u64 a), .lit (.int .u64 b), .lit (.int .u64 c), .lit (.int .u64 e)]) [] := by
  obtain ⟨n, hn⟩ := shut_words enc w base spare held wa wb wc we
  exact ⟨n, by simpa [Value.cells] using hn⟩
theorem open_wish {r : Reach} {b0 : Nat} {v : Value} {d : DataW H} {p : List MemPlace} (hv : Value.okWide Try.prog w r b0 45 v) (h : DataW.Trod enc Try.prog w base spare held 45 v d p) :
    ∃ a b c e k q t : Int, v = .agg #[.int .u64 a, .int .u64 b, .int .u64 c, .int .u64 e, .int .i64 k, .int .i64 q, .int .i64 t] ∧ d = .agg [.agg [.lit (.int .u64 a), .lit (.int .u64 b), .lit (.int .u64 c), .lit (.int .u64 e)], .lit (.int .i64 k), .lit (.int .i64 q), .lit (.int .i64 t)] ∧ p = [] ∧
      (Lit.int .u64 a).wf = true ∧ (Lit.int .u64 b).wf = true ∧ (Lit.int .u64 c).wf = true ∧ (Lit.int .u64 e).wf = true ∧ (Lit.int .i64 k).wf = true ∧ (Lit.int .i64 q).wf = true ∧ (Lit.int .i64 t).wf = true := by
  obtain ⟨cs, rfl, hsz⟩ := okWide_struct Try.underlying45 hv
  obtain ⟨l⟩ := cs
  match l, hsz.trans (show Try.prog.cellsOf 45 = 7 by kernel_rfl) with
  | [c0, c1, c2, c3, c4, c5, c6], _ =>
    obtain ⟨fuel, hf⟩ := h
    obtain ⟨xs, n, _, hx, _, hlen, hg⟩ := DataW.trod_struct Try.underlying45 hf
    match xs, hlen with
    | [y0, y1, y2, y3], _ =>
      have g0 := hg 0 _ rfl
      have g1 := hg 1 _ rfl
      have g2 := hg 2 _ rfl
      have g3 := hg 3 _ rfl
      have z40 : Try.prog.cellsOf 40 = 4 := by kernel_rfl
      have z3 : Try.prog.cellsOf 3 = 1 := by kernel_rfl
      simp [Value.cells, z40, z3] at g0 g1 g2 g3
      obtain ⟨a, b, c, e, rfl, rfl, rfl, rfl, rfl, wa, wb, wc, we⟩ := open_words g0
      obtain ⟨k, e1, rfl, wk⟩ := DataW.trod_int Try.underlying3 g1
      obtain ⟨q, e2, rfl, wq⟩ := DataW.trod_int Try.underlying3 g2
      obtain ⟨t, e3, rfl, wt⟩ := DataW.trod_int Try.underlying3 g3
      simp only [List.cons.injEq, and_true] at e1 e2 e3
      subst e1 e2 e3
      simp at hx
      exact ⟨a, b, c, e, k, q, t, rfl, hx.1, hx.2, wa, wb, wc, we, wk, wq, wt⟩
theorem shut_wish {a b c e k q t : Int} (wa : (Lit.int .u64 a).wf = true) (wb : (Lit.int .u64 b).wf = true) (wc : (Lit.int .u64 c).wf = true) (we : (Lit.int .u64 e).wf = true) (wk : (Lit.int .i64 k).wf = true) (wq : (Lit.int .i64 q).wf = true) (wt : (Lit.int .i64 t).wf = true) :
    DataW.Trod enc Try.prog w base spare held 45 (.agg #[.int .u64 a, .int .u64 b, .int .u64 c, .int .u64 e, .int .i64 k, .int .i64 q, .int .i64 t]) (.agg [.agg [.lit (.int .u64 a), .lit (.int .u64 b), .lit (.int .u64 c), .lit (.int .u64 e)], .lit (.int .i64 k), .lit (.int .i64 q), .lit (.int .i64 t)]) [] := by
  obtain ⟨n0, t0⟩ := shut_words enc w base spare held wa wb wc we
  obtain ⟨n1, t1⟩ := trod_i64 enc w base spare held wk
  obtain ⟨n2, t2⟩ := trod_i64 enc w base spare held wq
  obtain ⟨n3, t3⟩ := trod_i64 enc w base spare held wt
  have s0 := DataW.trod_le (show n0 ≤ n0 + n1 + n2 + n3 by omega) t0
  have s1 := DataW.trod_le (show n1 ≤ n0 + n1 + n2 + n3 by omega) t1
  have s2 := DataW.trod_le (show n2 ≤ n0 + n1 + n2 + n3 by omega) t2
  have s3 := DataW.trod_le (show n3 ≤ n0 + n1 + n2 + n3 by omega) t3
  have z40 : Try.prog.cellsOf 40 = 4 := by kernel_rfl
  have z3 : Try.prog.cellsOf 3 = 1 := by kernel_rfl
  have z45 : Try.prog.cellsOf 45 = 7 := by kernel_rfl
  have := trod_struct_mk (enc := enc) (w := w) (base := base) (spare := spare) (held := held) (n := n0 + n1 + n2 + n3) (cs := [.int .u64 a, .int .u64 b, .int .u64 c, .int .u64 e, .int .i64 k, .int .i64 q, .int .i64 t])
    (xs := [(.agg [.lit (.int .u64 a), .lit (.int .u64 b), .lit (.int .u64 c), .lit (.int .u64 e)], []), (.lit (.int .i64 k), []), (.lit (.int .i64 q), []), (.lit (.int .i64 t), [])]) Try.underlying45 (by simp [z45]) (by simp [z40, z3, s0, s1, s2, s3])
  exact ⟨_, by simpa [Value.cells] using this⟩
theorem W4_of {a b c e : Nat} (ha : a < 2 ^ 64) (hb : b < 2 ^ 64) (hc : c < 2 ^ 64) (he : e < 2 ^ 64) : Mk.W4 [a, b, c, e] := by
  refine ⟨rfl, fun i => ?_⟩
  match i with
  | 0 => exact ha
  | 1 => exact hb
  | 2 => exact hc
  | 3 => exact he
  | n + 4 => simp [Mk.nth]
end
end Go.Proofs.Yteggadafcedojaa
