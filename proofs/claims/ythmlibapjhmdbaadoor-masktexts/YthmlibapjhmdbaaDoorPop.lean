/- How many bits a word has: plain facts. -/
import Derived.Test.YthmlibapjhmdbaaDoorPure
namespace Go.Proofs.YthmlibapjhmdbaaDoor
namespace Mk

/-- The bits of the first n places. -/
def pcr : Nat → Nat → Nat
  | 0, _ => 0
  | n + 1, x => x % 2 + pcr n (x / 2)
theorem pcr_add : ∀ m n x, pcr (m + n) x = pcr m x + pcr n (x / 2 ^ m)
  | 0, n, x => by simp [pcr]
  | m + 1, n, x => by
    rw [Nat.add_right_comm, pcr, pcr, pcr_add m n (x / 2), Nat.div_div_eq_div_mul, Nat.pow_succ, Nat.mul_comm 2, Nat.add_assoc]
theorem pcr_mod : ∀ m x, pcr m (x % 2 ^ m) = pcr m x
  | 0, _ => rfl
  | m + 1, x => by
    have h1 : x % 2 ^ (m + 1) % 2 = x % 2 := by rw [Nat.pow_succ, Nat.mul_comm, Nat.mod_mul_right_mod]
    have h2 : x % 2 ^ (m + 1) / 2 = x / 2 % 2 ^ m := by rw [Nat.pow_succ, Nat.mul_comm, Nat.mod_mul_right_div_self]
    rw [pcr, pcr, h1, h2, pcr_mod m]
theorem pcr_zero : ∀ n, pcr n 0 = 0
  | 0 => rfl
  | n + 1 => by rw [pcr, Nat.zero_mod, Nat.zero_div, pcr_zero n]
theorem pcr_le : ∀ n x, pcr n x ≤ n
  | 0, _ => Nat.le_refl _
  | n + 1, x => by have := pcr_le n (x / 2); rw [pcr]; omega
theorem pcr_or_and : ∀ n x y, pcr n (x &&& y) + pcr n (x ||| y) = pcr n x + pcr n y
  | 0, _, _ => rfl
  | n + 1, x, y => by
    have ih := pcr_or_and n (x / 2) (y / 2)
    have d1 : (x &&& y) / 2 = x / 2 &&& y / 2 := Nat.and_div_two
    have d2 : (x ||| y) / 2 = x / 2 ||| y / 2 := Nat.or_div_two
    have m1 : (x &&& y) % 2 = (x % 2) &&& (y % 2) := Nat.and_mod_two_pow (n := 1)
    have m2 : (x ||| y) % 2 = (x % 2) ||| (y % 2) := Nat.or_mod_two_pow (n := 1)
    rw [pcr, pcr, pcr, pcr, d1, d2, m1, m2]
    have hx : x % 2 < 2 := Nat.mod_lt _ (by decide)
    have hy : y % 2 < 2 := Nat.mod_lt _ (by decide)
    have key : ∀ a b : Fin 2, (a.val &&& b.val) + (a.val ||| b.val) = a.val + b.val := by decide
    have := key ⟨x % 2, hx⟩ ⟨y % 2, hy⟩
    simp only at this
    omega
theorem pcr_two_pow : ∀ n j, j < n → pcr n (2 ^ j) = 1
  | n + 1, 0, _ => by rw [pcr]; simp [pcr_zero]
  | n + 1, j + 1, h => by
    rw [pcr, Nat.pow_succ, Nat.mul_mod_left, Nat.mul_div_cancel _ (by decide), pcr_two_pow n j (by omega)]
theorem pcr_set (n x j : Nat) (hj : j < n) (h : x.testBit j = false) : pcr n (x ||| 2 ^ j) = pcr n x + 1 := by
  have h1 := pcr_or_and n x (2 ^ j)
  have h0 : x &&& 2 ^ j = 0 := by
    apply Nat.eq_of_testBit_eq
    intro i
    rw [Nat.testBit_and, Nat.testBit_two_pow, Nat.zero_testBit]
    by_cases e : j = i
    · subst e; rw [h]; rfl
    · simp [e]
  rw [h0, pcr_zero, pcr_two_pow n j hj] at h1
  omega

/-- How many cores a mask has. -/
def cnt (l : List Nat) : Nat := pcr 64 (nth l 0) + pcr 64 (nth l 1) + pcr 64 (nth l 2) + pcr 64 (nth l 3)
theorem cnt_zero : cnt zero = 0 := by decide
theorem set_sum {l : List Nat} (h4 : l.length = 4) (f : Nat → Nat) (k y : Nat) (hk : k < 4) (e : f y = f (nth l k) + 1) :
    f (nth (l.set k y) 0) + f (nth (l.set k y) 1) + f (nth (l.set k y) 2) + f (nth (l.set k y) 3) = f (nth l 0) + f (nth l 1) + f (nth l 2) + f (nth l 3) + 1 := by
  rw [nth_set _ _ _ _ (by omega), nth_set _ _ _ _ (by omega), nth_set _ _ _ _ (by omega), nth_set _ _ _ _ (by omega)]
  match k, hk with
  | 0, _ => simp; omega
  | 1, _ => simp; omega
  | 2, _ => simp; omega
  | 3, _ => simp; omega
theorem cnt_wth {l : List Nat} (h : W4 l) {c : Nat} (hc : c < 256) (hn : hasB l c = false) : cnt (wth l c) = cnt l + 1 :=
  set_sum h.1 (pcr 64) (c / 64) _ (by omega) (pcr_set 64 (nth l (c / 64)) (c % 64) (by omega) hn)
theorem cnt_foldl : ∀ (xs : List Nat) (l : List Nat), W4 l → (∀ x ∈ xs, x < 256) → xs.Nodup → (∀ x ∈ xs, hasB l x = false) → cnt (xs.foldl wth l) = cnt l + xs.length
  | [], _, _, _, _, _ => by rw [List.foldl_nil, List.length_nil, Nat.add_zero]
  | x :: xs, l, h, hx, hn, hf => by
    have hx0 := hx x (by simp)
    rw [List.nodup_cons] at hn
    rw [List.foldl_cons, cnt_foldl xs _ (h.wth hx0) (fun y hy => hx y (by simp [hy])) hn.2 ?_, cnt_wth h hx0 (hf x (by simp)), List.length_cons]
    · omega
    · intro y hy
      rw [has_wth h.1 hx0, hf y (by simp [hy])]
      have : y ≠ x := by rintro rfl; exact hn.1 hy
      simp [this]
theorem cnt_ofL {xs : List Nat} (hx : ∀ x ∈ xs, x < 256) (hn : xs.Nodup) : cnt (ofL xs) = xs.length := by
  unfold ofL
  rw [cnt_foldl xs _ W4.zero hx hn (fun x _ => has_zero x), cnt_zero, Nat.zero_add]

/-! ### The three steps on bytes -/
def s1 (b : Nat) : Nat := (b / 2 &&& 85) + (b &&& 85)
def s2 (b : Nat) : Nat := (b / 4 &&& 51) + (b &&& 51)
def s3 (b : Nat) : Nat := b / 16 + b % 16
def val : List Nat → Nat
  | [] => 0
  | b :: bs => b + 256 * val bs
def rep (m : Nat) : Nat → Nat
  | 0 => 0
  | n + 1 => m + 256 * rep m n
theorem land_byte (x y : Nat) : x &&& y = (x % 256 &&& y % 256) + 256 * (x / 256 &&& y / 256) := by
  have h1 : (x &&& y) % 2 ^ 8 = (x % 2 ^ 8) &&& (y % 2 ^ 8) := Nat.and_mod_two_pow
  have h2 : (x &&& y) / 2 ^ 8 = (x / 2 ^ 8) &&& (y / 2 ^ 8) := Nat.and_div_two_pow
  have h3 := Nat.div_add_mod (x &&& y) (2 ^ 8)
  rw [h1, h2, Nat.add_comm] at h3
  exact h3.symm
theorem t1 : ∀ y : Fin 512, ((y.val / 2) % 256 &&& 85) = (y.val % 256 / 2 &&& 85) := by decide +kernel
theorem t2 : ∀ y : Fin 1024, ((y.val / 4) % 256 &&& 51) = (y.val % 256 / 4 &&& 51) := by decide +kernel
theorem step1 : ∀ (bs : List Nat), (∀ b ∈ bs, b < 256) → (val bs / 2 &&& rep 85 bs.length) + (val bs &&& rep 85 bs.length) = val (bs.map s1)
  | [], _ => rfl
  | b :: bs, h => by
    have hb := h b (by simp)
    have ih := step1 bs (fun x hx => h x (by simp [hx]))
    have e1 := t1 ⟨(b + 256 * val bs) % 512, Nat.mod_lt _ (by decide)⟩
    simp only at e1
    have e2 : (b + 256 * val bs) / 2 % 256 = (b + 256 * val bs) % 512 / 2 % 256 := by omega
    have e3 : (b + 256 * val bs) % 512 % 256 = b := by omega
    have e4 : (b + 256 * val bs) / 2 / 256 = val bs / 2 := by omega
    have e5 : (b + 256 * val bs) / 256 = val bs := by omega
    have e6 : (b + 256 * val bs) % 256 = b := by omega
    have r1 : (85 + 256 * rep 85 bs.length) % 256 = 85 := by omega
    have r2 : (85 + 256 * rep 85 bs.length) / 256 = rep 85 bs.length := by omega
    simp only [List.length_cons, List.map_cons, val, rep]
    rw [land_byte ((b + 256 * val bs) / 2), land_byte (b + 256 * val bs), r1, r2, e4, e5, e6, e2, e1, e3]
    rw [← ih, show s1 b = (b / 2 &&& 85) + (b &&& 85) from rfl]
    omega
theorem step2 : ∀ (bs : List Nat), (∀ b ∈ bs, b < 256) → (val bs / 4 &&& rep 51 bs.length) + (val bs &&& rep 51 bs.length) = val (bs.map s2)
  | [], _ => rfl
  | b :: bs, h => by
    have hb := h b (by simp)
    have ih := step2 bs (fun x hx => h x (by simp [hx]))
    have e1 := t2 ⟨(b + 256 * val bs) % 1024, Nat.mod_lt _ (by decide)⟩
    simp only at e1
    have e2 : (b + 256 * val bs) / 4 % 256 = (b + 256 * val bs) % 1024 / 4 % 256 := by omega
    have e3 : (b + 256 * val bs) % 1024 % 256 = b := by omega
    have e4 : (b + 256 * val bs) / 4 / 256 = val bs / 4 := by omega
    have e5 : (b + 256 * val bs) / 256 = val bs := by omega
    have e6 : (b + 256 * val bs) % 256 = b := by omega
    have r1 : (51 + 256 * rep 51 bs.length) % 256 = 51 := by omega
    have r2 : (51 + 256 * rep 51 bs.length) / 256 = rep 51 bs.length := by omega
    simp only [List.length_cons, List.map_cons, val, rep]
    rw [land_byte ((b + 256 * val bs) / 4), land_byte (b + 256 * val bs), r1, r2, e4, e5, e6, e2, e1, e3]
    rw [← ih, show s2 b = (b / 4 &&& 51) + (b &&& 51) from rfl]
    omega
/-- Both halves of a byte are at most four. -/
def Nib (b : Nat) : Prop := b / 16 ≤ 4 ∧ b % 16 ≤ 4
theorem val_mod16 : ∀ (bs : List Nat), (∀ b ∈ bs, Nib b) → val bs % 16 ≤ 4
  | [], _ => by decide
  | b :: bs, h => by
    have := (h b (by simp)).2
    simp only [val]
    omega
theorem step3 : ∀ (bs : List Nat), (∀ b ∈ bs, Nib b) → (val bs / 16 + val bs) &&& rep 15 bs.length = val (bs.map s3)
  | [], _ => rfl
  | b :: bs, h => by
    obtain ⟨h1, h2⟩ := h b (by simp)
    have ih := step3 bs (fun x hx => h x (by simp [hx]))
    have hv := val_mod16 bs (fun x hx => h x (by simp [hx]))
    have e1 : ((b + 256 * val bs) / 16 + (b + 256 * val bs)) / 256 = val bs / 16 + val bs := by omega
    have e2 : ((b + 256 * val bs) / 16 + (b + 256 * val bs)) % 256 = b / 16 + b + 16 * (val bs % 16) := by omega
    have r1 : (15 + 256 * rep 15 bs.length) % 256 = 15 := by omega
    have r2 : (15 + 256 * rep 15 bs.length) / 256 = rep 15 bs.length := by omega
    have e3 : (b / 16 + b + 16 * (val bs % 16)) &&& 15 = b / 16 + b % 16 := by
      rw [show (15 : Nat) = 2 ^ 4 - 1 from rfl, Nat.and_two_pow_sub_one_eq_mod]
      omega
    simp only [List.length_cons, List.map_cons, val, rep]
    rw [land_byte, e1, e2, r1, r2, e3, ih]
    rfl
theorem byte_all : ∀ b : Fin 256, s1 b.val < 256 ∧ s2 (s1 b.val) < 256 ∧ s2 (s1 b.val) / 16 ≤ 4 ∧ s2 (s1 b.val) % 16 ≤ 4 ∧ s3 (s2 (s1 b.val)) = pcr 8 b.val := by decide +kernel
/-- The eight bytes of a word. -/
def bytes8 (x : Nat) : List Nat := [x % 256, x / 256 % 256, x / 65536 % 256, x / 16777216 % 256, x / 4294967296 % 256, x / 1099511627776 % 256, x / 281474976710656 % 256, x / 72057594037927936 % 256]
theorem val_bytes8 (x : Nat) (h : x < 18446744073709551616) : val (bytes8 x) = x := by
  unfold bytes8 val val val val val val val val val
  omega
theorem pcr_bytes (x : Nat) : pcr 64 x = pcr 8 (x % 256) + pcr 8 (x / 256 % 256) + pcr 8 (x / 65536 % 256) + pcr 8 (x / 16777216 % 256) + pcr 8 (x / 4294967296 % 256) + pcr 8 (x / 1099511627776 % 256) + pcr 8 (x / 281474976710656 % 256) + pcr 8 (x / 72057594037927936 % 256) := by
  have e : ∀ y, pcr 8 (y % 256) = pcr 8 y := fun y => pcr_mod 8 y
  rw [e, e, e, e, e, e, e, e]
  rw [show (64 : Nat) = 8 + (8 + (8 + (8 + (8 + (8 + (8 + 8)))))) from rfl, pcr_add, pcr_add, pcr_add, pcr_add, pcr_add, pcr_add, pcr_add]
  simp only [Nat.div_div_eq_div_mul, Nat.add_assoc]
/-- What the sums of shifted bytes leave in the lowest seven bits. -/
theorem tail_sum (c0 c1 c2 c3 c4 c5 c6 c7 X X1 X2 X3 : Nat) (h0 : c0 ≤ 8) (h1 : c1 ≤ 8) (h2 : c2 ≤ 8) (h3 : c3 ≤ 8) (h4 : c4 ≤ 8) (h5 : c5 ≤ 8) (h6 : c6 ≤ 8) (h7 : c7 ≤ 8)
    (hX : X = c0 + 256 * (c1 + 256 * (c2 + 256 * (c3 + 256 * (c4 + 256 * (c5 + 256 * (c6 + 256 * c7)))))))
    (hX1 : X1 = X + X / 256) (hX2 : X2 = X1 + X1 / 65536) (hX3 : X3 = X2 + X2 / 4294967296) : X3 % 128 = c0 + c1 + c2 + c3 + c4 + c5 + c6 + c7 ∧ X3 < 9223372036854775808 := by
  have k1 : X1 = (c0 + c1) + 256 * ((c1 + c2) + 256 * ((c2 + c3) + 256 * ((c3 + c4) + 256 * ((c4 + c5) + 256 * ((c5 + c6) + 256 * ((c6 + c7) + 256 * c7)))))) := by
    have : X / 256 = c1 + 256 * (c2 + 256 * (c3 + 256 * (c4 + 256 * (c5 + 256 * (c6 + 256 * c7))))) := by omega
    omega
  clear hX hX1 X
  have k2 : X2 = (c0 + c1 + c2 + c3) + 256 * ((c1 + c2 + c3 + c4) + 256 * ((c2 + c3 + c4 + c5) + 256 * ((c3 + c4 + c5 + c6) + 256 * ((c4 + c5 + c6 + c7) + 256 * ((c5 + c6 + c7) + 256 * ((c6 + c7) + 256 * c7)))))) := by
    have : X1 / 65536 = (c2 + c3) + 256 * ((c3 + c4) + 256 * ((c4 + c5) + 256 * ((c5 + c6) + 256 * ((c6 + c7) + 256 * c7)))) := by omega
    omega
  clear k1 hX2 X1
  have k3 : X2 / 4294967296 = (c4 + c5 + c6 + c7) + 256 * ((c5 + c6 + c7) + 256 * ((c6 + c7) + 256 * c7)) := by omega
  constructor
  · omega
  · omega
end Mk
end Go.Proofs.YthmlibapjhmdbaaDoor
