/- Heaps as lists, with no program in it. -/
namespace Go.Proofs.Ytinbaepligploaa

/-- A deadline: whose, and when. -/
abbrev Dl := Int × Int
/-- By when, and of the same time by whose. -/
def lt (a b : Dl) : Prop := a.2 < b.2 ∨ (a.2 = b.2 ∧ a.1 < b.1)
theorem lt_irrefl (a : Dl) : ¬lt a a := by unfold lt; omega
theorem lt_asymm {a b : Dl} (h : lt a b) : ¬lt b a := by unfold lt at *; omega
theorem lt_trans {a b c : Dl} (h : lt a b) (k : lt b c) : lt a c := by unfold lt at *; omega
theorem nlt_trans {a b c : Dl} (h : ¬lt a b) (k : ¬lt b c) : ¬lt a c := by unfold lt at *; omega
theorem nlt_of {a b c : Dl} (h : lt b c) (k : ¬lt a c) : ¬lt a b := by unfold lt at *; omega
theorem lt_total {a b : Dl} (h : ¬lt a b) (k : ¬lt b a) : a = b := by
  unfold lt at *
  obtain ⟨a1, a2⟩ := a
  obtain ⟨b1, b2⟩ := b
  simp only [Prod.mk.injEq] at *
  omega
instance (a b : Dl) : Decidable (lt a b) := inferInstanceAs (Decidable (_ ∨ _))
/-- The i-th. -/
def nt (L : List Dl) (i : Nat) : Dl := L.getD i (0, 0)
theorem nt_get {L : List Dl} {i : Nat} (h : i < L.length) : L[i]? = some (nt L i) := by simp [nt, List.getD, h]
theorem nt_mem {L : List Dl} {i : Nat} (h : i < L.length) : nt L i ∈ L := List.mem_of_getElem? (nt_get h)
theorem nt_eq {L : List Dl} {i : Nat} (h : i < L.length) : nt L i = L[i] := by simp [nt, List.getD, h]
/-- Two change places. -/
def sw (L : List Dl) (i j : Nat) : List Dl := (L.set i (nt L j)).set j (nt L i)
theorem sw_len (L : List Dl) (i j : Nat) : (sw L i j).length = L.length := by simp [sw]
theorem sw_nt {L : List Dl} {i j k : Nat} (hi : i < L.length) (hj : j < L.length) : nt (sw L i j) k = if k = j then nt L i else if k = i then nt L j else nt L k := by
  unfold nt sw
  simp only [List.getD_eq_getElem?_getD, List.getElem?_set, List.length_set]
  by_cases h1 : k = j
  · subst h1
    simp [hj, nt]
  · have h1' : ¬j = k := fun e => h1 e.symm
    by_cases h2 : k = i
    · subst h2
      simp [h1', h1, hi, nt]
    · have h2' : ¬i = k := fun e => h2 e.symm
      simp [h1', h2', h1, h2]
theorem sw_perm {L : List Dl} {i j : Nat} (hi : i < L.length) (hj : j < L.length) : (sw L i j).Perm L := by
  unfold sw
  rw [nt_eq hi, nt_eq hj]
  exact List.set_set_perm hi hj
theorem sw_drop {L : List Dl} {i j n : Nat} (hi : i < n) (hj : j < n) : (sw L i j).drop n = L.drop n := by
  unfold sw
  rw [List.drop_set_of_lt hj, List.drop_set_of_lt hi]
/-- Above i, in the tree. -/
def par (i : Nat) : Nat := (i - 1) / 2
theorem par_lt {i : Nat} (h : 0 < i) : par i < i := by unfold par; omega
def Heap (n : Nat) (L : List Dl) : Prop := ∀ k, 0 < k → k < n → ¬lt (nt L k) (nt L (par k))
/-- All but j itself. -/
def UpInv (n j : Nat) (L : List Dl) : Prop := (∀ k, 0 < k → k < n → k ≠ j → ¬lt (nt L k) (nt L (par k))) ∧ (0 < j → ∀ k, 0 < k → k < n → par k = j → ¬lt (nt L k) (nt L (par j)))
theorem UpInv.top {n : Nat} {L : List Dl} (h : UpInv n 0 L) : Heap n L := fun k h0 hn => h.1 k h0 hn (by omega)
theorem UpInv.done {n j : Nat} {L : List Dl} (h : UpInv n j L) (hj : ¬lt (nt L j) (nt L (par j))) : Heap n L := fun k h0 hn => by
  by_cases e : k = j
  · subst e; exact hj
  · exact h.1 k h0 hn e
theorem UpInv.step {n j : Nat} {L : List Dl} (h : UpInv n j L) (h0 : 0 < j) (hn : j < n) (hl : n ≤ L.length) (hj : lt (nt L j) (nt L (par j))) : UpInv n (par j) (sw L (par j) j) := by
  have hp := par_lt h0
  have S := fun k => sw_nt (L := L) (i := par j) (j := j) (k := k) (by omega) (by omega)
  constructor
  · intro k k0 kn kne
    by_cases e1 : k = j
    · subst e1
      rw [S, S, if_pos rfl, if_neg (by omega), if_pos rfl]
      exact lt_asymm hj
    · have pk := par_lt k0
      rw [S k, if_neg e1, if_neg kne]
      by_cases e2 : par k = j
      · rw [S, if_pos e2]
        exact h.2 h0 k k0 kn e2
      · by_cases e3 : par k = par j
        · rw [S, if_neg e2, if_pos e3]
          have := h.1 k k0 kn e1
          rw [e3] at this
          exact nlt_of hj this
        · rw [S, if_neg e2, if_neg e3]
          exact h.1 k k0 kn e1
  · intro p0 k k0 kn kp
    have pp := par_lt p0
    rw [S (par (par j)), if_neg (by omega), if_neg (by omega)]
    by_cases e1 : k = j
    · subst e1
      rw [S, if_pos rfl]
      exact h.1 (par k) p0 (by omega) (by omega)
    · have pk := par_lt k0
      rw [S, if_neg e1, if_neg (by omega)]
      have h1 := h.1 k k0 kn e1
      have h2 := h.1 (par j) p0 (by omega) (by omega)
      rw [kp] at h1
      exact nlt_trans h1 h2
/-- All but i, and what hangs on it. -/
def Hole (n i : Nat) (L : List Dl) : Prop := (∀ k, 0 < k → k < n → k ≠ i → par k ≠ i → ¬lt (nt L k) (nt L (par k))) ∧ (0 < i → ∀ k, 0 < k → k < n → par k = i → ¬lt (nt L k) (nt L (par i)))
/-- All but what hangs on i. -/
def Dn (n i : Nat) (L : List Dl) : Prop := Hole n i L ∧ (0 < i → i < n → ¬lt (nt L i) (nt L (par i)))
/-- The lesser child is not ahead. -/
def Kids (n i : Nat) (L : List Dl) : Prop := ∀ k, 0 < k → k < n → par k = i → ¬lt (nt L k) (nt L i)
theorem Hole.up {n i : Nat} {L : List Dl} (h : Hole n i L) (k : Kids n i L) : UpInv n i L := ⟨fun q q0 qn qne => by
  by_cases e : par q = i
  · rw [e]; exact k q q0 qn e
  · exact h.1 q q0 qn qne e, h.2⟩
theorem Dn.done {n i : Nat} {L : List Dl} (h : Dn n i L) (k : Kids n i L) : Heap n L := by
  by_cases e : 0 < i
  · intro q q0 qn
    by_cases e2 : q = i
    · subst e2; exact h.2 e qn
    · exact (h.1.up k).1 q q0 qn e2
  · obtain rfl : i = 0 := by omega
    exact (h.1.up k).top
theorem kids_none {n i : Nat} {L : List Dl} (h : n ≤ 2 * i + 1) : Kids n i L := fun k k0 kn kp => by unfold par at kp; omega
theorem kids_one {n i : Nat} {L : List Dl} (h : n ≤ 2 * i + 2) (hj : ¬lt (nt L (2 * i + 1)) (nt L i)) : Kids n i L := fun k k0 kn kp => by
  obtain rfl : k = 2 * i + 1 := by unfold par at kp; omega
  exact hj
theorem kids_two {n i j : Nat} {L : List Dl} (hj : ¬lt (nt L j) (nt L i)) (h1 : ¬lt (nt L (2 * i + 1)) (nt L j)) (h2 : ¬lt (nt L (2 * i + 2)) (nt L j)) : Kids n i L := fun k k0 kn kp => by
  have : k = 2 * i + 1 ∨ k = 2 * i + 2 := by unfold par at kp; omega
  rcases this with rfl | rfl
  · exact nlt_trans h1 hj
  · exact nlt_trans h2 hj
/-- The step down to the lesser child j. -/
theorem Hole.step {n i j : Nat} {L : List Dl} (h : Hole n i L) (hl : n ≤ L.length) (j0 : 0 < j) (hn : j < n) (hp : par j = i) (hj : lt (nt L j) (nt L i)) (hk : ∀ k, 0 < k → k < n → par k = i → ¬lt (nt L k) (nt L j)) : Dn n j (sw L i j) := by
  have ij := par_lt j0
  rw [hp] at ij
  have S := fun k => sw_nt (L := L) (i := i) (j := j) (k := k) (by omega) (by omega)
  refine ⟨⟨?_, ?_⟩, ?_⟩
  · intro k k0 kn kne kp
    have pk := par_lt k0
    by_cases e1 : k = i
    · subst e1
      rw [S k, if_neg kne, if_pos rfl, S, if_neg (by omega), if_neg (by omega)]
      exact h.2 k0 j j0 hn hp
    · rw [S k, if_neg kne, if_neg e1]
      by_cases e2 : par k = i
      · rw [S, if_neg kp, if_pos e2]
        exact hk k k0 kn e2
      · rw [S, if_neg kp, if_neg e2]
        exact h.1 k k0 kn e1 e2
  · intro _ k k0 kn kp
    have pk := par_lt k0
    rw [hp, S k, if_neg (by omega), if_neg (by omega), S i, if_neg (by omega), if_pos rfl]
    have := h.1 k k0 kn (by omega) (by omega)
    rw [kp] at this
    exact this
  · intro _ _
    rw [hp, S j, if_pos rfl, S i, if_neg (by omega), if_pos rfl]
    exact lt_asymm hj
/-- The first one is the least. -/
theorem Heap.least {n : Nat} {L : List Dl} (h : Heap n L) : ∀ k, k < n → ¬lt (nt L k) (nt L 0) := by
  intro k
  induction k using Nat.strongRecOn with
  | ind k ih =>
    intro hk
    by_cases e : k = 0
    · subst e; exact lt_irrefl _
    · have pk := par_lt (show 0 < k by omega)
      exact nlt_trans (h k (by omega) hk) (ih (par k) pk (by omega))
theorem Heap.prefix_ {n m : Nat} {L : List Dl} (h : Heap n L) (hm : m ≤ n) : Heap m L := fun k h0 hk => h k h0 (by omega)
theorem nt_append_left {L M : List Dl} {i : Nat} (h : i < L.length) : nt (L ++ M) i = nt L i := by simp [nt, List.getD, List.getElem?_append_left h]
/-- Behind a change of one. -/
theorem Heap.hole {n i : Nat} {L : List Dl} (h : Heap n L) (x : Dl) : Hole n i (L.set i x) := by
  have N : ∀ k, k ≠ i → nt (L.set i x) k = nt L k := fun k hk => by
    have hk' : ¬i = k := fun e => hk e.symm
    simp [nt, List.getD, hk']
  constructor
  · intro k k0 kn k1 k2
    rw [N k k1, N _ k2]
    exact h k k0 kn
  · intro i0 k k0 kn kp
    have pk := par_lt k0
    have pi := par_lt i0
    rw [N k (by omega), N _ (by omega)]
    have h1 := h k k0 kn
    rw [kp] at h1
    exact nlt_trans h1 (h i i0 (by omega))
/-- Behind the last one put in the place of i. -/
theorem Heap.hole_sw {n i : Nat} {L : List Dl} (h : Heap (n + 1) L) (hl : n + 1 ≤ L.length) (hi : i < n) : Hole n i (sw L i n) := by
  have S := fun k => sw_nt (L := L) (i := i) (j := n) (k := k) (by omega) (by omega)
  constructor
  · intro k k0 kn k1 k2
    have pk := par_lt k0
    rw [S k, if_neg (by omega), if_neg k1, S, if_neg (by omega), if_neg k2]
    exact h k k0 (by omega)
  · intro i0 k k0 kn kp
    have pk := par_lt k0
    have pi := par_lt i0
    rw [S k, if_neg (by omega), if_neg (by omega), S, if_neg (by omega), if_neg (by omega)]
    have h1 := h k k0 (by omega)
    rw [kp] at h1
    exact nlt_trans h1 (h i i0 (by omega))
theorem Heap.snoc {n : Nat} {L : List Dl} (h : Heap n L) (hn : L.length = n) (x : Dl) : UpInv (n + 1) n (L ++ [x]) := by
  constructor
  · intro k k0 kn kne
    have pk := par_lt k0
    rw [nt_append_left (by omega), nt_append_left (by omega)]
    exact h k k0 (by omega)
  · intro n0 k k0 kn kp
    have pk := par_lt k0
    omega

/-- In order. -/
def Srt : List Dl → Prop
  | [] => True
  | x :: S => (∀ y ∈ S, lt x y) ∧ Srt S
/-- A deadline laid where it belongs. -/
def ins (x : Dl) : List Dl → List Dl
  | [] => [x]
  | y :: S => if lt x y then x :: y :: S else y :: ins x S
theorem ins_mem (x z : Dl) : ∀ S : List Dl, z ∈ ins x S ↔ z = x ∨ z ∈ S
  | [] => by simp [ins]
  | y :: S => by
    unfold ins
    split
    · simp
    · rw [List.mem_cons, ins_mem x z S, List.mem_cons]
      constructor
      · rintro (h | h | h)
        · exact .inr (.inl h)
        · exact .inl h
        · exact .inr (.inr h)
      · rintro (h | h | h)
        · exact .inr (.inl h)
        · exact .inl h
        · exact .inr (.inr h)
theorem ins_perm (x : Dl) : ∀ S : List Dl, (ins x S).Perm (x :: S)
  | [] => List.Perm.refl _
  | y :: S => by
    unfold ins
    split
    · exact List.Perm.refl _
    · exact ((ins_perm x S).cons y).trans (List.Perm.swap x y S)
theorem ins_len (x : Dl) (S : List Dl) : (ins x S).length = S.length + 1 := by simpa using (ins_perm x S).length_eq
theorem ins_srt (x : Dl) : ∀ S : List Dl, Srt S → x ∉ S → Srt (ins x S)
  | [], _, _ => ⟨(fun y hy => by cases hy), trivial⟩
  | y :: S, h, hx => by
    unfold ins
    split
    · next hlt => exact ⟨fun z hz => by rcases List.mem_cons.1 hz with rfl | hz; exact hlt; exact lt_trans hlt (h.1 z hz), h⟩
    · next hlt =>
      simp only [List.mem_cons, not_or] at hx
      have hyx : lt y x := by
        by_cases e : lt y x
        · exact e
        · exact absurd (lt_total hlt e) hx.1
      refine ⟨fun z hz => ?_, ins_srt x S h.2 hx.2⟩
      rcases (ins_mem x z S).1 hz with rfl | hz
      · exact hyx
      · exact h.1 z hz
theorem srt_filter (f : Dl → Bool) : ∀ S : List Dl, Srt S → Srt (S.filter f)
  | [], _ => trivial
  | y :: S, h => by
    rw [List.filter_cons]
    split
    · exact ⟨fun z hz => h.1 z (List.mem_filter.1 hz).1, srt_filter f S h.2⟩
    · exact srt_filter f S h.2
/-- Two in order that have the same are the same. -/
theorem srt_unique : ∀ S T : List Dl, Srt S → Srt T → S.Perm T → S = T
  | [], T, _, _, h => (List.nil_perm.1 h).symm ▸ rfl
  | x :: S, [], _, _, h => by simpa using h.length_eq
  | x :: S, y :: T, hS, hT, h => by
    have e : x = y := by
      have h1 : x ∈ y :: T := h.mem_iff.1 (List.mem_cons_self ..)
      have h2 : y ∈ x :: S := h.mem_iff.2 (List.mem_cons_self ..)
      rcases List.mem_cons.1 h1 with e | h1
      · exact e
      · rcases List.mem_cons.1 h2 with e | h2
        · exact e.symm
        · exact absurd (hS.1 y h2) (lt_asymm (hT.1 x h1))
    subst e
    rw [srt_unique S T hS.2 hT.2 (h.cons_inv)]
/-- The first of a heap is the first in order. -/
theorem Heap.head {L S : List Dl} {x : Dl} (h : Heap L.length L) (hp : L.Perm (x :: S)) (hs : Srt (x :: S)) : nt L 0 = x := by
  have hl := hp.length_eq
  have h0 : 0 < L.length := by rw [hl]; simp
  have h1 := hp.mem_iff.1 (nt_mem h0)
  rcases List.mem_cons.1 h1 with e | h1
  · exact e
  · obtain ⟨k, hk⟩ := List.getElem?_of_mem (hp.mem_iff.2 (List.mem_cons_self ..))
    have hkl := (List.getElem?_eq_some_iff.1 hk).1
    have := h.least k hkl
    rw [nt_get hkl] at hk
    injection hk with hk
    rw [hk] at this
    exact absurd (hs.1 _ h1) this
end Go.Proofs.Ytinbaepligploaa
