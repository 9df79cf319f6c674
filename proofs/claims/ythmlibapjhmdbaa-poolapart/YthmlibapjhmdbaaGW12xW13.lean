/- Assign, where the numbers may be. -/
import Derived.Test.YthmlibapjhmdbaaGW9xW10xW11
import Derived.Laws.StructEq
import Derived.Laws.Tables
import Derived.Laws.Cover2
namespace Go.Proofs.Ythmlibapjhmdbaa
open Go.RowKit Go.Shelf

attribute [local go_sem] run_store_fn run_store_nilfn

/-- The masks of the ranks. -/
def ranks (zs : List Core) (r q : Nat) : List (List Nat) := (List.range r).map fun i => Mk.ofL (((zs.map (·.1)).drop (i * q)).take q)
/-- The first ones that are free, as many as are wished. -/
def wished (F : List Nat) (of : Nat → Nat) (N n : Nat) : List Core := (fr F (upto of N)).take n
/-- Masks laid into a block of their own. -/
def Lays (w : World) (ms : List (List Nat)) (r : Nat) (e : Ending) (w' : World) : Prop :=
  ∃ g, e = .returned (.tuple #[.slice (some ⟨g, 0, none⟩) r r, .int .i64 0]) ∧ w.heap.size ≤ g ∧ Row .u64 40 w' g ms.flatten ∧ Below w.heap.size w w'
def Few (w : World) (e : Ending) (w' : World) : Prop := e = .returned (.tuple #[.slice none 0 0, .int .i64 12]) ∧ Below w.heap.size w w'

theorem vs4 {m : List Nat} (h : m.length = 4) : vs .u64 m = #[.int .u64 (Mk.nth m 0 : Nat), .int .u64 (Mk.nth m 1 : Nat), .int .u64 (Mk.nth m 2 : Nat), .int .u64 (Mk.nth m 3 : Nat)] := by
  match m, h with
  | [_, _, _, _], _ => rfl
theorem cyc_inj {s p i j : Nat} (_hs : 1 ≤ s) (hi : i < s * p) (hj : j < s * p) (h : cyc s p i = cyc s p j) : i = j := by
  have hp : 0 < p := by rcases Nat.eq_zero_or_pos p with h0 | h0 <;> simp_all
  have key : ∀ {k}, k < s * p → cyc s p k / p = k % s ∧ cyc s p k % p = k / s := by
    intro k hk
    have hd : k / s < p := Nat.div_lt_of_lt_mul hk
    unfold cyc
    rw [Nat.mul_comm (k % s) p]
    exact ⟨by rw [Nat.mul_add_div hp, Nat.div_eq_of_lt hd]; rfl, by rw [Nat.mul_add_mod, Nat.mod_eq_of_lt hd]⟩
  have a := key hi
  have b := key hj
  rw [h] at a
  have e1 : i % s = j % s := a.1.symm.trans b.1
  have e2 : i / s = j / s := a.2.symm.trans b.2
  rw [← Nat.div_add_mod i s, ← Nat.div_add_mod j s, e1, e2]
theorem cyc_lt2 {s p k : Nat} (hs : 1 ≤ s) (hk : k < s * p) : cyc s p k < s * p := by
  have hd : k / s < p := Nat.div_lt_of_lt_mul hk
  exact cyc_lt s p (k / s) (k % s) (Nat.mod_lt _ hs) hd
/-- What a distribution tells: cores of the layout, none twice. -/
theorem dist_of {d : Int} {fid s p : Nat} {of : Nat → Nat} (hd : IsDist d fid s p of) (h : LOk s p) : (∀ k, k < s * p → of k < s * p) ∧ (∀ i j, i < s * p → j < s * p → of i = of j → i = j) := by
  rcases hd with ⟨_, _, rfl⟩ | ⟨_, _, rfl⟩
  · exact ⟨fun _ hk => hk, fun _ _ _ _ h => h⟩
  · exact ⟨fun _ hk => cyc_lt2 h.1 hk, fun _ _ hi hj e => cyc_inj h.1 hi hj e⟩
theorem upto_vals {of : Nat → Nat} {N : Nat} (h : ∀ k, k < N → of k < 256) : (upto of N).map (·.1) = (List.range N).map of := by
  unfold upto
  rw [List.map_map]
  apply List.map_congr_left
  intro k hk
  exact mkC_val (h k (List.mem_range.1 hk))
theorem dist_vals {d : Int} {fid s p : Nat} {of : Nat → Nat} (hd : IsDist d fid s p of) (h : LOk s p) : (upto of (s * p)).map (·.1) = (List.range (s * p)).map of :=
  upto_vals fun k hk => Nat.lt_of_lt_of_le ((dist_of hd h).1 k hk) h.2.2.2.2
theorem dist_nodup {d : Int} {fid s p : Nat} {of : Nat → Nat} (hd : IsDist d fid s p of) (h : LOk s p) : ((upto of (s * p)).map (·.1)).Nodup := by
  rw [dist_vals hd h]
  unfold List.Nodup
  rw [List.pairwise_map]
  refine List.Pairwise.imp_of_mem ?_ List.nodup_range
  intro i j hi hj hne e
  exact hne ((dist_of hd h).2 i j (List.mem_range.1 hi) (List.mem_range.1 hj) e)
theorem wished_nodup {d : Int} {fid s p : Nat} {of : Nat → Nat} (hd : IsDist d fid s p of) (h : LOk s p) (F : List Nat) (n : Nat) : ((wished F of (s * p) n).map (·.1)).Nodup :=
  (dist_nodup hd h).sublist (((List.take_sublist _ _).trans (List.filter_sublist)).map _)
theorem core_lt (zs : List Core) : ∀ x ∈ zs.map (·.1), x < 256 := by
  intro x hx
  obtain ⟨c, _, rfl⟩ := List.mem_map.1 hx
  exact c.2

/-- Of, of a part of a slice. -/
theorem of_part {zs : List Core} {base gz cap n lo q : Nat} {w : World} (hz : zs.length = n) (hrow : w.ownsRow base 3 1 (.slice (some ⟨gz, 0, none⟩) n cap) n (cv zs)) (hn : (zs.map (·.1)).Nodup) (hq : lo + q ≤ n) (hl : q ≤ 256) (c2 : Nat) :
    Calls Try.prog 61 #[.slice (some ⟨gz, lo, none⟩) q c2] w fun e w' => e = .returned (.tuple #[.agg #[.int .u64 (Mk.nth (Mk.ofL (((zs.map (·.1)).drop lo).take q)) 0 : Nat), .int .u64 (Mk.nth (Mk.ofL (((zs.map (·.1)).drop lo).take q)) 1 : Nat), .int .u64 (Mk.nth (Mk.ofL (((zs.map (·.1)).drop lo).take q)) 2 : Nat), .int .u64 (Mk.nth (Mk.ofL (((zs.map (·.1)).drop lo).take q)) 3 : Nat)], .int .i64 0]) ∧ Below w.heap.size w w' := by
  subst hz
  have hA := nats_of_own hrow lo q hq
  have hlen : (((zs.map (·.1)).drop lo).take q).length = q := by simp; omega
  have hsub : (((zs.map (·.1)).drop lo).take q).Sublist (zs.map (·.1)) := (List.take_sublist _ _).trans (List.drop_sublist _ _)
  have hx : ∀ x ∈ (((zs.map (·.1)).drop lo).take q), x < 256 := fun x hx => core_lt zs x (hsub.subset hx)
  have := of_ok (some ⟨gz, lo, none⟩) c2 _ w hA hx (hn.sublist hsub) (by rw [hlen]; unfold maxLen; omega)
  rw [hlen, vs4 (Mk.ofL_W4 hx).1] at this
  exact this
theorem own_lt {w : World} {base n g cap : Nat} {xs : List Value} (h : w.ownsRow base 3 1 (.slice (some ⟨g, 0, none⟩) n cap) n xs) : g < w.heap.size ∧ n ≤ cap := by
  rcases h.2 with ⟨h0, _⟩ | ⟨_, _, _, h1, _, h3, h2, _⟩
  · cases h0
  · cases h1; exact ⟨(Array.getElem?_eq_some_iff.1 h3).1, h2⟩
theorem own_far {w : World} {base n g cap : Nat} {xs : List Value} (h : w.ownsRow base 3 1 (.slice (some ⟨g, 0, none⟩) n cap) n xs) {a : Addr} (ha : g ≠ a.block) (u : Value) : (w.setCell a u).ownsRow base 3 1 (.slice (some ⟨g, 0, none⟩) n cap) n xs := by
  refine ⟨h.1, ?_⟩
  rcases h.2 with h0 | ⟨g', cap', cur, h1, h2, h3, h4⟩
  · exact .inl h0
  · cases h1
    exact .inr ⟨_, _, cur, rfl, h2, (heap_setCell_other w a g u ha).trans h3, h4⟩
theorem bk_far {w : World} {g : Nat} {t : TypeId} {cs : Array Value} (h : Bk w g t cs) {a : Addr} (ha : g ≠ a.block) (u : Value) : Bk (w.setCell a u) g t cs := (heap_setCell_other w a g u ha).trans h
theorem ranks_len (zs : List Core) (r q : Nat) : (ranks zs r q).length = r := by simp [ranks]
theorem ranks_get (zs : List Core) (r q k : Nat) (h : k < r) : (ranks zs r q)[k]? = some (Mk.ofL (((zs.map (·.1)).drop (k * q)).take q)) := by simp [ranks, h]
theorem ranks_W4 (zs : List Core) (r q : Nat) : ∀ m ∈ ranks zs r q, Mk.W4 m := by
  intro m hm
  obtain ⟨i, _, rfl⟩ := List.mem_map.1 hm
  exact Mk.ofL_W4 fun x hx => core_lt zs x ((List.take_sublist _ _).trans (List.drop_sublist _ _) |>.subset hx)
/-- What is laid behind k rounds. -/
def laid (ms : List (List Nat)) (r k : Nat) : List (List Nat) := ms.take k ++ List.replicate (r - k) Mk.zero
theorem laid_len {ms : List (List Nat)} {r k : Nat} (hm : ms.length = r) (hk : k ≤ r) : (laid ms r k).length = r := by simp [laid]; omega
theorem laid_all {ms : List (List Nat)} (h : ∀ m ∈ ms, Mk.W4 m) (r k : Nat) : All4 (laid ms r k) := by
  intro m hm
  rcases List.mem_append.1 hm with hm | hm
  · exact (h m (List.mem_of_mem_take hm)).1
  · obtain ⟨_, rfl⟩ := List.mem_replicate.1 hm
    rfl
theorem laid_set {ms : List (List Nat)} {r k : Nat} {m : List Nat} (hr : ms.length = r) (hk : k < r) (hm : ms[k]? = some m) (h4 : m.length = 4) : (laid ms r k).set k [Mk.nth m 0, Mk.nth m 1, Mk.nth m 2, Mk.nth m 3] = laid ms r (k + 1) := by
  rw [← Mk.len4 h4]
  unfold laid
  have hl : (ms.take k).length = k := by simp; omega
  rw [List.set_append_right _ _ (by omega), hl, Nat.sub_self, show r - k = (r - (k + 1)) + 1 by omega, List.replicate_succ, List.set_cons_zero]
  have hg : ms[k] = m := by rw [List.getElem?_eq_getElem (by omega)] at hm; exact Option.some.inj hm
  rw [List.take_succ_eq_append_getElem (by omega), hg]
  simp
theorem laid_done {ms : List (List Nat)} {r : Nat} (hr : ms.length = r) : laid ms r r = ms := by
  unfold laid; rw [Nat.sub_self, List.take_of_length_le (by omega)]; simp

theorem mul_le_8192 {r q : Nat} (h : ROk r q) : r * q ≤ 8192 := by
  have := Nat.mul_le_mul h.2.1 h.2.2.2; omega
theorem mul_pos' {r q : Nat} (h : ROk r q) : 1 ≤ r * q := Nat.mul_pos h.1 h.2.2.1

set_option maxRecDepth 100000 in
set_option maxHeartbeats 1000000 in
theorem assign_few {d : Int} {fid s p : Nat} {of : Nat → Nat} (hd : IsDist d fid s p of) (r q : Nat) (a b c e : Nat) (w : World) (h : LOk s p) (hr : ROk r q) (hw : Mk.W4 [a, b, c, e]) (hf : (fr [a, b, c, e] (upto of (s * p))).length < r * q) :
    Calls Try.prog 46 #[.agg #[.int .i64 s, .int .i64 p], .agg #[.int .u64 a, .int .u64 b, .int .u64 c, .int .u64 e, .int .i64 r, .int .i64 q, .int .i64 d]] w (Few w) := by
  have HD := Lib.hid hd
  have H := Lib.hid h
  have HR := Lib.hid hr
  have HW := Lib.hid hw
  have h1 := hr.1
  have h2 := hr.2.1
  have h3 := hr.2.2.1
  have h4 := hr.2.2.2
  have hN := mul_le_8192 hr
  have hP := mul_pos' hr
  have HZ : Hid (wished [a, b, c, e] of (s * p) (r * q) = fr [a, b, c, e] (upto of (s * p))) := by
    show _ = _
    unfold wished
    rw [List.take_of_length_le (by omega)]
  clear hd h hr hw
  have hb0 := ((Below.refl _ w).alloc (Nat.le_refl _) (.cells #[.int .i64 s, .int .i64 p] 28)).alloc (by simp) (.cells #[.int .u64 a, .int .u64 b, .int .u64 c, .int .u64 e, .int .i64 r, .int .i64 q, .int .i64 d] 61)
  have k1 : Bk ((w.alloc (.cells #[.int .i64 s, .int .i64 p] 28)).alloc (.cells #[.int .u64 a, .int .u64 b, .int .u64 c, .int .u64 e, .int .i64 r, .int .i64 q, .int .i64 d] 61)) (w.heap.size + 1) 61 #[.int .u64 a, .int .u64 b, .int .u64 c, .int .u64 e, .int .i64 r, .int .i64 q, .int .i64 d] := by
    have := Bk.new (w.alloc (.cells #[.int .i64 s, .int .i64 p] 28)) 61 #[.int .u64 a, .int .u64 b, .int .u64 c, .int .u64 e, .int .i64 r, .int .i64 q, .int .i64 d]
    rw [size_alloc] at this
    exact this
  obtain ⟨n, hn⟩ : ∃ n, n = r * q := ⟨_, rfl⟩
  have hmul : (r : Int) * (q : Int) = (n : Int) := by rw [hn]; simp
  rw [← hn] at hN hP hf HZ
  clear hn
  go_enter Try.func46, Try.ntmps46
  go_wp2_with fail
  refine (dist_any HD.out _ H.out).mono ?_
  rintro e2 w2 ⟨g, rfl, kg, hb2⟩
  replace hb0 := bmore hb0 hb2
  replace k1 := (k1.next hb2).alloc (.cells #[.func (.func fid) #[] #[.pointer (some ⟨g, 0, none⟩)]] 100)
  replace kg := kg.alloc (.cells #[.func (.func fid) #[] #[.pointer (some ⟨g, 0, none⟩)]] 100)
  clear hb2
  have c0 := k1.cell 0 _ rfl
  have c1 := k1.cell 1 _ rfl
  have c2 := k1.cell 2 _ rfl
  have c3 := k1.cell 3 _ rfl
  have c4 := k1.cell 4 _ rfl
  have c5 := k1.cell 5 _ rfl
  replace hb0 := hb0.alloc hb0.size (.cells #[.func (.func fid) #[] #[.pointer (some ⟨g, 0, none⟩)]] 100)
  go_wp2_with ((go_at_call 49; refine (within_yes _ _ _ (by omega) (by omega)).mono ?_); rintro e w' ⟨rfl, rfl⟩)
  refine (free_ok HD.out a b c e n _ H.out HW.out hN kg).mono ?_
  rintro e3 w3 ⟨v, rfl, hrow, hb3⟩
  rw [show (fr [a, b, c, e] (upto of (s * p))).take n = fr [a, b, c, e] (upto of (s * p)) from HZ.out] at hrow
  obtain ⟨A, cap, rfl⟩ := own_form hrow
  replace k1 := k1.next hb3
  replace hb0 := bmore hb0 hb3
  clear c0 c1 c2 c3 c4 c5 hb3 kg
  have c4 := k1.cell 4 _ rfl
  have c5 := k1.cell 5 _ rfl
  go_wp2_with fail
  go_ret2
  exact ⟨rfl, hb0⟩

set_option maxRecDepth 100000 in
set_option maxHeartbeats 1000000 in
theorem assign_ok {d : Int} {fid s p : Nat} {of : Nat → Nat} (hd : IsDist d fid s p of) (r q : Nat) (a b c e : Nat) (w : World) (h : LOk s p) (hr : ROk r q) (hw : Mk.W4 [a, b, c, e]) (hf : r * q ≤ (fr [a, b, c, e] (upto of (s * p))).length) :
    Calls Try.prog 46 #[.agg #[.int .i64 s, .int .i64 p], .agg #[.int .u64 a, .int .u64 b, .int .u64 c, .int .u64 e, .int .i64 r, .int .i64 q, .int .i64 d]] w (Lays w (ranks (wished [a, b, c, e] of (s * p) (r * q)) r q) r) := by
  have HD := Lib.hid hd
  have H := Lib.hid h
  have HR := Lib.hid hr
  have HW := Lib.hid hw
  have h1 := hr.1
  have h2 := hr.2.1
  have h3 := hr.2.2.1
  have h4 := hr.2.2.2
  have hN := mul_le_8192 hr
  have hP := mul_pos' hr
  have HU := Lib.hid (wished_nodup hd h [a, b, c, e] (r * q))
  have HZ : Hid ((wished [a, b, c, e] of (s * p) (r * q)).length = r * q) := by
    show _ = _
    unfold wished
    rw [List.length_take]; omega
  clear hd h hr hw
  have hb0 := ((Below.refl _ w).alloc (Nat.le_refl _) (.cells #[.int .i64 s, .int .i64 p] 28)).alloc (by simp) (.cells #[.int .u64 a, .int .u64 b, .int .u64 c, .int .u64 e, .int .i64 r, .int .i64 q, .int .i64 d] 61)
  have k1 : Bk ((w.alloc (.cells #[.int .i64 s, .int .i64 p] 28)).alloc (.cells #[.int .u64 a, .int .u64 b, .int .u64 c, .int .u64 e, .int .i64 r, .int .i64 q, .int .i64 d] 61)) (w.heap.size + 1) 61 #[.int .u64 a, .int .u64 b, .int .u64 c, .int .u64 e, .int .i64 r, .int .i64 q, .int .i64 d] := by
    have := Bk.new (w.alloc (.cells #[.int .i64 s, .int .i64 p] 28)) 61 #[.int .u64 a, .int .u64 b, .int .u64 c, .int .u64 e, .int .i64 r, .int .i64 q, .int .i64 d]
    rw [size_alloc] at this
    exact this
  obtain ⟨n, hn⟩ : ∃ n, n = r * q := ⟨_, rfl⟩
  have hmul : (r : Int) * (q : Int) = (n : Int) := by rw [hn]; simp
  have HN := Lib.hid hn
  rw [← hn] at hN hP hf HZ HU
  rw [← hn]
  clear hn hf
  go_enter Try.func46, Try.ntmps46
  go_wp2_with fail
  refine (dist_any HD.out _ H.out).mono ?_
  rintro e2 w2 ⟨g, rfl, kg, hb2⟩
  replace hb0 := bmore hb0 hb2
  replace k1 := (k1.next hb2).alloc (.cells #[.func (.func fid) #[] #[.pointer (some ⟨g, 0, none⟩)]] 100)
  replace kg := kg.alloc (.cells #[.func (.func fid) #[] #[.pointer (some ⟨g, 0, none⟩)]] 100)
  clear hb2
  have c0 := k1.cell 0 _ rfl
  have c1 := k1.cell 1 _ rfl
  have c2 := k1.cell 2 _ rfl
  have c3 := k1.cell 3 _ rfl
  have c4 := k1.cell 4 _ rfl
  have c5 := k1.cell 5 _ rfl
  replace hb0 := hb0.alloc hb0.size (.cells #[.func (.func fid) #[] #[.pointer (some ⟨g, 0, none⟩)]] 100)
  go_wp2_with ((go_at_call 49; refine (within_yes _ _ _ (by omega) (by omega)).mono ?_); rintro e w' ⟨rfl, rfl⟩)
  refine (free_ok HD.out a b c e n _ H.out HW.out hN kg).mono ?_
  rintro e3 w3 ⟨v, rfl, hrow, hb3⟩
  change w3.ownsRow _ 3 1 v (wished [a, b, c, e] of (s * p) n).length (cv (wished [a, b, c, e] of (s * p) n)) at hrow
  generalize wished [a, b, c, e] of (s * p) n = zs at *
  obtain ⟨gz, cap, rfl⟩ : ∃ g cap, v = .slice (some ⟨g, 0, none⟩) zs.length cap := by
    rcases Joins.ownsRow_forms hrow with ⟨_, h0⟩ | h0
    · rw [HZ.out] at h0; omega
    · exact h0
  have hbs := hb0.size
  replace k1 := k1.next hb3
  replace hb0 := bmore hb0 hb3
  clear c0 c1 c2 c3 c4 c5 hb3 kg
  have c4 := k1.cell 4 _ rfl
  have c5 := k1.cell 5 _ rfl
  rw [HZ.out]
  have hbq : decide (n < n) = false := by simp
  go_wp2_with (refine make4 rfl _ _ 57 rfl 40 Try.underlying57 infoM .i64 .i64 r rfl rfl (by omega) ?_; intro w4 hw4)
  have hl1 := k1.lt
  have r4 : Row .u64 40 w4 w3.heap.size (laid (ranks zs r q) r 0).flatten := Row.hidNew hw4
  have h34 : Below w3.heap.size w3 w4 := by rw [hw4.out]; exact (Below.refl _ _).alloc (Nat.le_refl _) _
  rw [HZ.out] at hrow
  have hgz := (own_lt hrow).1
  have hcap := (own_lt hrow).2
  replace hrow := Joins.ownsRow_le (own_next hrow h34) hbs
  replace k1 := k1.next h34
  replace hb0 := bmore hb0 h34
  have hg3 : w.heap.size ≤ w3.heap.size := by omega
  clear hw4 c4 c5 hbq h34
  go_loopw [53] (fun i wr => ∃ k : Nat, k ≤ r ∧ i = .int .i64 k ∧ Row .u64 40 wr w3.heap.size (laid (ranks zs r q) r k).flatten ∧ Bk wr (w.heap.size + 1) 61 #[.int .u64 a, .int .u64 b, .int .u64 c, .int .u64 e, .int .i64 r, .int .i64 q, .int .i64 d] ∧ wr.ownsRow w.heap.size 3 1 (.slice (some ⟨gz, 0, none⟩) n cap) n (cv zs) ∧ Below w.heap.size w wr)
    (fun i _ => r - (intOf i).toNat)
  case atStart => exact ⟨0, Nat.zero_le _, rfl, r4, k1, hrow, hb0⟩
  case round =>
    clear r4 k1 hrow hb0
    obtain ⟨k, hk, rfl, r4, k1, hrow, hb0⟩ := hrel
    by_cases hlt : k < r
    · have c5 := k1.cell 5 _ rfl
      obtain ⟨lo, hlo⟩ : ∃ lo, lo = k * q := ⟨_, rfl⟩
      have hm1 : (k : Int) * (q : Int) = (lo : Int) := by rw [hlo]; simp
      have hm2 : ((k : Int) + 1) * (q : Int) = (lo : Int) + q := by rw [Int.add_mul, hm1]; simp
      have hlq : lo + q ≤ n := by
        have h5 : (k + 1) * q ≤ r * q := Nat.mul_le_mul_right q hlt
        rw [Nat.add_mul, Nat.one_mul, ← hlo, ← HN.out] at h5
        exact h5
      have HLO := Lib.hid hlo
      clear hlo
      go_wp2_with fail
      refine (of_part HZ.out hrow HU.out hlq h4 _).mono ?_
      rintro e5 w5 ⟨rfl, hb5⟩
      replace r4 := r4.next hb5
      replace k1 := k1.next hb5
      replace hrow := own_next hrow hb5
      replace hb0 := bmore hb0 hb5
      clear hb5 c5 hm1 hm2
      have HM : Hid ((ranks zs r q)[k]? = some (Mk.ofL (((zs.map (·.1)).drop lo).take q))) := by
        show _ = _
        rw [ranks_get zs r q k hlt, HLO.out]
      have H4 := Lib.hid (ranks_W4 zs r q _ (List.mem_of_getElem? HM.out)).1
      generalize Mk.ofL (((zs.map (·.1)).drop lo).take q) = m at *
      have HLL := Lib.hid (laid_len (ranks_len zs r q) hk)
      have HLA := Lib.hid (laid_all (ranks_W4 zs r q) r k)
      have hfl : k * 4 + 3 < (laid (ranks zs r q) r k).flatten.length := by rw [flat_len HLA.out, HLL.out]; omega
      have d0 := r4.cell (k * 4) (by omega)
      have d1 := r4.cell (k * 4 + 1) (by omega)
      have d2 := r4.cell (k * 4 + 2) (by omega)
      have d3 := r4.cell (k * 4 + 3) (by omega)
      have f0 := r4.frozen (k * 4)
      have f1 := r4.frozen (k * 4 + 1)
      have f2 := r4.frozen (k * 4 + 2)
      have f3 := r4.frozen (k * 4 + 3)
      have HFL := Lib.hid hfl
      clear hfl
      go_wp2_with fail
      go_roundw
      case rel =>
        refine ⟨k + 1, by omega, by go_num, ?_, bk_far (bk_far (bk_far (bk_far k1 (by simp; omega) _) (by simp; omega) _) (by simp; omega) _) (by simp; omega) _, own_far (own_far (own_far (own_far hrow (by simp; omega) _) (by simp; omega) _) (by simp; omega) _) (by simp; omega) _, (((hb0.setCell hg3 _).setCell hg3 _).setCell hg3 _).setCell hg3 _⟩
        have h9 := (((r4.set (k * 4) (Mk.nth m 0)).set (k * 4 + 1) (Mk.nth m 1)).set (k * 4 + 2) (Mk.nth m 2)).set (k * 4 + 3) (Mk.nth m 3)
        rw [flat_set HLA.out (by rw [HLL.out]; exact hlt), laid_set (ranks_len zs r q) hlt HM.out H4.out] at h9
        exact h9
      case measure => simp [intOf]; omega
    · obtain rfl : k = r := by omega
      rw [laid_done (ranks_len zs k q)] at r4
      go_wp2_with fail
      go_ret2
      exact ⟨w3.heap.size, rfl, hg3, r4, hb0⟩
end Go.Proofs.Ythmlibapjhmdbaa
/- Same; the document's examples. -/
namespace Go.Proofs.Ythmlibapjhmdbaa
open Go.RowKit Go.Shelf

theorem below_drewN' {B : Nat} {a w : World} (h : Below B a w) (n : Nat) : Below B a (w.drewN n) := ⟨h.os, h.tape, h.output, h.size, h.block⟩
set_option maxRecDepth 100000 in
set_option maxHeartbeats 400000 in
theorem same_eq (A B : Option Addr) (ca cb n : Nat) (xs : List Nat) (w : World) (hA : NatsAt w w.heap.size A xs) (hB : NatsAt w w.heap.size B xs) (hn : xs.length = n) (hl : n ≤ 65536) :
    Calls Try.prog 15 #[.slice A n ca, .slice B n cb] w fun e w' => e = .returned (.bool true) ∧ Below w.heap.size w w' := by
  have HN := Lib.hid hn
  clear hn
  go_enter Try.func15, Try.ntmps15
  go_wp2_with fail
  go_loopw [5] (fun i wr => ∃ k : Nat, k ≤ n ∧ i = .int .i64 k ∧ Below w.heap.size w wr)
    (fun i _ => n - (intOf i).toNat)
  case atStart => exact ⟨0, Nat.zero_le _, rfl, Below.refl _ _⟩
  case round =>
    obtain ⟨k, hk, rfl, hb⟩ := hrel
    by_cases hlt : k < n
    · obtain ⟨a, rfl, _, ha⟩ := (hA.below hb).at_ (k := k) (by rw [HN.out]; exact hlt)
      obtain ⟨b, rfl, _, hbb⟩ := (hB.below hb).at_ (k := k) (by rw [HN.out]; exact hlt)
      have i0 : (0 : Int) ≤ (k : Int) := by omega
      have i1 : (k : Int) < (n : Int) := by omega
      go_wp2_with fail
      go_quiet (fail)
      go_wp2_with fail
      go_roundw
      case rel => exact ⟨k + 1, by omega, by go_num, below_drewN' hb _⟩
      case measure => simp [intOf]; omega
    · obtain rfl : k = n := by omega
      go_wp2_with fail
      go_ret
      exact ⟨rfl, hb⟩

set_option maxHeartbeats 1000000 in
theorem eq33 (a b c d a' b' c' d' : Int) (w : World) : (Op.equalIn 10000 40 (.agg #[.int .u64 a, .int .u64 b, .int .u64 c, .int .u64 d]) (.agg #[.int .u64 a', .int .u64 b', .int .u64 c', .int .u64 d'])).run Try.prog w = .ok (a == a' && b == b' && c == c' && d == d') w := by
  have u3 := Try.underlying33
  have a3 := Try.isAgg33
  have z3 := Try.sizeOf33
  rw [show (10000 : Nat) = 9999 + 1 from rfl, Op.equalIn]
  simp only [Sem.run_bind, run_underlying Try.underlying40, Result.andThen_ok]
  simp only [Std.Legacy.Range.forIn_eq_forIn_range', Std.Legacy.Range.size, Nat.sub_zero, Nat.add_sub_cancel, Nat.div_one, List.range'_succ, List.range'_zero, List.forIn_cons, List.forIn_nil]
  go_simp
  by_cases h1 : a = a' <;> by_cases h2 : b = b' <;> by_cases h3 : c = c' <;> by_cases h4 : d = d' <;> simp [h1, h2, h3, h4]
set_option maxHeartbeats 1000000 in
theorem eq40 (a b c d a' b' c' d' : Int) (w : World) : (Op.equalIn 10000 35 (.agg #[.int .u64 a, .int .u64 b, .int .u64 c, .int .u64 d]) (.agg #[.int .u64 a', .int .u64 b', .int .u64 c', .int .u64 d'])).run Try.prog w = .ok (a == a' && b == b' && c == c' && d == d') w := by
  have u3 := Try.underlying33
  have a3 := Try.isAgg33
  have z3 := Try.sizeOf33
  rw [show (10000 : Nat) = 9999 + 1 from rfl, Op.equalIn]
  simp only [Sem.run_bind, run_underlying Try.underlying35, Result.andThen_ok]
  simp only [Std.Legacy.Range.forIn_eq_forIn_range', Std.Legacy.Range.size, Nat.sub_zero, Nat.add_sub_cancel, Nat.div_one, List.range'_succ, List.range'_zero, List.forIn_cons, List.forIn_nil]
  go_simp
  by_cases h1 : a = a' <;> by_cases h2 : b = b' <;> by_cases h3 : c = c' <;> by_cases h4 : d = d' <;> simp [h1, h2, h3, h4]
attribute [local go_sem] eq33 eq40

theorem dist1 : IsDist 1 85 2 2 (cyc 2 2) := .inr ⟨rfl, rfl, rfl⟩
theorem dist0 : IsDist 0 84 2 2 id := .inl ⟨rfl, rfl, rfl⟩
theorem lok22 : LOk 2 2 := ⟨by decide, by decide, by decide, by decide, by decide⟩
theorem w13 : Mk.W4 [13, 0, 0, 0] := by
  refine ⟨rfl, fun i => ?_⟩
  match i with
  | 0 | 1 | 2 | 3 => decide
  | n + 4 => simp [Mk.nth]
theorem ord22 : (upto (cyc 2 2) 4).map (·.1) = [0, 2, 1, 3] := by decide
theorem rk22 : ranks (wished [13, 0, 0, 0] (cyc 2 2) 4 2) 1 2 = [[5, 0, 0, 0]] := by decide
theorem few22 : (fr [13, 0, 0, 0] (upto id 4)).length < 2 * 2 := by decide
theorem enough22 : 1 * 2 ≤ (fr [13, 0, 0, 0] (upto (cyc 2 2) 4)).length := by decide
theorem all22 : vs .u64 (Mk.ofL (List.range (2 * 2))) = #[.int .u64 15, .int .u64 0, .int .u64 0, .int .u64 0] := by
  rw [show Mk.ofL (List.range (2 * 2)) = [15, 0, 0, 0] by decide]; rfl

/-- One mask, laid. -/
def One (w : World) (m : List Nat) (e : Ending) (w' : World) : Prop :=
  ∃ g, e = .returned (.tuple #[.slice (some ⟨g, 0, none⟩) 1 1, .int .i64 0]) ∧ Row .u64 40 w' g m ∧ Below w.heap.size w w'
theorem live_assign (w : World) : Calls Try.prog 46 #[.agg #[.int .i64 2, .int .i64 2], .agg #[.int .u64 13, .int .u64 0, .int .u64 0, .int .u64 0, .int .i64 1, .int .i64 2, .int .i64 1]] w (One w [5, 0, 0, 0]) := by
  refine (assign_ok dist1 1 2 13 0 0 0 w lok22 ⟨by decide, by decide, by decide, by decide⟩ w13 enough22).mono ?_
  rintro e w' ⟨g, rfl, _, hr, hb⟩
  rw [show ranks (wished [13, 0, 0, 0] (cyc 2 2) (2 * 2) (1 * 2)) 1 2 = [[5, 0, 0, 0]] from rk22] at hr
  exact ⟨g, rfl, hr, hb⟩
theorem live_few (w : World) : Calls Try.prog 46 #[.agg #[.int .i64 2, .int .i64 2], .agg #[.int .u64 13, .int .u64 0, .int .u64 0, .int .u64 0, .int .i64 2, .int .i64 2, .int .i64 0]] w fun e w' => e = .returned (.tuple #[.slice none 0 0, .int .i64 12]) ∧ Below w.heap.size w w' :=
  assign_few dist0 2 2 13 0 0 0 w lok22 ⟨by decide, by decide, by decide, by decide⟩ w13 few22
theorem live_check (w : World) : Calls Try.prog 29 #[.agg #[.int .i64 8, .int .i64 40]] w fun e w' => e = .returned (.int .i64 1) ∧ Below w.heap.size w w' :=
  check_bad 8 40 w (by unfold LBad; omega)
theorem live_all (w : World) : Calls Try.prog 23 #[.agg #[.int .i64 2, .int .i64 2]] w fun e w' => e = .returned (.agg #[.int .u64 15, .int .u64 0, .int .u64 0, .int .u64 0]) ∧ Below w.heap.size w w' := by
  have := call_ok 2 2 w lok22
  rw [all22] at this
  exact this
end Go.Proofs.Ythmlibapjhmdbaa
