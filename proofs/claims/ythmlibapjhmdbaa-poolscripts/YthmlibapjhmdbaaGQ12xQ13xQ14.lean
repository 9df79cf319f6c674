/- A pool: Owners. -/
import Derived.Test.YthmlibapjhmdbaaShelf
namespace Go.Proofs
open Go.RowKit Go.Maps Go.Sort Go.Shelf


/-- slices.Sort's two contracts at this dump. -/
theorem Try.sortsA (m : Nat) : AnyZI.SortsIn Try.prog Try.sortedA_ren Fence.wide m :=
  ⟨fun blk off cap ss W hH hblk hsz => callsIn_wide.2 (AnyM.slices_Sort_int Try.sortA blk off cap ss W hH hblk hsz),
   fun p cap W => callsIn_wide.2 (AnyM.slices_Sort_int_none Try.sortA p cap W)⟩
end Go.Proofs
namespace Go.Proofs.Ythmlibapjhmdbaa
open Go.RowKit Go.Shelf Go.Maps Go.Sort

set_option maxRecDepth 100000 in
set_option maxHeartbeats 2000000 in
theorem owners_map {w : World} {p b k s q : Nat} (hb : Bk w p 67 #[.int .i64 s, .int .i64 q, .map (some b)]) (D0 : DataW Unit) (hown : w.ownsMap Try.prog 3 shE b k D0) (hmax : Maps.size D0 ≤ maxLen) (hbytes : Maps.size D0 * 8 ≤ 140737488355328) :
    Calls Try.prog 16 #[.pointer (some ⟨p, 0, none⟩)] w fun e w' => ∃ (v : Value) (ss : List Int), e = .returned v ∧ ss.Perm (intKeys D0) ∧
      w'.ownsRow w.heap.size 3 1 v ss.length ((ss.mergeSort (fun x y => decide (x ≤ y))).map encZ) ∧ (v = .slice none 0 0 ↔ ss = []) ∧ Below w.heap.size w w' := by
  have c2 := hb.cell 2 _ rfl
  refine (callsIn_wide (n := 6)).1 ?_
  have hbl := hown.lt
  have hseq : SeqGives Fence.wide 2 Try.prog 57 #[.pointer (some ⟨w.heap.size, 0, none⟩)] encZ (fun ss => ss.Perm (intKeys D0)) (Maps.size D0) (w.alloc (.cells #[.map (some b)] 65)) :=
    AnyZI.keys_gives (ρ := Try.keysA_ren) { Try.keysA with } Fence.wide _ trivial rfl (by omega) w.heap.size b k D0 _ (by simp) (by simp) (by
      obtain ⟨es, clock, hb, Ft, hs, hD⟩ := hown
      exact ⟨es, clock, (Below.heap_alloc _ _ b hbl).trans hb, Ft, hs, hD⟩)
  have cK : ∀ mb W, CallsIn Fence.wide 5 Try.prog 39 #[.map mb] W fun e w' => e = .returned (.func (.func 57) #[] #[.pointer (some ⟨W.heap.size, 0, none⟩)]) ∧ w' = W.alloc (.cells #[.map mb] 65) := fun mb W => AnyZI.keys_in Try.keysA Fence.wide 5 trivial rfl mb W
  have cS := AnyZI.sorted_in Try.sortedA Fence.wide 5 trivial trivial trivial trivial rfl (by omega) (Try.sortsA _) (enters_of Try.func56 (by kernel_rfl) rfl) 57 #[.pointer (some ⟨w.heap.size, 0, none⟩)] trivial (enters_of Try.func57 (by kernel_rfl) rfl) _ _ hmax hbytes _ hseq
  change CallsIn _ _ Try.prog 38 _ _ _ at cS
  have hfK : Fence.wide.fn 39 := trivial
  have hfS : Fence.wide.fn 38 := trivial
  refine callsIn_of_wp Try.func16 rfl trivial ?_ rfl
  simp only [Try.ntmps16, List.size_toArray, List.length_cons, List.length_nil, Nat.reduceAdd, Nat.reduceSub, Array.replicate_succ, Array.replicate_zero, List.push_toArray, List.append_toArray, List.nil_append, List.cons_append]
  gi_wp2_with (first
    | (gi_at_call 39; refine (cK _ _).mono ?_; rintro e w' ⟨rfl, rfl⟩)
    | (gi_at_call 38; refine cS.mono ?_; rintro e w' ⟨v, ss, rfl, hS, hrow, hnil, hb⟩))
  go_ret
  exact ⟨v, ss, rfl, hS, ownsRow_base_a hrow (by simp), hnil, ((Below.refl _ w).alloc (Nat.le_refl _) _).trans (hb.mono (by simp))⟩
end Go.Proofs.Ythmlibapjhmdbaa
/- A pool: what live asks, call by call. -/
namespace Go.Proofs.Ythmlibapjhmdbaa
open Go.RowKit Go.Shelf Go.Maps

theorem W4_small {n : Nat} (h : n < 18446744073709551616) : Mk.W4 [n, 0, 0, 0] := by
  refine ⟨rfl, fun i => ?_⟩
  match i with
  | 0 => simpa [Mk.nth] using h
  | 1 | 2 | 3 => simp [Mk.nth]
  | n + 4 => simp [Mk.nth]
/-- The free cores, by the masks that somebody has. -/
theorem freeM_of {all x : List Nat} {g : Int → Option Sh} (L : List (List Nat)) (h1 : ∀ n sh, g n = some sh → sh.m ∈ L) (h2 : ∀ m ∈ L, ∃ n sh, g n = some sh ∧ sh.m = m) (hx : Mk.W4 x) (hd : ∀ d, d < 256 → Mk.hasB x d = (Mk.hasB all d && L.all fun m => !Mk.hasB m d)) : freeM all g = x :=
  Mk.ext (freeM_W4 all g) hx fun d hlt => by
    rw [Bool.eq_iff_iff, freeM_has all g hlt, hd d hlt, Bool.and_eq_true, List.all_eq_true]
    constructor
    · rintro ⟨a, b⟩
      refine ⟨a, fun m hm => ?_⟩
      obtain ⟨n, sh, e1, e2⟩ := h2 m hm
      rw [← e2, b n sh e1]
      rfl
    · rintro ⟨a, b⟩
      refine ⟨a, fun n sh e => ?_⟩
      have := b sh.m (h1 n sh e)
      simpa using this
def C7 : Sh := ⟨[7, 0, 0, 0], false, W4_small (by decide)⟩
def C7t : Sh := ⟨[7, 0, 0, 0], true, W4_small (by decide)⟩
def C9 : Sh := ⟨[8, 0, 0, 0], true, W4_small (by decide)⟩
def G0 : Int → Option Sh := fun _ => Option.none
def G1 : Int → Option Sh := fun m => if m = 7 then some C7 else G0 m
def G2 : Int → Option Sh := fun m => if m = 7 then some C7t else G1 m
def G3 : Int → Option Sh := fun m => if m = 9 then some C9 else G2 m
def G4 : Int → Option Sh := fun m => if m = 7 then Option.none else G3 m
theorem all14 : Mk.ofL (List.range (1 * 4)) = [15, 0, 0, 0] := by decide
theorem lok14 : LOk 1 4 := ⟨by decide, by decide, by decide, by decide, by decide⟩
theorem fr0 : freeM [15, 0, 0, 0] G0 = [15, 0, 0, 0] := freeM_of [] (fun n sh e => by cases e) (fun m hm => by cases hm) (W4_small (by decide)) (by decide +kernel)
theorem fr1 : freeM [15, 0, 0, 0] G1 = [8, 0, 0, 0] := freeM_of [[7, 0, 0, 0]] (fun n sh e => by
    unfold G1 G0 at e
    split at e
    · injection e with e; rw [← e]; simp [C7]
    · cases e) (fun m hm => ⟨7, C7, rfl, by simp at hm; rw [hm]; rfl⟩) (W4_small (by decide)) (by decide +kernel)
theorem fr2 : freeM [15, 0, 0, 0] G2 = [8, 0, 0, 0] := freeM_of [[7, 0, 0, 0]] (fun n sh e => by
    unfold G2 G1 G0 at e
    split at e
    · injection e with e; rw [← e]; simp [C7t]
    · cases e) (fun m hm => ⟨7, C7t, rfl, by simp at hm; rw [hm]; rfl⟩) (W4_small (by decide)) (by decide +kernel)
theorem fr4 : freeM [15, 0, 0, 0] G4 = [7, 0, 0, 0] := freeM_of [[8, 0, 0, 0]] (fun n sh e => by
    unfold G4 G3 G2 G1 G0 at e
    split at e
    · cases e
    · next h7 =>
      split at e
      · injection e with e; rw [← e]; simp [C9]
      · cases e) (fun m hm => ⟨9, C9, rfl, by simp at hm; rw [hm]; rfl⟩) (W4_small (by decide)) (by decide +kernel)
theorem vs1 (n : Nat) : vs .u64 [n, 0, 0, 0] = #[.int .u64 n, .int .u64 0, .int .u64 0, .int .u64 0] := rfl
theorem free_at {g : Int → Option Sh} {x : Nat} (e : freeM [15, 0, 0, 0] g = [x, 0, 0, 0]) (p b k : Nat) (V : World) (h : PoolAt V p b k 1 4 g) : Calls Try.prog 13 #[.pointer (some ⟨p, 0, none⟩)] V fun e w' => e = .returned (.agg #[.int .u64 x, .int .u64 0, .int .u64 0, .int .u64 0]) ∧ Below V.heap.size V w' := by
  have := free_fix h lok14
  rw [all14, e, vs1] at this
  exact this
theorem own_yes {n : Int} (h0 : 0 ≤ n) (h1 : n ≤ 1099511627776) (V : World) : Calls Try.prog 45 #[.int .i64 n] V fun e w' => e = .returned (.bool true) ∧ V = w' := by
  have t : isOwn n = true := by simp [isOwn, h0, h1]
  have := isOwner_any n V
  rw [t] at this
  exact this
end Go.Proofs.Ythmlibapjhmdbaa
/- A pool: what live asks of cores and masks. -/
namespace Go.Proofs.Ythmlibapjhmdbaa
open Go.RowKit Go.Shelf Go.Maps

theorem dist14 : IsDist 0 84 1 4 id := .inl ⟨rfl, rfl, rfl⟩
theorem rk14 : ranks (wished [15, 0, 0, 0] id 4 3) 1 3 = [[7, 0, 0, 0]] := by decide
theorem few14 : (fr [8, 0, 0, 0] (upto id 4)).length < 2 * 1 := by decide
theorem enough14 : 1 * 3 ≤ (fr [15, 0, 0, 0] (upto id 4)).length := by decide
theorem assign7 (V : World) : Calls Try.prog 46 #[.agg #[.int .i64 1, .int .i64 4], .agg #[.int .u64 15, .int .u64 0, .int .u64 0, .int .u64 0, .int .i64 1, .int .i64 3, .int .i64 0]] V fun e w' => ∃ gm, e = .returned (.tuple #[.slice (some ⟨gm, 0, none⟩) 1 1, .int .i64 0]) ∧ V.heap.size ≤ gm ∧ Row .u64 40 w' gm [7, 0, 0, 0] ∧ Below V.heap.size V w' := by
  refine (assign_ok dist14 1 3 15 0 0 0 V lok14 ⟨by decide, by decide, by decide, by decide⟩ (W4_small (by decide)) enough14).mono ?_
  rintro e w' ⟨g, rfl, hg, hr, hb⟩
  rw [show ranks (wished [15, 0, 0, 0] id (1 * 4) (1 * 3)) 1 3 = [[7, 0, 0, 0]] from rk14] at hr
  exact ⟨g, rfl, hg, hr, hb⟩
theorem assign8 (V : World) : Calls Try.prog 46 #[.agg #[.int .i64 1, .int .i64 4], .agg #[.int .u64 8, .int .u64 0, .int .u64 0, .int .u64 0, .int .i64 2, .int .i64 1, .int .i64 0]] V fun e w' => e = .returned (.tuple #[.slice none 0 0, .int .i64 12]) ∧ Below V.heap.size V w' :=
  assign_few dist14 2 1 8 0 0 0 V lok14 ⟨by decide, by decide, by decide, by decide⟩ (W4_small (by decide)) few14
theorem union7 (V : World) (gm : Nat) (h : Row .u64 40 V gm [7, 0, 0, 0]) : Calls Try.prog 47 #[.slice (some ⟨gm, 0, none⟩) 1 1] V fun e w' => e = .returned (.agg #[.int .u64 7, .int .u64 0, .int .u64 0, .int .u64 0]) ∧ Below V.heap.size V w' := by
  have hw : Mk.W4 [7, 0, 0, 0] := W4_small (by decide)
  have hr : Row .u64 40 V gm ([[7, 0, 0, 0]] : List (List Nat)).flatten := h
  have := union_any gm 1 1 [[7, 0, 0, 0]] V (masks_row hr (fun m hm => by simp at hm; rw [hm]; rfl)) (fun m hm => by simp at hm; rw [hm]; exact hw) rfl (by decide)
  rw [show orAll [[7, 0, 0, 0]] = [7, 0, 0, 0] by decide, vs1] at this
  exact this
theorem minus12 (V : World) : Calls Try.prog 24 #[.agg #[.int .u64 12, .int .u64 0, .int .u64 0, .int .u64 0], .agg #[.int .u64 8, .int .u64 0, .int .u64 0, .int .u64 0]] V fun e w' => e = .returned (.agg #[.int .u64 4, .int .u64 0, .int .u64 0, .int .u64 0]) ∧ Below V.heap.size V w' := by
  have := minus_any [12, 0, 0, 0] [8, 0, 0, 0] V (W4_small (by decide)) (W4_small (by decide))
  rw [show zw andN [12, 0, 0, 0] [8, 0, 0, 0] = [4, 0, 0, 0] by decide, vs1, vs1, vs1] at this
  exact this
theorem minus8 (V : World) : Calls Try.prog 24 #[.agg #[.int .u64 8, .int .u64 0, .int .u64 0, .int .u64 0], .agg #[.int .u64 8, .int .u64 0, .int .u64 0, .int .u64 0]] V fun e w' => e = .returned (.agg #[.int .u64 0, .int .u64 0, .int .u64 0, .int .u64 0]) ∧ Below V.heap.size V w' := by
  have := minus_any [8, 0, 0, 0] [8, 0, 0, 0] V (W4_small (by decide)) (W4_small (by decide))
  rw [show zw andN [8, 0, 0, 0] [8, 0, 0, 0] = [0, 0, 0, 0] by decide, vs1, vs1] at this
  exact this
theorem empty_no {n : Nat} (hn : n ≠ 0) (V : World) : Calls Try.prog 48 #[.agg #[.int .u64 n, .int .u64 0, .int .u64 0, .int .u64 0]] V fun e w' => e = .returned (.bool false) ∧ Below V.heap.size V w' := by
  have := isEmpty_any n 0 0 0 V
  rw [show ((n : Int) == 0 && ((0 : Nat) : Int) == 0 && ((0 : Nat) : Int) == 0 && ((0 : Nat) : Int) == 0) = false by
    rw [show ((n : Int) == 0) = false by simpa using hn]; rfl] at this
  exact this
theorem empty_yes (V : World) : Calls Try.prog 48 #[.agg #[.int .u64 0, .int .u64 0, .int .u64 0, .int .u64 0]] V fun e w' => e = .returned (.bool true) ∧ Below V.heap.size V w' :=
  isEmpty_any 0 0 0 0 V
end Go.Proofs.Ythmlibapjhmdbaa
