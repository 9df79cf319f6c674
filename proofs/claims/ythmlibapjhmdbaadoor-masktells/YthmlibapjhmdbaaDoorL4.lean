/- The law MaskTells answers true. -/
import Derived.Test.YthmlibapjhmdbaaDoorW29
namespace Go.Proofs.YthmlibapjhmdbaaDoor
open Go.RowKit Go.Shelf

theorem IntsAt.below {w w' : World} {B : Nat} {A : Option Addr} {zs : List Int} (h : IntsAt w B A zs) (hb : Below B w w') : IntsAt w' B A zs := by
  rcases h with h | ⟨ad, e, hl, hc⟩
  · exact .inl h
  · exact .inr ⟨ad, e, hl, fun j hj => (hb.cell (by rw [block_add]; exact hl)).trans (hc j hj)⟩
theorem IntsAt.more {w : World} {B B' : Nat} {A : Option Addr} {zs : List Int} (h : IntsAt w B A zs) (hB : B ≤ B') : IntsAt w B' A zs := by
  rcases h with h | ⟨ad, e, hl, hc⟩
  · exact .inl h
  · exact .inr ⟨ad, e, by omega, hc⟩
/-- What Of tells of any ints. -/
theorem of_any (A : Option Addr) (cap n : Nat) (zs : List Int) (w : World) (hz : IntsAt w w.heap.size A zs) (hn : zs.length = n) (hc : n ≤ cap) (hl : n ≤ 300) :
    ∃ (a0 a1 a2 a3 : Nat) (e : Int), ∀ V : World, Below w.heap.size w V →
      Calls Tryd.prog 11 #[.slice A n cap] V (fun x w' => x = .returned (.tuple #[.agg #[.int .u64 a0, .int .u64 a1, .int .u64 a2, .int .u64 a3], .int .i64 e]) ∧ Below V.heap.size V w') ∧
      Calls Tryd.prog 12 #[.slice A n cap] V (fun x w' => x = .returned (.tuple #[.agg #[.int .u64 a0, .int .u64 a1, .int .u64 a2, .int .u64 a3], .int .i64 e]) ∧ Below V.heap.size V w') := by
  rcases good_or zs zs.length (Nat.le_refl _) with hg | ⟨p, hp, hg, hd⟩
  · have hN := fun V (hb : Below w.heap.size w V) => ((hz.below hb).more hb.size).nats hg
    rw [List.take_length] at hg
    simp only [List.take_length] at hN
    have hW := Mk.ofL_W4 (toN_lt hg)
    obtain ⟨a0, a1, a2, a3, ha⟩ := hW.four
    refine ⟨a0, a1, a2, a3, 0, fun V hb => ⟨?_, ?_⟩⟩
    · have := of_ok A cap (toN zs) V (hN V hb) (toN_lt hg) (toN_nodup hg) (by rw [toN_len]; unfold maxLen; omega)
      rw [ha, toN_len, hn] at this
      exact this
    · have := rOf_ok A cap n (toN zs) V (hN V hb) (toN_lt hg) (toN_nodup hg) (by rw [toN_len]; exact hn) hl hc
      rw [ha] at this
      exact this
  · have hN := fun V (hb : Below w.heap.size w V) => ((hz.below hb).more hb.size).nats hg
    have hlen : (toN (zs.take p)).length = p := by rw [toN_len, List.length_take]; omega
    rcases hz with rfl | ⟨ad, rfl, hbl, hcl⟩
    · simp at hp
    · have hcell := fun V (hb : Below w.heap.size w V) => (hb.cell (p := ad.add p) (by rw [block_add]; exact hbl)).trans (hcl p hp)
      generalize zs.getD p 0 = z at *
      have hd' : z < 0 ∨ 256 ≤ z ∨ ∃ c : Nat, z = c ∧ c < 256 ∧ c ∈ toN (zs.take p) := by
        rcases hd with h | h | ⟨h1, h2, h3⟩
        · exact .inl h
        · exact .inr (.inl h)
        · exact .inr (.inr ⟨z.toNat, by omega, by omega, (toN_mem hg h1).2 h3⟩)
      refine ⟨0, 0, 0, 0, 1, fun V hb => ⟨?_, ?_⟩⟩
      · exact of_bad ad cap p n z _ V (hN V hb) (Nat.lt_of_lt_of_le hbl hb.size) (hcell V hb) (toN_lt hg) (toN_nodup hg) (by unfold maxLen; omega) (by omega) hlen hd'
      · exact rOf_bad ad cap p n z _ V (hN V hb) (Nat.lt_of_lt_of_le hbl hb.size) (hcell V hb) (toN_lt hg) (toN_nodup hg) hl hc (by omega) hlen hd'
theorem all_any (c : Int) : ∃ (d0 d1 d2 d3 : Nat) (e : Int), ∀ V : World,
      Calls Tryd.prog 13 #[.int .i64 c] V (fun x w' => x = .returned (.tuple #[.agg #[.int .u64 d0, .int .u64 d1, .int .u64 d2, .int .u64 d3], .int .i64 e]) ∧ Below V.heap.size V w') ∧
      Calls Tryd.prog 14 #[.int .i64 c] V (fun x w' => x = .returned (.tuple #[.agg #[.int .u64 d0, .int .u64 d1, .int .u64 d2, .int .u64 d3], .int .i64 e]) ∧ Below V.heap.size V w') := by
  by_cases h : c < 0 ∨ 256 < c
  · exact ⟨0, 0, 0, 0, 1, fun V => ⟨maskAll_bad c V h, rAll_bad c V h⟩⟩
  · obtain ⟨k, rfl⟩ := Int.eq_ofNat_of_zero_le (show 0 ≤ c by omega)
    have hk : k ≤ 256 := by omega
    obtain ⟨a0, a1, a2, a3, ha⟩ := (range_W4 hk).four
    refine ⟨a0, a1, a2, a3, 0, fun V => ⟨?_, ?_⟩⟩
    · have := maskAll_ok k V hk
      rw [ha] at this
      exact this
    · have := rAll_ok k V hk
      rw [ha] at this
      exact this
theorem has_any (x0 x1 x2 x3 : Nat) (hx : Mk.W4 [x0, x1, x2, x3]) (c : Int) : ∃ b : Bool, ∀ V : World,
      Calls Tryd.prog 19 #[.agg #[.int .u64 x0, .int .u64 x1, .int .u64 x2, .int .u64 x3], .int .i64 c] V (fun x w' => x = .returned (.bool b) ∧ Below V.heap.size V w') ∧
      Calls Tryd.prog 20 #[.agg #[.int .u64 x0, .int .u64 x1, .int .u64 x2, .int .u64 x3], .int .i64 c] V (fun x w' => x = .returned (.bool b) ∧ Below V.heap.size V w') := by
  by_cases h : c < 0 ∨ 256 ≤ c
  · exact ⟨false, fun V => ⟨has_no [x0, x1, x2, x3] c V h, rHas_no [x0, x1, x2, x3] c V h⟩⟩
  · obtain ⟨k, rfl⟩ := Int.eq_ofNat_of_zero_le (show 0 ≤ c by omega)
    exact ⟨_, fun V => ⟨has_in [x0, x1, x2, x3] k V hx (by omega), rHas_in [x0, x1, x2, x3] k V hx (by omega)⟩⟩
theorem maskTells_any (x0 x1 x2 x3 : Nat) (A : Option Addr) (n cap : Nat) (zs : List Int) (c : Int) (w : World) (G : Glob w) (hx : Mk.W4 [x0, x1, x2, x3]) (hz : IntsAt w w.heap.size A zs) (hn : zs.length = n) (hc : n ≤ cap) :
    Calls Tryd.prog 3 #[.agg #[.int .u64 x0, .int .u64 x1, .int .u64 x2, .int .u64 x3], .slice A n cap, .int .i64 c] w fun e w' => e = .returned (.bool true) ∧ Below w.heap.size w w' := by
  by_cases hl : n ≤ 300
  · obtain ⟨a0, a1, a2, a3, e0, h1⟩ := of_any A cap n zs w hz hn hc hl
    obtain ⟨d0, d1, d2, d3, e1, h2⟩ := all_any c
    obtain ⟨b, h3⟩ := has_any x0 x1 x2 x3 hx c
    exact maskTells_walk x0 x1 x2 x3 a0 a1 a2 a3 d0 d1 d2 d3 n cap (S [x0, x1, x2, x3]).length (S [x0, x1, x2, x3]) c e0 e1 b A w G hl rfl (by rw [S_cnt]; exact cnt_le _)
      (fun V hb => (h1 V hb).1) (fun V hb => (h1 V hb).2) (fun V => (h2 V).1) (fun V => (h2 V).2)
      (fun V => (rList_any x0 x1 x2 x3 V hx).mono fun e w' ⟨B, cb, h, _, hN, hb⟩ => ⟨B, cb, h, hN, hb⟩) (fun V G => list_nats x0 x1 x2 x3 V hx G)
      (fun V => by have := mcount_any [x0, x1, x2, x3] V hx; rw [← S_cnt] at this; exact this) (fun V => (h3 V).1) (fun V => (h3 V).2) (fun V G => live_any V G)
  · exact maskTells_long x0 x1 x2 x3 n cap c A w G (by omega) (fun V G => live_any V G)
end Go.Proofs.YthmlibapjhmdbaaDoor
