/- Of, and the document's, of any ints. -/
import Derived.Test.YtjolkcomlindhaaMW4
namespace Go.Proofs.Ytjolkcomlindhaa.Mo
open Go.RowKit

/-- A slice of ints, as its numbers. -/
def IntsAt (w : World) (B : Nat) (A : Option Addr) (zs : List Int) : Prop := zs = [] ∨ ∃ ad, A = some ad ∧ ad.block < B ∧ ∀ j, j < zs.length → w.cell? (ad.add j) = some (.int .i64 (zs.getD j 0))
def Good (zs : List Int) : Prop := (∀ z ∈ zs, 0 ≤ z ∧ z < 256) ∧ zs.Nodup
def toN (zs : List Int) : List Nat := zs.map Int.toNat
theorem toN_len (zs : List Int) : (toN zs).length = zs.length := by simp [toN]
theorem toN_lt {zs : List Int} (h : Good zs) : ∀ x ∈ toN zs, x < 256 := by
  intro x hx
  obtain ⟨z, hz, rfl⟩ := List.mem_map.1 hx
  have := h.1 z hz
  omega
theorem toN_nodup {zs : List Int} (h : Good zs) : (toN zs).Nodup := by
  unfold toN
  rw [List.nodup_iff_pairwise_ne, List.pairwise_map]
  refine (List.nodup_iff_pairwise_ne.1 h.2).imp_of_mem ?_
  intro a b ha hb hab e
  have h1 := h.1 a ha
  have h2 := h.1 b hb
  omega
theorem toN_mem {zs : List Int} (h : Good zs) {z : Int} (h0 : 0 ≤ z) : z.toNat ∈ toN zs ↔ z ∈ zs := by
  unfold toN
  rw [List.mem_map]
  constructor
  · rintro ⟨y, hy, e⟩
    have := h.1 y hy
    obtain rfl : y = z := by omega
    exact hy
  · exact fun hz => ⟨z, hz, rfl⟩
theorem IntsAt.nats {w : World} {B : Nat} {A : Option Addr} {zs : List Int} (h : IntsAt w B A zs) {p : Nat} (hg : Good (zs.take p)) : NatsAt w B A (toN (zs.take p)) := by
  rcases h with rfl | ⟨ad, rfl, hb, hc⟩
  · exact .inl (by simp [toN])
  · refine .inr ⟨ad, rfl, hb, fun j hj => ?_⟩
    rw [toN_len, List.length_take] at hj
    rw [hc j (by omega)]
    have hj2 : j < (zs.take p).length := by rw [List.length_take]; omega
    have e1 : (zs.take p)[j] = zs.getD j 0 := by
      rw [List.getElem_take]
      simp [List.getD, (by omega : j < zs.length)]
    have hm : zs.getD j 0 ∈ zs.take p := by rw [← e1]; exact List.getElem_mem _
    have h2 := hg.1 _ hm
    have e2 : Mk.nth (toN (zs.take p)) j = (zs.getD j 0).toNat := by
      rw [Mk.nth_getElem?, toN, List.getElem?_map, List.getElem?_eq_getElem hj2, e1]
      rfl
    rw [e2]
    congr 2
    omega
theorem good_or (zs : List Int) : ∀ k, k ≤ zs.length → Good (zs.take k) ∨ ∃ p, p < k ∧ Good (zs.take p) ∧ (zs.getD p 0 < 0 ∨ 256 ≤ zs.getD p 0 ∨ (0 ≤ zs.getD p 0 ∧ zs.getD p 0 < 256 ∧ zs.getD p 0 ∈ zs.take p))
  | 0, _ => .inl ⟨by simp, by simp⟩
  | k + 1, hk => by
    rcases good_or zs k (by omega) with h | ⟨p, h1, h2, h3⟩
    · have e : zs.take (k + 1) = zs.take k ++ [zs.getD k 0] := by
        rw [List.take_add_one]
        simp [List.getD, (by omega : k < zs.length)]
      by_cases b1 : zs.getD k 0 < 0
      · exact .inr ⟨k, by omega, h, .inl b1⟩
      · by_cases b2 : 256 ≤ zs.getD k 0
        · exact .inr ⟨k, by omega, h, .inr (.inl b2)⟩
        · by_cases b3 : zs.getD k 0 ∈ zs.take k
          · exact .inr ⟨k, by omega, h, .inr (.inr ⟨by omega, by omega, b3⟩)⟩
          · refine .inl ⟨?_, ?_⟩
            · intro z hz
              rw [e, List.mem_append] at hz
              rcases hz with hz | hz
              · exact h.1 z hz
              · rw [List.mem_singleton] at hz
                subst hz
                omega
            · rw [e, List.nodup_append]
              refine ⟨h.2, by simp, fun a ha b hb => ?_⟩
              rw [List.mem_singleton] at hb
              subst hb
              rintro rfl
              exact b3 ha
    · exact .inr ⟨p, by omega, h2, h3⟩
theorem natsIn {w : World} {A : Option Addr} {xs : List Nat} (h : NatsAt w w.heap.size A xs) (i : In w.heap.size w) : NatsAt i.val i.val.heap.size A xs := (h.below i.ok).more i.ok.size

set_option maxRecDepth 100000 in
set_option maxHeartbeats 400000 in
theorem of_bad (ad : Addr) (cap p n : Nat) (z : Int) (xs : List Nat) (w : World) (hA : NatsAt w w.heap.size (some ad) xs) (hb0 : ad.block < w.heap.size) (hz0 : w.cell? (ad.add p) = some (.int .i64 z)) (hx : ∀ x ∈ xs, x < 256) (hn : xs.Nodup) (hl : n ≤ maxLen) (hpn : p < n) (hxp : xs.length = p)
    (hd : z < 0 ∨ 256 ≤ z ∨ ∃ c : Nat, z = c ∧ c < 256 ∧ c ∈ xs) :
    Calls Try.prog 68 #[.slice (some ad) n cap] w fun e w' => e = .returned (.tuple #[.agg (vs .u64 Mk.zero), .int .i64 1]) ∧ Below w.heap.size w w' := by
  subst hxp
  have HX := Lib.hid hx
  have HN := Lib.hid hn
  have HD := Lib.hid hd
  have hzz := Lib.hid (info33' Mk.W4.zero)
  clear hx hn hd
  unfold maxLen at hl
  go_enter Try.func68, Try.ntmps68
  go_wp2_with fail
  go_loopw [9] (fun i wr => ∃ k : Nat, k ≤ xs.length ∧ i = .int .i64 k ∧ Row .u64 104 wr w.heap.size Mk.zero ∧ Row .u64 104 wr (w.heap.size + 1) (Mk.ofL (xs.take k)) ∧ Below w.heap.size w wr)
    (fun i _ => xs.length - (intOf i).toNat)
  case atStart =>
    refine ⟨0, by omega, rfl, (Row.new w .u64 104 Mk.zero _ rfl).alloc _, ?_, ((Below.refl _ _).alloc (Nat.le_refl _) _).alloc (by simp) _⟩
    have := Row.new (w.alloc (.cells (vs .u64 Mk.zero) 104)) .u64 104 Mk.zero _ rfl
    rw [size_alloc] at this
    exact this
  case round =>
    obtain ⟨k, hk, rfl, r0, r1, hb⟩ := hrel
    have i1 : (k : Int) < (n : Int) := by omega
    by_cases hlt : k < xs.length
    · obtain ⟨ad', e', hblk, hcell⟩ := (hA.below hb).at_ hlt
      cases e'
      have hw := Lib.hid (Mk.ofL_W4 (xs := xs.take k) (fun x hx => HX.out x (List.mem_of_mem_take hx)))
      have hz := Lib.hid (info33' hw.out)
      have hc := HX.out _ (nth_mem xs k hlt)
      have hw2 := Lib.hid (hw.out.wth hc)
      have HS : Hid (Mk.ofL (xs.take (k + 1)) = Mk.wth (Mk.ofL (xs.take k)) (Mk.nth xs k)) := by
        show _ = _; rw [take_snoc xs k hlt, Mk.ofL_snoc]
      have HF : Hid (Mk.hasB (Mk.ofL (xs.take k)) (Mk.nth xs k) = false) := by
        show _ = _
        rw [Mk.has_ofL (fun x hx => HX.out x (List.mem_of_mem_take hx))]
        simpa using nodup_take xs k hlt HN.out
      have hz2 := Lib.hid (info33' hw2.out)
      have hlen := Lib.hid (len_len hw.out hw2.out)
      generalize Mk.ofL (xs.take k) = m at *
      generalize Mk.nth xs k = c at *
      go_wp2_with (first | (refine load_w rfl 104 _ rfl (w.heap.size + 1) .u64 m rfl 104 _ r1 Try.underlying104 rfl hz.out ?_) | ((go_at_call 76; refine (isCore_yes _ _ (by omega) (by omega)).mono ?_); rintro e w' ⟨rfl, rfl⟩) | ((go_at_call 77; refine (has_in m c _ hw.out hc).mono ?_); rintro e w2 ⟨rfl, hb2⟩; rw [HF.out]; replace r0 := r0.below hb2 r0.lt; replace r1 := r1.below hb2 r1.lt; replace hb := bmore hb hb2; clear hb2) | ((go_at_call 78; refine (with_any m c _ hw.out hc).mono ?_); rintro e w2 ⟨rfl, hb2⟩; have r02 := r0.below hb2 r0.lt; have r12 := r1.below hb2 r1.lt; have hb22 := bmore hb hb2; clear hb2) | (refine store_law rfl 104 _ _ rfl (w.heap.size + 1) .u64 m (Mk.wth m c) rfl rfl 104 r12 hlen.out hz2.out ?_; intro w7 hw7))
      go_roundw
      case rel =>
        refine ⟨k + 1, by omega, by go_num, r02.hidOther hw7 (by omega), ?_, below_hidSet hb22 hw7 (by omega)⟩
        rw [HS.out]; exact r12.hidSet hw7
      case measure => simp [intOf]; omega
    · obtain rfl : k = xs.length := by omega
      have hcell : wr.cell? (ad.add xs.length) = some (.int .i64 z) := (hb.cell (by rw [block_add]; exact hb0)).trans hz0
      have hw := Lib.hid (Mk.ofL_W4 (xs := xs) HX.out)
      have hz := Lib.hid (info33' hw.out)
      have HO := Lib.hid (Mk.has_ofL HX.out)
      rw [List.take_length] at r1
      generalize Mk.ofL xs = m at *
      rcases HD.out with h0 | h0 | ⟨c, rfl, hc, hm⟩
      · have HC := Lib.hid (fun W => isCore_no z W (.inl h0))
        clear HD
        go_wp2_with (first | ((go_at_call 76; refine (HC.out _).mono ?_); rintro e w' ⟨rfl, rfl⟩) | (refine store_law rfl 104 _ _ rfl w.heap.size .u64 Mk.zero Mk.zero rfl rfl 104 r0 rfl hzz.out ?_; intro w7 hw7))
        exact bodyPost_ret (results_row_tmp rfl _ _ w.heap.size .u64 104 _ _ rfl (r0.hidSet hw7) Try.underlying104 rfl hzz.out) rfl ⟨rfl, below_hidSet hb hw7 (by omega)⟩
      · have HC := Lib.hid (fun W => isCore_no z W (.inr h0))
        clear HD
        go_wp2_with (first | ((go_at_call 76; refine (HC.out _).mono ?_); rintro e w' ⟨rfl, rfl⟩) | (refine store_law rfl 104 _ _ rfl w.heap.size .u64 Mk.zero Mk.zero rfl rfl 104 r0 rfl hzz.out ?_; intro w7 hw7))
        exact bodyPost_ret (results_row_tmp rfl _ _ w.heap.size .u64 104 _ _ rfl (r0.hidSet hw7) Try.underlying104 rfl hzz.out) rfl ⟨rfl, below_hidSet hb hw7 (by omega)⟩
      · have HF : Hid (Mk.hasB m c = true) := by
          show _ = _
          rw [HO.out c]
          exact decide_eq_true hm
        clear HD hm
        go_wp2_with (first | (refine load_w rfl 104 _ rfl (w.heap.size + 1) .u64 m rfl 104 _ r1 Try.underlying104 rfl hz.out ?_) | ((go_at_call 76; refine (isCore_yes _ _ (by omega) (by omega)).mono ?_); rintro e w' ⟨rfl, rfl⟩) | ((go_at_call 77; refine (has_in m c _ hw.out hc).mono ?_); rintro e w2 ⟨rfl, hb2⟩; rw [HF.out]; replace r0 := r0.below hb2 r0.lt; replace r1 := r1.below hb2 r1.lt; replace hb := bmore hb hb2; clear hb2) | (refine store_law rfl 104 _ _ rfl w.heap.size .u64 Mk.zero Mk.zero rfl rfl 104 r0 rfl hzz.out ?_; intro w7 hw7))
        exact bodyPost_ret (results_row_tmp rfl _ _ w.heap.size .u64 104 _ _ rfl (r0.hidSet hw7) Try.underlying104 rfl hzz.out) rfl ⟨rfl, below_hidSet hb hw7 (by omega)⟩
end Go.Proofs.Ytjolkcomlindhaa.Mo
