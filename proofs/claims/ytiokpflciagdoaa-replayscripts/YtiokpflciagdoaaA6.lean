/- maps.DeleteFunc, drop. -/
import Derived.Test.YtiokpflciagdoaaA4
namespace Go.Proofs.Ytiokpflciagdoaa
open Go.RowKit Go.Maps

set_option maxRecDepth 100000 in
set_option maxHeartbeats 400000 in
theorem drop1_any (j e s u now : Int) (g : Nat) (w : World) (hg : Bk w g 3 #[.int .i64 now]) :
    Calls Try.prog 33 #[.agg #[.int .i64 j, .int .i64 e, .int .i64 s], .int .i64 u, .pointer (some ⟨g, 0, none⟩)] w fun x w' => x = .returned (.bool (decide (u ≤ now))) ∧ Below w.heap.size w w' := by
  have k0 := hg.next (below_alloc w (.cells #[.int .i64 j, .int .i64 e, .int .i64 s] 60))
  have c0 := k0.cell 0 _ rfl
  go_enter Try.func33, Try.ntmps33
  go_wp2_with (go_at_call 24; refine (isOver_any _ _ _).mono ?_; rintro e w' ⟨rfl, rfl⟩)
  go_ret
  exact ⟨rfl, below_alloc _ _⟩

set_option maxRecDepth 100000 in
set_option maxHeartbeats 2000000 in
theorem deleteFunc_any (b n g : Nat) (now : Int) (es0 : List (Lit × DataW Unit)) (w : World) (hown : w.ownsMap Try.prog 60 (plainElem Try.prog 3) b n (.map es0)) (hap : es0.Pairwise (fun p q => p.1 ≠ q.1)) (hkeys : ∀ p ∈ es0, WideAt.IsKeyLit p.1) (hg : Bk w g 3 #[.int .i64 now]) (hgb : g ≠ b) :
    Calls Try.prog 32 #[.map (some b), .func (.func 33) #[] #[.pointer (some ⟨g, 0, none⟩)]] w fun e w' => e = .returned (.tuple #[]) ∧ w'.ownsMap Try.prog 60 (plainElem Try.prog 3) b n (.map (es0.filter fun p => decide (now < numD p.2))) ∧ w.grownBy w' (some b) := by
  replace hap := Lib.hid hap
  replace hkeys := Lib.hid hkeys
  have hbw := hown.lt
  go_enter Try.func32, Try.ntmps32
  go_wp2_with (first
    | (at_range; refine wpList_range_own _ rfl _ 54 rfl 60 3 law60 Try.underlying54 _ b n _ rfl hown ?_; intro w0 hrg0 hg0 hs0)
    | fail)
  go_frame
  have k0 : Bk w0 g 3 #[.int .i64 now] := (hg0.block g hg.lt (by simp)).trans hg
  have hgw0 : g ≠ w.heap.size := Nat.ne_of_lt hg.lt
  clear hown hg
  go_loopw [4] (fun _ wr => ∃ (left : Lit → Bool) (cnt : Nat), wr.ranges Try.prog 60 (plainElem Try.prog 3) b w.heap.size n (Fs es0 now left) left cnt ∧ w.grownBy wr (some b) ∧ Bk wr g 3 #[.int .i64 now])
    (fun _ wr => wr.rangeLeft b w.heap.size)
  case atStart => exact ⟨_, _, by rw [Fs_start hkeys.out]; exact hrg0, hg0.but _, k0⟩
  case round =>
    clear hrg0 hg0 hs0 k0
    obtain ⟨left, cnt, hrg, hgw, kg⟩ := hrel
    go_wp2_with (at_next; refine wpList_next_ranges (α := Pl) (β := Int) _ rfl _ rfl 60 law60 (plainElem Try.prog 3) plV (Value.int .i64) (fun key kl hkey => by obtain ⟨x, rfl, _⟩ := key_inv hkey; exact ⟨x, rfl⟩) (fun v y hv => by obtain ⟨c, rfl, _⟩ := plainElem_int_inv Try.underlying3 hv; exact ⟨c, rfl⟩) b w.heap.size n (Fs es0 now left) left cnt rfl hrg ?_ ?_)
    · intro _ hl0
      have HL := Lib.hid hl0
      clear hl0
      go_wp2_with fail
      go_end0
      exact ⟨rfl, by rw [← Fs_end HL.out]; exact hrg.owns, hgw⟩
    · intro x c kl y1 y2 w1 cnt1 hkey hlx hRv hat hrg1 hlt hg1 hs1 hen
      obtain ⟨c', e', ec, hwc⟩ := plainElem_int_inv Try.underlying3 hRv
      obtain rfl : c = c' := by simpa using e'
      obtain ⟨rfl, rfl⟩ := Prod.mk.inj ec
      have hen2 : (Instr.entry (.pointer (some ⟨w.heap.size, 0, none⟩))).run Try.prog w1 = .ok (.tuple #[.agg #[.int .i64 x.j, .int .i64 x.e, .int .i64 x.s], .int .i64 c]) w1 := hen
      have hkey2 : keyOf Try.prog 60 (.agg #[.int .i64 x.j, .int .i64 x.e, .int .i64 x.s]) = some kl := hkey
      have HK := Lib.hid hkey2
      have HKL : Hid (WideAt.IsKeyLit kl) := Lib.hid (law60.key hkey)
      have HLX := Lib.hid hlx
      have HAT := Lib.hid hat
      have hgw1 := hgw.andThen hg1 (fun j hj => by cases hj; exact Or.inl (Nat.le_refl _))
      replace kg := kg.grown hg1 hgw0
      have hx := below_alloc w1 (.cells #[.int .i64 x.j, .int .i64 x.e, .int .i64 x.s] 60)
      have hrga := hrg1.alloc (.cells #[.int .i64 x.j, .int .i64 x.e, .int .i64 x.s] 60)
      have kp := Bk.new w1 60 #[.int .i64 x.j, .int .i64 x.e, .int .i64 x.s]
      have kga := kg.next hx
      have hgwa := hgw1.andThen (only_of_below hx) (fun j hj => by cases hj)
      clear hen hkey hlx hat hkey2 hrg1 hg1 hs1 kg hgw1 hgw hRv e' ec hx
      go_wp2_with fail
      refine (drop1_any _ _ _ _ now g _ kga).mono ?_
      rintro e w2 ⟨rfl, hb2⟩
      replace hrga := hrga.kept (only_of_below hb2) (by simp) (by simp)
      replace kp := kp.next hb2
      replace kga := kga.next hb2
      replace hgwa := hgwa.andThen (only_of_below hb2) (fun j hj => by cases hj)
      clear hb2
      have q0 := kp.cell 0 _ rfl
      have q1 := kp.cell 1 _ rfl
      have q2 := kp.cell 2 _ rfl
      by_cases hc : c ≤ now
      · have t0 : decide (c ≤ now) = true := by simpa using hc
        go_wp2_with (at_delete; refine wpList_delete_ranges _ rfl _ _ 54 60 rfl 3 law60 Try.underlying54 _ b w.heap.size n _ _ _ rfl hrga _ _ rfl HK.out ?_; intro w3 cnt2 hrg2 hle hturn; go_frame)
        rw [strike_twice] at hrg2
        go_roundw
        case rel => exact ⟨_, cnt2, by rw [← Fs_struck hap.out HKL.out HLX.out hc HAT.out]; exact hrg2, hgwa.andThen hturn.grown (fun j hj => by cases hj; exact Or.inr rfl), kga.grown hturn.grown hgb⟩
        case measure => rw [hrg2.left_eq, hrg.left_eq]; omega
      · have t0 : decide (c ≤ now) = false := by simpa using hc
        go_wp2_with fail
        go_roundw
        case rel => exact ⟨_, cnt1, by rw [← Fs_stays hap.out HKL.out HLX.out (by omega) HAT.out]; exact hrga, hgwa, kga⟩
        case measure => rw [hrga.left_eq, hrg.left_eq]; exact hlt

set_option maxRecDepth 100000 in
set_option maxHeartbeats 400000 in
theorem drop_any {w : World} {p bk bt : Nat} {most : Int} {L : List (Pl × Int)} {T : List (Jb × Int)} (h : CacheAt w p bk bt most L T) (now : Int) :
    Calls Try.prog 27 #[.pointer (some ⟨p, 0, none⟩), .int .i64 now] w fun e w' => e = .returned (.tuple #[]) ∧ CacheAt w' p bk bt most (keep now L) T ∧ w.grownBy w' (some bk) := by
  have h1 := h.next (below_alloc w (.cells #[.int .i64 now] 3))
  have k1 := Bk.new w 3 #[.int .i64 now]
  have hb0 := below_alloc w (.cells #[.int .i64 now] 3)
  have hne : w.heap.size ≠ bk := Nat.ne_of_gt h.ltk
  have c1 := h1.cells.2.1
  obtain ⟨D, ho, hT⟩ := h1.kept
  obtain ⟨es, rfl, hap, hkeys⟩ := ho.entries law60
  have K := Lib.hid (deleteFunc_any bk _ w.heap.size now es _ ho hap hkeys k1 hne)
  clear hap hkeys
  have HT := Lib.hid hT
  clear hT ho h k1
  go_enter Try.func27, Try.ntmps27
  go_wp2_with fail
  refine K.out.mono ?_
  rintro e w2 ⟨rfl, ho2, hg2⟩
  go_wp2_with fail
  go_end0
  have hT2 := HT.out.keep now
  obtain ⟨E, h3, h4⟩ := h1.tak
  exact ⟨rfl, ⟨h1.blk.grown hg2 h1.nek, h1.ne, ⟨_, tight ho2 hT2, hT2⟩, ⟨E, h3.kept hg2 (by simpa using h1.ne.symm), h4⟩⟩, ((only_of_below hb0).but _).trans hg2⟩
end Go.Proofs.Ytiokpflciagdoaa
