/- A table: its Pids, rising; List of none. -/
import Derived.Test.YtjolkcomlindhaaG10
namespace Go.Proofs.Ytjolkcomlindhaa
open Go.RowKit Go.Shelf Go.Maps Go.Sort

theorem table_keys {w : World} {p k : Nat} {m : Option Nat} {N : Int} {T : List Pr} (h : TbAt w p m k N T) (hl : T.length ≤ 1000) (n : Nat) (hn : 5 ≤ n) :
    CallsIn Fence.wide n Try.prog 54 #[.func (.func 66) #[] #[.pointer (some ⟨w.heap.size, 0, none⟩)]] (w.alloc (.cells #[.map m] 83)) (Keys (w.alloc (.cells #[.map m] 83)) (T.map (·.pid))) := by
  cases m with
  | none =>
    have e := h.none_ rfl
    subst e
    exact sortedOf 66 (enters_of Try.func66 (by kernel_rfl) rfl) n hn _ _ [] List.Pairwise.nil (by simp) (fun ss => ss = []) (fun ss e => by rw [e]) 0 (by omega)
      (AnyZI.keys_gives_nil (ρ := Try.keysB_ren) { Try.keysB with } Fence.wide _ trivial rfl w.heap.size (w.alloc (.cells #[.map none] 83)) (by simp) (by simp))
  | some b =>
    obtain ⟨D, h1, h2⟩ := h.own b rfl
    have hp : (T.map (·.pid)).Perm (intKeys D) := keys_perm h1 h2 _ (List.pairwise_map.2 h.up) (fun n => by
      rw [List.mem_map]
      constructor
      · rintro ⟨x, hx, rfl⟩
        rw [lookP_of_mem h.up hx]; rfl
      · intro hs
        cases e : lookP T n with
        | none => rw [e] at hs; cases hs
        | some x => exact ⟨x, lookP_mem e⟩)
    have hsz : Maps.size D = T.length := by rw [size_keys h2.map, ← hp.length_eq, List.length_map]
    exact sortedOf 66 (enters_of Try.func66 (by kernel_rfl) rfl) n hn _ _ (T.map (·.pid)) (List.pairwise_map.2 h.up) (by rw [List.length_map]; omega) (fun ss => ss.Perm (intKeys D)) (fun ss e => e.trans hp.symm) (Maps.size D) (by rw [hsz]; omega)
      (AnyZI.keys_gives (ρ := Try.keysB_ren) { Try.keysB with } Fence.wide _ trivial rfl (by omega) w.heap.size b k D (w.alloc (.cells #[.map (some b)] 83)) (by simp) (by simp) (h1.alloc _))
set_option maxRecDepth 100000 in
set_option maxHeartbeats 1000000 in
theorem list_empty {w : World} {p k : Nat} {m : Option Nat} {N : Int} (h : TbAt w p m k N []) : Calls Try.prog 36 #[.pointer (some ⟨p, 0, none⟩)] w fun e w' => e = .returned (.slice none 0 0) ∧ Below w.heap.size w w' := by
  have K1 := Lib.hid (callsIn_wide.1 (keysB_in 5 m w))
  have K2 := Lib.hid (callsIn_wide.1 (table_keys h (by simp) 5 (by omega)))
  have c1 := h.blk.cell 1 _ rfl
  clear h
  go_enter Try.func36, Try.ntmps36
  go_wp2_with fail
  refine K1.out.mono ?_
  rintro x w1 ⟨rfl, rfl⟩
  go_wp2_with fail
  refine K2.out.mono ?_
  rintro x w2 ⟨v, rfl, hrow, hb⟩
  obtain ⟨A, cap, rfl⟩ := own_form hrow
  have low : Below w.heap.size w w2 := (below_alloc w _).trans (hb.mono (by simp))
  clear hrow hb c1
  go_wp2_with fail
  go_loopw [3, 15] (fun s iv wr => s = .slice none 0 0 ∧ iv = .int .i64 0 ∧ wr = w2) (fun _ _ _ => 0)
  case atStart => exact ⟨rfl, rfl, rfl⟩
  case round =>
    obtain ⟨rfl, rfl, rfl⟩ := hrel
    go_wp2_with fail
    go_ret
    exact ⟨rfl, low⟩
set_option maxRecDepth 100000 in
theorem list_nil (w : World) : Calls Try.prog 36 #[.pointer none] w fun e w' => e = .returned (.slice none 0 0) ∧ w = w' := by
  go_enter Try.func36, Try.ntmps36
  go_wp2_with fail
  go_ret
  exact ⟨rfl, rfl⟩
end Go.Proofs.Ytjolkcomlindhaa
