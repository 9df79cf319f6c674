/- live of dag. -/
import Derived.Test.YtodgkjmkjahkiaaD9
namespace Go.Proofs.Ytodgkjmkjahkiaa
open Go.RowKit

def liveL : List St := [⟨1, 1, 0, 5, []⟩, ⟨1, 1, 0, 5, [⟨0, 0⟩]⟩, ⟨1, 1, 0, 5, [⟨1, 2⟩, ⟨0, 1⟩]⟩]
def liveK : List St := [⟨1, 1, 0, 5, [⟨1, 0⟩]⟩, ⟨1, 1, 0, 5, [⟨0, 0⟩]⟩]
theorem lf1 : rdyL liveL [-1, -1, -1] = [0] ∧ ckB liveL [-1, -1, -1] = 0 := by decide +kernel
theorem lf2 : rdyL liveL [0, 3, -1] = [2] ∧ ckB liveL [0, 3, -1] = 0 := by decide +kernel
theorem lf3 : stlL liveL [3, -1, -1] = [3, 256, 256] ∧ ckB liveL [3, -1, -1] = 0 := by decide +kernel
theorem lf4 : ovN liveL [3, -1, -1] = 3 ∧ ovY liveL [3, -1, -1] = true := by decide +kernel
theorem lf5 : rdyL liveL [0] = [] ∧ ckB liveL [0] = 5 := by decide +kernel
theorem lf6 : ovN liveL [0, -1, -1] = 0 ∧ ovY liveL [0, -1, -1] = false := by decide +kernel
theorem lf7 : checkB liveL = 0 ∧ orderB liveL = [0, 1, 2] ∧ checkB liveK = 15 ∧ checkB [] = 1 := by decide +kernel

theorem block_zero (g k : Nat) : (⟨g, 0, none⟩ : Addr).add k = ⟨g, k, none⟩ := by unfold Addr.add; split <;> simp_all
theorem block_at (g i k : Nat) : (⟨g, i, none⟩ : Addr).add k = ⟨g, i + k, none⟩ := by unfold Addr.add; split <;> simp_all
theorem il1 {W : World} {g : Nat} {a : Int} (h : Bk W g 3 #[.int .i64 a]) : Il W (some ⟨g, 0, none⟩) 1 [a] :=
  ⟨.inr ⟨_, rfl, h.lt, fun j hj => by
    rw [block_zero]
    have : j = 0 := by simp at hj; omega
    subst this
    exact h.cell 0 _ rfl⟩, rfl, by unfold maxLen; omega⟩
theorem il3 {W : World} {g : Nat} {a b c : Int} (h : Bk W g 3 #[.int .i64 a, .int .i64 b, .int .i64 c]) : Il W (some ⟨g, 0, none⟩) 3 [a, b, c] :=
  ⟨.inr ⟨_, rfl, h.lt, fun j hj => by
    rw [block_zero]
    rcases j with _ | _ | _ | j
    · exact h.cell 0 _ rfl
    · exact h.cell 1 _ rfl
    · exact h.cell 2 _ rfl
    · simp at hj; omega⟩, rfl, by unfold maxLen; omega⟩
/-- A step's cells. -/
abbrev c5 (r p d m : Int) (v : Value) : List Value := [.int .i64 r, .int .i64 p, .int .i64 d, .int .i64 m, v]
theorem st_cells {W : World} {g i : Nat} {t : TypeId} {cs : Array Value} {s : St} {B : Option Addr} {c : Nat} (h : Bk W g t cs) (h0 : cs[i]? = some (.int .i64 s.r)) (h1 : cs[i + 1]? = some (.int .i64 s.p)) (h2 : cs[i + 2]? = some (.int .i64 s.d)) (h3 : cs[i + 3]? = some (.int .i64 s.m)) (h4 : cs[i + 4]? = some (.slice B s.es.length c))
    (hl : s.es.length ≤ maxLen) (hc : s.es.length ≤ c) (he : EdsAt W B s.es) : StAt W ⟨g, i, none⟩ s B c :=
  ⟨h.cell i _ h0, h.cell (i + 1) _ h1, h.cell (i + 2) _ h2, h.cell (i + 3) _ h3, h.cell (i + 4) _ h4, hl, hc, he⟩
theorem ed_one {W : World} {g : Nat} {s k : Int} (h : Bk W g 40 #[.int .i64 s, .int .i64 k]) : EdsAt W (some ⟨g, 0, none⟩) [⟨s, k⟩] :=
  .inr ⟨_, rfl, h.lt, fun j hj => by
    have : j = 0 := by simp at hj; omega
    subst this
    exact ⟨h.cell 0 _ rfl, h.cell 1 _ rfl⟩⟩
theorem ed_two {W : World} {g : Nat} {s k t m : Int} (h : Bk W g 40 #[.int .i64 s, .int .i64 k, .int .i64 t, .int .i64 m]) : EdsAt W (some ⟨g, 0, none⟩) [⟨s, k⟩, ⟨t, m⟩] :=
  .inr ⟨_, rfl, h.lt, fun j hj => by
    rcases j with _ | _ | j
    · exact ⟨h.cell 0 _ rfl, h.cell 1 _ rfl⟩
    · exact ⟨h.cell 2 _ rfl, h.cell 3 _ rfl⟩
    · simp at hj; omega⟩
theorem sl_live {W : World} {a b g : Nat} (ha : Bk W a 40 #[.int .i64 0, .int .i64 0]) (hb : Bk W b 40 #[.int .i64 1, .int .i64 2, .int .i64 0, .int .i64 1])
    (h : Bk W g 38 #[.int .i64 1, .int .i64 1, .int .i64 0, .int .i64 5, .slice none 0 0, .int .i64 1, .int .i64 1, .int .i64 0, .int .i64 5, .slice (some ⟨a, 0, none⟩) 1 1, .int .i64 1, .int .i64 1, .int .i64 0, .int .i64 5, .slice (some ⟨b, 0, none⟩) 2 2]) :
    Sl W (some ⟨g, 0, none⟩) 3 3 liveL :=
  ⟨.inr ⟨_, rfl, h.lt, fun i hi => by
    rcases i with _ | _ | _ | i
    · exact ⟨none, 0, st_cells h rfl rfl rfl rfl rfl (Nat.zero_le _) (Nat.le_refl _) (.inl rfl)⟩
    · exact ⟨some ⟨a, 0, none⟩, 1, st_cells (i := 5) h rfl rfl rfl rfl rfl (by show 1 ≤ _; unfold maxLen; omega) (Nat.le_refl _) (ed_one ha)⟩
    · exact ⟨some ⟨b, 0, none⟩, 2, st_cells (i := 10) h rfl rfl rfl rfl rfl (by show 2 ≤ _; unfold maxLen; omega) (Nat.le_refl _) (ed_two hb)⟩
    · simp [liveL] at hi; omega⟩, rfl, by unfold maxLen; omega, Nat.le_refl _⟩
theorem sl_liveK {W : World} {a b g : Nat} (ha : Bk W a 40 #[.int .i64 1, .int .i64 0]) (hb : Bk W b 40 #[.int .i64 0, .int .i64 0])
    (h : Bk W g 38 #[.int .i64 1, .int .i64 1, .int .i64 0, .int .i64 5, .slice (some ⟨a, 0, none⟩) 1 1, .int .i64 1, .int .i64 1, .int .i64 0, .int .i64 5, .slice (some ⟨b, 0, none⟩) 1 1]) :
    Sl W (some ⟨g, 0, none⟩) 2 2 liveK :=
  ⟨.inr ⟨_, rfl, h.lt, fun i hi => by
    rcases i with _ | _ | i
    · exact ⟨some ⟨a, 0, none⟩, 1, st_cells h rfl rfl rfl rfl rfl (by show 1 ≤ _; unfold maxLen; omega) (Nat.le_refl _) (ed_one ha)⟩
    · exact ⟨some ⟨b, 0, none⟩, 1, st_cells (i := 5) h rfl rfl rfl rfl rfl (by show 1 ≤ _; unfold maxLen; omega) (Nat.le_refl _) (ed_one hb)⟩
    · simp [liveK] at hi; omega⟩, rfl, by unfold maxLen; omega, Nat.le_refl _⟩
theorem sl_nil (W : World) : Sl W none 0 0 [] := ⟨.inl rfl, rfl, Nat.zero_le _, Nat.le_refl _⟩
/-- What live lays first. -/
abbrev lvW (w : World) : World := ((w.alloc (.cells #[.int .i64 0, .int .i64 0] 40)).alloc (.cells #[.int .i64 1, .int .i64 2, .int .i64 0, .int .i64 1] 40)).alloc (.cells #[.int .i64 1, .int .i64 1, .int .i64 0, .int .i64 5, .slice none 0 0, .int .i64 1, .int .i64 1, .int .i64 0, .int .i64 5, .slice (some ⟨w.heap.size, 0, none⟩) 1 1, .int .i64 1, .int .i64 1, .int .i64 0, .int .i64 5, .slice (some ⟨w.heap.size + 1, 0, none⟩) 2 2] 38)
theorem lv_sl (w : World) : Sl (lvW w) (some ⟨w.heap.size + 1 + 1, 0, none⟩) 3 3 liveL ∧ Below w.heap.size w (lvW w) ∧ ∃ cs, Bk (lvW w) (w.heap.size + 1 + 1) 38 cs ∧ cs[0]? = some (.int .i64 1) ∧ cs[1]? = some (.int .i64 1) ∧ cs[2]? = some (.int .i64 0) ∧ cs[3]? = some (.int .i64 5) ∧ cs[4]? = some (.slice none 0 0) := by
  have k1 := ((Bk.new w 40 #[.int .i64 0, .int .i64 0]).alloc (.cells #[.int .i64 1, .int .i64 2, .int .i64 0, .int .i64 1] 40))
  have k2 := Bk.new (w.alloc (.cells #[.int .i64 0, .int .i64 0] 40)) 40 #[.int .i64 1, .int .i64 2, .int .i64 0, .int .i64 1]
  have k3 := Bk.new ((w.alloc (.cells #[.int .i64 0, .int .i64 0] 40)).alloc (.cells #[.int .i64 1, .int .i64 2, .int .i64 0, .int .i64 1] 40)) 38 #[.int .i64 1, .int .i64 1, .int .i64 0, .int .i64 5, .slice none 0 0, .int .i64 1, .int .i64 1, .int .i64 0, .int .i64 5, .slice (some ⟨w.heap.size, 0, none⟩) 1 1, .int .i64 1, .int .i64 1, .int .i64 0, .int .i64 5, .slice (some ⟨w.heap.size + 1, 0, none⟩) 2 2]
  rw [size_alloc] at k2
  rw [size_alloc, size_alloc] at k3
  exact ⟨sl_live (k1.alloc _) (k2.alloc _) k3, ((below_alloc _ _).alloc (by simp) _).alloc (by simp; omega) _, _, k3, rfl, rfl, rfl, rfl, rfl⟩
end Go.Proofs.Ytodgkjmkjahkiaa
