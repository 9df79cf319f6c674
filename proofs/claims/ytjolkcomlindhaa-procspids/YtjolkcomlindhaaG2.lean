/- procs: mayBe; mask.Of of good cores, of none. -/
import Derived.Test.YtjolkcomlindhaaG1
namespace Go.Proofs.Ytjolkcomlindhaa
open Go.RowKit Go.Shelf Go.Maps Go.Sort

/-- What mask.Of tells of these cores: an error er. -/
def OfSays (w : World) (A : Option Addr) (n cap : Nat) (er : Int) : Prop := ∀ V, Below w.heap.size w V → ∃ a b c d : Int, Calls Try.prog 68 #[.slice A n cap] V fun x w' => x = .returned (.tuple #[.agg #[.int .u64 a, .int .u64 b, .int .u64 c, .int .u64 d], .int .i64 er]) ∧ Below V.heap.size V w'
def mayT (j e s r er : Int) (n : Nat) : Bool := numB j && numB e && numB s && numB r && (er == 0) && decide (0 < n)
set_option maxRecDepth 100000 in
set_option maxHeartbeats 2000000 in
theorem mayT_any (p j e s r st c er : Int) (A : Option Addr) (n cap : Nat) (w : World) (hO : OfSays w A n cap er) (hl : n ≤ 1000) :
    Calls Try.prog 57 #[tkV p j e s r (.slice A n cap) st c] w fun x w' => x = .returned (.bool (mayT j e s r er n)) ∧ Below w.heap.size w w' := by
  have k0 := Bk.new w 61 (tkC p j e s r (.slice A n cap) st c)
  have low := below_alloc w (.cells (tkC p j e s r (.slice A n cap) st c) 61)
  obtain ⟨a, b, c', d, K⟩ := hO _ low
  have HK := Lib.hid K
  clear K hO
  go_enter Try.func57, Try.ntmps57
  go_wp2_with fail
  refine HK.out.mono ?_
  rintro x w1 ⟨rfl, hb⟩
  replace k0 := k0.next hb
  replace low := bmore low hb
  clear hb HK
  have lb := below_alloc w1 (.cells #[.int .u64 a, .int .u64 b, .int .u64 c', .int .u64 d] 104)
  replace k0 := k0.next lb
  replace low := bmore low lb
  clear lb
  have d1 := k0.cell 1 _ rfl
  have d2 := k0.cell 2 _ rfl
  have d3 := k0.cell 3 _ rfl
  have d4 := k0.cell 4 _ rfl
  have d5 := k0.cell 5 _ rfl
  clear k0
  go_wp2_with fail
  refine (isNum_any j _).mono ?_
  rintro x w2 ⟨rfl, rfl⟩
  cases q0 : numB j
  · have e0 := Lib.hid (show mayT j e s r er n = false from by simp [mayT, q0])
    go_wp2_with fail
    go_ret
    exact ⟨by rw [e0.out]; rfl, low⟩
  go_wp2_with fail
  refine (isNum_any e _).mono ?_
  rintro x w2 ⟨rfl, rfl⟩
  cases q1 : numB e
  · have e0 := Lib.hid (show mayT j e s r er n = false from by simp [mayT, q0, q1])
    go_wp2_with fail
    go_ret
    exact ⟨by rw [e0.out]; rfl, low⟩
  go_wp2_with fail
  refine (isNum_any s _).mono ?_
  rintro x w2 ⟨rfl, rfl⟩
  cases q2 : numB s
  · have e0 := Lib.hid (show mayT j e s r er n = false from by simp [mayT, q0, q1, q2])
    go_wp2_with fail
    go_ret
    exact ⟨by rw [e0.out]; rfl, low⟩
  go_wp2_with fail
  refine (isNum_any r _).mono ?_
  rintro x w2 ⟨rfl, rfl⟩
  cases q3 : numB r
  · have e0 := Lib.hid (show mayT j e s r er n = false from by simp [mayT, q0, q1, q2, q3])
    go_wp2_with fail
    go_ret
    exact ⟨by rw [e0.out]; rfl, low⟩
  by_cases he : er = 0
  · have t0 : (er == 0) = true := by simpa using he
    by_cases hn : 0 < n
    · have e0 := Lib.hid (show mayT j e s r er n = true from by simp [mayT, q0, q1, q2, q3, he, hn])
      clear he
      go_wp2_with fail
      go_ret
      exact ⟨by rw [e0.out]; rfl, low⟩
    · have e0 := Lib.hid (show mayT j e s r er n = false from by simp [mayT, hn])
      obtain rfl : n = 0 := by omega
      clear he
      go_wp2_with fail
      go_ret
      exact ⟨by rw [e0.out]; rfl, low⟩
  · have t0 : (er == 0) = false := by simpa using he
    have e0 := Lib.hid (show mayT j e s r er n = false from by simp [mayT, he])
    clear he
    go_wp2_with fail
    go_ret
    exact ⟨by rw [e0.out]; rfl, low⟩
theorem vs4 {l : List Nat} (h : Mo.Mk.W4 l) : ∃ a b c d : Int, Mo.vs .u64 l = #[.int .u64 a, .int .u64 b, .int .u64 c, .int .u64 d] := by
  rw [Mo.Mk.len4 h.1]
  exact ⟨_, _, _, _, rfl⟩
end Go.Proofs.Ytjolkcomlindhaa
