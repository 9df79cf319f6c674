/- The document's table: whether a task may be; a table of none. -/
import Derived.Test.YtjolkcomlindhaaP4
import Derived.Test.YtjolkcomlindhaaGG14xG15
namespace Go.Proofs.Ytjolkcomlindhaa
open Go.RowKit Go.Shelf Go.Maps Go.Sort

theorem rof_ends (A : Option Addr) (n cap : Nat) (zs : List Int) (w : World) (h : IntsAt w A zs) (hn : zs.length = n) (hl : n ≤ 300) (hcap : n ≤ cap) :
    Calls Try.prog 71 #[.slice A n cap] w fun e w' => (∃ a b c d er : Int, e = .returned (.tuple #[.agg #[.int .u64 a, .int .u64 b, .int .u64 c, .int .u64 d], .int .i64 er])) ∧ Below w.heap.size w w' := by
  refine (Mo.rof_ends A n cap zs w h hn hl hcap).mono ?_
  rintro e w' ⟨⟨l, er, rfl, hl4⟩, hb⟩
  obtain ⟨a, b, c, d, e4⟩ := Mo.four hl4
  rw [e4]
  exact ⟨⟨a, b, c, d, er, rfl⟩, hb⟩
set_option maxRecDepth 100000 in
theorem rnum_any (x : Int) (w : World) : Calls Try.prog 72 #[.int .i64 x] w fun e w' => (∃ b, e = .returned (.bool b)) ∧ w = w' := by
  cases t0 : decide (0 ≤ x) <;> cases t1 : decide (x ≤ 1099511627776)
  all_goals
    go_enter Try.func72, Try.ntmps72
    go_wp2_with fail
    go_ret
    exact ⟨⟨_, rfl⟩, rfl⟩
set_option maxRecDepth 100000 in
set_option maxHeartbeats 2000000 in
theorem rmay_ends (p j e s r st c : Int) (A : Option Addr) (n cap : Nat) (zs : List Int) (w : World) (h : IntsAt w A zs) (hn : zs.length = n) (hl : n ≤ 300) (hcap : n ≤ cap) :
    Calls Try.prog 62 #[tkV p j e s r (.slice A n cap) st c] w fun x w' => (∃ b, x = .returned (.bool b) ∧ (b = true → 0 < n)) ∧ Below w.heap.size w w' := by
  have k0 := Bk.new w 61 (tkC p j e s r (.slice A n cap) st c)
  have low := below_alloc w (.cells (tkC p j e s r (.slice A n cap) st c) 61)
  have HK := Lib.hid (rof_ends A n cap zs _ (h.next low) hn hl hcap)
  clear h
  go_enter Try.func62, Try.ntmps62
  go_wp2_with fail
  refine HK.out.mono ?_
  rintro x w1 ⟨⟨a, b, c', d, er, rfl⟩, hb⟩
  replace k0 := k0.next hb
  replace low := bmore low hb
  clear hb HK
  have lb := below_alloc w1 (.cells #[.int .u64 a, .int .u64 b, .int .u64 c', .int .u64 d] 107)
  replace k0 := k0.next lb
  replace low := bmore low lb
  clear lb
  have d1 := k0.cell 1 _ rfl
  have d2 := k0.cell 2 _ rfl
  have d3 := k0.cell 3 _ rfl
  have d4 := k0.cell 4 _ rfl
  have d5 := k0.cell 5 _ rfl
  clear k0
  go_wp2_with fail
  refine (rnum_any j _).mono ?_
  rintro x w2 ⟨⟨q, rfl⟩, rfl⟩
  cases q
  · go_wp2_with fail
    go_ret
    exact ⟨⟨_, rfl, fun h => by cases h⟩, low⟩
  go_wp2_with fail
  refine (rnum_any e _).mono ?_
  rintro x w2 ⟨⟨q, rfl⟩, rfl⟩
  cases q
  · go_wp2_with fail
    go_ret
    exact ⟨⟨_, rfl, fun h => by cases h⟩, low⟩
  go_wp2_with fail
  refine (rnum_any s _).mono ?_
  rintro x w2 ⟨⟨q, rfl⟩, rfl⟩
  cases q
  · go_wp2_with fail
    go_ret
    exact ⟨⟨_, rfl, fun h => by cases h⟩, low⟩
  go_wp2_with fail
  refine (rnum_any r _).mono ?_
  rintro x w2 ⟨⟨q, rfl⟩, rfl⟩
  cases q
  · go_wp2_with fail
    go_ret
    exact ⟨⟨_, rfl, fun h => by cases h⟩, low⟩
  cases t0 : er == 0
  · go_wp2_with fail
    go_ret
    exact ⟨⟨_, rfl, fun h => by cases h⟩, low⟩
  by_cases hn0 : 0 < n
  · go_wp2_with fail
    go_ret
    exact ⟨⟨_, rfl, fun _ => hn0⟩, low⟩
  · obtain rfl : n = 0 := by omega
    go_wp2_with fail
    go_ret
    exact ⟨⟨_, rfl, fun h => by cases h⟩, low⟩
/-- The document's table of none. -/
def DT0 (w : World) (q : Nat) : Prop := Bk w q 58 #[.slice none 0 0, .slice none 0 0, .int .i64 0]
section
variable {w : World} {q : Nat}
set_option maxRecDepth 100000 in
theorem rat0 (h : DT0 w q) (n : Int) : Calls Try.prog 63 #[.pointer (some ⟨q, 0, none⟩), .int .i64 n] w fun e w' => e = .returned (.int .i64 (-1)) ∧ w = w' := by
  have c0 := Bk.cell h 0 _ rfl
  clear h
  go_enter Try.func63, Try.ntmps63
  go_wp2_with fail
  go_loopg [5] 0 (fun g i wr => i = .int .i64 0 ∧ w = wr)
  case atStart => exact ⟨rfl, rfl⟩
  case round =>
    obtain ⟨rfl, rfl⟩ := hrel
    go_wp2_with fail
    go_ret
    exact ⟨rfl, rfl⟩
set_option maxRecDepth 100000 in
theorem rrel0 (h : DT0 w q) (n : Int) : Calls Try.prog 50 #[.pointer (some ⟨q, 0, none⟩), .int .i64 n] w fun e w' => e = .returned (.int .i64 1) ∧ w = w' := by
  have K := Lib.hid (rat0 h n)
  clear h
  go_enter Try.func50, Try.ntmps50
  go_wp2_with fail
  refine K.out.mono ?_
  rintro _ w1 ⟨rfl, rfl⟩
  go_wp2_with fail
  go_ret
  exact ⟨rfl, rfl⟩
set_option maxRecDepth 100000 in
theorem rsig0 (h : DT0 w q) (n g : Int) : Calls Try.prog 51 #[.pointer (some ⟨q, 0, none⟩), .int .i64 n, .int .i64 g] w fun e w' => e = .returned (.int .i64 1) ∧ w = w' := by
  have K := Lib.hid (rat0 h n)
  clear h
  go_enter Try.func51, Try.ntmps51
  go_wp2_with fail
  refine K.out.mono ?_
  rintro _ w1 ⟨rfl, rfl⟩
  go_wp2_with fail
  go_ret
  exact ⟨rfl, rfl⟩
set_option maxRecDepth 100000 in
theorem rexi0 (h : DT0 w q) (n g : Int) : Calls Try.prog 52 #[.pointer (some ⟨q, 0, none⟩), .int .i64 n, .int .i64 g] w fun e w' => e = .returned (.int .i64 1) ∧ w = w' := by
  have K := Lib.hid (rat0 h n)
  clear h
  go_enter Try.func52, Try.ntmps52
  go_wp2_with fail
  refine K.out.mono ?_
  rintro _ w1 ⟨rfl, rfl⟩
  go_wp2_with fail
  go_ret
  exact ⟨rfl, rfl⟩
set_option maxRecDepth 100000 in
theorem rreap0 (h : DT0 w q) (n : Int) : Calls Try.prog 53 #[.pointer (some ⟨q, 0, none⟩), .int .i64 n] w fun e w' => e = .returned (.tuple #[tkV 0 0 0 0 0 (.slice none 0 0) 0 0, .int .i64 1]) ∧ Below w.heap.size w w' := by
  have low := below_alloc w (.cells (tkC 0 0 0 0 0 (.slice none 0 0) 0 0) 61)
  have K := Lib.hid (fun V (hV : Below w.heap.size w V) => rat0 (Bk.next h hV) n)
  clear h
  go_enter Try.func53, Try.ntmps53
  go_wp2_with fail
  refine (K.out _ low).mono ?_
  rintro _ w1 ⟨rfl, rfl⟩
  have kz0 := Bk.new w 61 (tkC 0 0 0 0 0 (.slice none 0 0) 0 0)
  obtain ⟨⟨d0, d1, d2, d3, d4, d5, d6, d7⟩, f0, f1, f2, f3, f4, f5, f6, f7⟩ := kz0.z8
  clear kz0
  go_wp2_with fail
  exact bodyPost_ret (v := .tuple #[tkV 0 0 0 0 0 (.slice none 0 0) 0 0, .int .i64 1]) (by simp [results, Try.results53, go_sem, d0, d1, d2, d3, d4, d5, d6, d7]) rfl ⟨rfl, low⟩
end
end Go.Proofs.Ytjolkcomlindhaa
