/- Order. -/
import Derived.Test.YthmlibapjhmdbaaW7
import Derived.Lib.SmallJoins
namespace Go.Proofs.Ythmlibapjhmdbaa
open Go.RowKit Go.Shelf

attribute [local go_sem] Oper.semAt_some run_store_fn run_store_nilfn

/-- The distribution of that number is function fid; its cores are of 0, of 1, .. -/
def IsDist (d : Int) (fid : Nat) (s p : Nat) (of : Nat → Nat) : Prop := (d = 0 ∧ fid = 84 ∧ of = id) ∨ (d = 1 ∧ fid = 85 ∧ of = cyc s p)
theorem dist_any {d : Int} {fid s p : Nat} {of : Nat → Nat} (hd : IsDist d fid s p of) (w : World) (h : LOk s p) : Calls Try.prog 59 #[.agg #[.int .i64 s, .int .i64 p], .int .i64 d] w (DistOf s p fid w) := by
  rcases hd with ⟨rfl, rfl, rfl⟩ | ⟨rfl, rfl, rfl⟩
  · exact dist_block s p w h
  · exact dist_cyclic s p w h
theorem dist_stops {d : Int} {fid s p : Nat} {of : Nat → Nat} (hd : IsDist d fid s p of) (n Bn n₀ : Nat) (hn : 1 ≤ n) (h : LOk s p) (w : World) (hBn : Bn < n₀) (hn₀ : n₀ ≤ w.heap.size) (hk : Bk w Bn 28 #[.int .i64 s, .int .i64 p]) :
    SeqStopsK Fence.wide n Try.prog fid #[.pointer (some ⟨Bn, 0, none⟩)] (fun x : Core => #[Value.int .i64 (x.1 : Nat)]) (Below n₀) (fun ys => ys = upto of (s * p)) (fun pre => ∃ k, k ≤ s * p ∧ pre = upto of k) (s * p) w := by
  rcases hd with ⟨rfl, rfl, rfl⟩ | ⟨rfl, rfl, rfl⟩
  · exact block_stops n Bn n₀ s p hn h w hBn hn₀ hk
  · exact cyclic_stops n Bn n₀ s p hn h w hBn hn₀ hk
theorem dist_enters {d : Int} {fid s p : Nat} {of : Nat → Nat} (hd : IsDist d fid s p of) : ∀ args w, (callFunc fid args).run Try.prog w = .ok (.enter fid args) w := by
  rcases hd with ⟨rfl, rfl, rfl⟩ | ⟨rfl, rfl, rfl⟩
  · exact enters_of Try.func84 (by kernel_rfl) rfl
  · exact enters_of Try.func85 (by kernel_rfl) rfl

theorem info3 : (Try.prog.info? 3).map (fun i => (i.zero, i.size, i.bytes)) = some (some (.int .i64 0), 1, 8) := by kernel_rfl
/-- Cores as values. -/
def cv (l : List Core) : List Value := l.map fun x => Value.int .i64 (x.1 : Nat)
theorem cv_snoc (l : List Core) (x : Core) : cv (l ++ [x]) = cv l ++ [Value.int .i64 (x.1 : Nat)] := by simp [cv]
theorem cv_len (l : List Core) : (cv l).length = l.length := by simp [cv]

/-- A slice of its own that holds these cores. -/
def Gives (w : World) (zs : List Core) (er : Int) (e : Ending) (w' : World) : Prop :=
  ∃ v, e = .returned (.tuple #[v, .int .i64 er]) ∧ w'.ownsRow w.heap.size 3 1 v zs.length (cv zs) ∧ Below w.heap.size w w'

end Go.Proofs.Ythmlibapjhmdbaa
