/- The document's masks of any ints: they end. -/
import Derived.Test.YtjolkcomlindhaaGG12xMR4xG13
import Derived.Test.YtjolkcomlindhaaA3
import Derived.Deep.LoopGhost
namespace Go.Proofs.Ytjolkcomlindhaa.Mo
open Go.RowKit

abbrev IA (w : World) (A : Option Addr) (zs : List Int) : Prop := Go.Proofs.Ytjolkcomlindhaa.IntsAt w A zs
theorem info107 {l : List Nat} (h : l.length = 4) : (Try.prog.info? 107).map (·.size) = some l.length := by rw [h]; kernel_rfl
def inB (zs : List Int) (n : Nat) (x : Int) : Bool := decide (∃ j, j < n ∧ zs.getD j 0 = x)
set_option maxRecDepth 100000 in
set_option maxHeartbeats 1000000 in
theorem rin_any (A : Option Addr) (n cap : Nat) (zs : List Int) (x : Int) (w : World) (h : IA w A zs) (hn : n ≤ zs.length) (hl : n ≤ 300) :
    Calls Try.prog 79 #[.slice A n cap, .int .i64 x] w fun e w' => e = .returned (.bool (inB zs n x)) ∧ w = w' := by
  have H := Lib.hid h
  have HN := Lib.hid hn
  clear h hn
  go_enter Try.func79, Try.ntmps79
  go_wp2_with fail
  go_loopg [5] n (fun g i wr => ∃ k : Nat, k + g = n ∧ i = .int .i64 k ∧ w = wr ∧ Hid (∀ j, j < k → zs.getD j 0 ≠ x))
  case atStart => exact ⟨0, by omega, rfl, rfl, Lib.hid (fun j hj => by omega)⟩
  case round =>
    obtain ⟨k, hk, rfl, rfl, hall⟩ := hrel
    cases gk with
    | zero =>
      obtain rfl : k = n := by omega
      have hlt : ¬ ((k : Int) < (k : Int)) := by omega
      have HX := Lib.hid (show inB zs k x = false from by unfold inB; rw [decide_eq_false_iff_not]; rintro ⟨j, h1, h2⟩; exact hall.out j h1 h2)
      go_wp2_with fail
      go_ret
      exact ⟨by rw [HX.out]; rfl, rfl⟩
    | succ g =>
      obtain ⟨ad, rfl, h1, h2⟩ := H.out.at_ (k := k) (by have := HN.out; omega)
      have i0 : (0 : Int) ≤ (k : Int) := by omega
      have i1 : (k : Int) < (n : Int) := by omega
      cases hz : zs.getD k 0 == x
      · have HL := Lib.hid (show ∀ j, j < k + 1 → zs.getD j 0 ≠ x from by
          intro j hj
          rcases Nat.lt_or_ge j k with h | h
          · exact hall.out j h
          · obtain rfl : j = k := by omega
            simpa using hz)
        generalize zs.getD k 0 = z at *
        go_wp2_with fail
        go_roundg g
        case measure => omega
        case rel => exact ⟨k + 1, by omega, by go_num, rfl, HL⟩
      · have HX := Lib.hid (show inB zs n x = true from by unfold inB; rw [decide_eq_true_eq]; exact ⟨k, by omega, by simpa using hz⟩)
        generalize zs.getD k 0 = z at *
        go_wp2_with fail
        go_ret
        exact ⟨by rw [HX.out]; rfl, rfl⟩
theorem u64_nat (x : Int) : ∃ v : Nat, IntKind.u64.wrap x = (v : Int) := by
  refine ⟨(IntKind.u64.wrap x).toNat, ?_⟩
  rw [IntKind.wrap_u64]
  omega
set_option maxRecDepth 100000 in
set_option maxHeartbeats 2000000 in
theorem rmake_ends (A : Option Addr) (n cap : Nat) (zs : List Int) (w : World) (h : IA w A zs) (hn : n ≤ zs.length) (hl : n ≤ 300) :
    Calls Try.prog 80 #[.slice A n cap] w fun e w' => (∃ l : List Nat, l.length = 4 ∧ e = .returned (.agg (vs .u64 l))) ∧ Below w.heap.size w w' := by
  have H := Lib.hid h
  have HN := Lib.hid hn
  clear h hn
  go_enter Try.func80, Try.ntmps80
  go_wp2_with fail
  go_loopg [4, 5, 6] 4 (fun g s4 s5 s6 wr => ∃ (k : Nat) (l : List Nat), k + g = 4 ∧ s4 = .int .i64 k ∧ l.length = 4 ∧ Row .u64 107 wr w.heap.size Mk.zero ∧ Row .u64 107 wr (w.heap.size + 1) l ∧ Below w.heap.size w wr)
  case atStart =>
    refine ⟨0, Mk.zero, by omega, rfl, rfl, (Row.new w .u64 107 Mk.zero _ rfl).alloc _, ?_, ((Below.refl _ _).alloc (Nat.le_refl _) _).alloc (by simp) _⟩
    have := Row.new (w.alloc (.cells (vs .u64 Mk.zero) 107)) .u64 107 Mk.zero _ rfl
    rw [size_alloc] at this
    exact this
  case round =>
    obtain ⟨k, l, hk, rfl, hl4, r0, r1, hb⟩ := hrel
    cases gk with
    | succ g =>
      have hA := Lib.hid (H.out.next hb)
      have hd4 : decide ((k : Int) < 4) = true := by simp; omega
      go_wp2_with fail
      obtain ⟨Wk, hWk⟩ : ∃ Wk, Wk = wr := ⟨_, rfl⟩
      subst hWk
      go_loopg [5, 6] 64 (fun g2 s5 s6 wx => ∃ (j v : Nat), j + g2 = 64 ∧ s6 = .int .i64 ((g2 : Int) - 1) ∧ s5 = .int .u64 (v : Int) ∧ wx = Wk)
      case atStart => exact ⟨0, 0, by omega, rfl, rfl, rfl⟩
      case round =>
        obtain ⟨j, v, hj, rfl, rfl, rfl⟩ := hrel
        cases gk with
        | succ g2 =>
          obtain ⟨v1, e1⟩ := u64_nat ((v : Int) * 2)
          obtain ⟨v2, e2⟩ := u64_nat ((v1 : Int) + 1)
          have KI := Lib.hid (fun x => rin_any A n cap zs x wr hA.out HN.out hl)
          have t0 : (0 : Int) ≤ ((g2 + 1 : Nat) : Int) - 1 := by omega
          have hg2 : g2 ≤ 63 := by omega
          go_wp2_with fail
          refine (KI.out _).mono ?_
          rintro e w5 ⟨rfl, rfl⟩
          generalize inB zs n _ = b
          cases b
          · go_wp2_with fail
            go_roundg g2
            case measure => omega
            case rel => exact ⟨j + 1, v1, by omega, by go_num, rfl, rfl⟩
          · go_wp2_with fail
            go_roundg g2
            case measure => omega
            case rel => exact ⟨j + 1, v2, by omega, by go_num, rfl, rfl⟩
        | zero =>
          have c0 := r1.cell k (by omega)
          have f0 := r1.frozen k
          have i0 : (0 : Int) ≤ (k : Int) := by omega
          have i1 : (k : Int) < 4 := by omega
          go_wp2_with fail
          go_roundg g
          case measure => omega
          case rel => exact ⟨k + 1, l.set k v, by omega, by go_num, by simp [hl4], r0.setOther _ (by simp), r1.set k v, hb.setCell (by simp) _⟩
    | zero =>
      obtain rfl : k = 4 := by omega
      have hz := Lib.hid (info107 hl4)
      have HL := Lib.hid hl4
      go_wp2_with (first | (refine load_w rfl 107 _ rfl (w.heap.size + 1) .u64 l rfl 107 _ r1 Try.underlying107 rfl hz.out ?_) | (refine store_law rfl 107 _ _ rfl w.heap.size .u64 Mk.zero l rfl rfl 107 r0 (by rw [HL.out]; rfl) hz.out ?_; intro w7 hw7))
      exact bodyPost_ret (results_row rfl _ _ w.heap.size .u64 107 _ _ rfl (r0.hidSet hw7) Try.underlying107 rfl hz.out) rfl ⟨⟨l, HL.out, rfl⟩, below_hidSet hb hw7 (by omega)⟩
theorem inNonempty (B : Nat) (w : World) : Nonempty (In B w) := ⟨⟨w, Below.refl _ _⟩⟩
theorem rin_below (A : Option Addr) (n cap : Nat) (zs : List Int) (x : Int) (w : World) (h : IA w A zs) (hn : n ≤ zs.length) (hl : n ≤ 300) :
    Calls Try.prog 79 #[.slice A n cap, .int .i64 x] w fun e w' => e = .returned (.bool (inB zs n x)) ∧ Below w.heap.size w w' :=
  (rin_any A n cap zs x w h hn hl).mono fun e w' h => ⟨h.1, by rw [← h.2]; exact Below.refl _ _⟩
set_option maxRecDepth 100000 in
set_option maxHeartbeats 2000000 in
theorem rof_ends (A : Option Addr) (n cap : Nat) (zs : List Int) (w : World) (h : IA w A zs) (hn : zs.length = n) (hl : n ≤ 300) (hcap : n ≤ cap) :
    Calls Try.prog 71 #[.slice A n cap] w fun e w' => (∃ (l : List Nat) (er : Int), e = .returned (.tuple #[.agg (vs .u64 l), .int .i64 er]) ∧ l.length = 4) ∧ Below w.heap.size w w' := by
  have H := Lib.hid h
  have HN := Lib.hid hn
  clear h hn
  go_enter Try.func71, Try.ntmps71
  go_wp2_with fail
  go_loopg [4] n (fun g i wr => ∃ k : Nat, k + g = n ∧ i = .int .i64 k ∧ Row .u64 107 wr w.heap.size Mk.zero ∧ Below w.heap.size w wr)
  case atStart => exact ⟨0, by omega, rfl, Row.new w .u64 107 Mk.zero _ rfl, (Below.refl _ _).alloc (Nat.le_refl _) _⟩
  case round =>
    obtain ⟨k, hk, rfl, r0, hb⟩ := hrel
    have hA := Lib.hid (H.out.next hb)
    cases gk with
    | zero =>
      obtain rfl : k = n := by omega
      have hlt : ¬ ((k : Int) < (k : Int)) := by omega
      go_wp2_with fail
      refine (rmake_ends A k cap zs _ hA.out (by rw [HN.out]; exact Nat.le_refl _) hl).mono ?_
      rintro e w2 ⟨⟨l, hl4, rfl⟩, hb2⟩
      replace r0 := r0.below hb2 r0.lt
      replace hb := bmore hb hb2
      have hz := Lib.hid (info107 hl4)
      have HL := Lib.hid hl4
      go_wp2_with (refine store_law rfl 107 _ _ rfl w.heap.size .u64 Mk.zero l rfl rfl 107 r0 (by rw [HL.out]; rfl) hz.out ?_; intro w7 hw7)
      exact bodyPost_ret (results_row_tmp rfl _ _ w.heap.size .u64 107 _ _ rfl (r0.hidSet hw7) Try.underlying107 rfl hz.out) rfl ⟨⟨l, 0, rfl, HL.out⟩, below_hidSet hb hw7 (by omega)⟩
    | succ g =>
      obtain ⟨ad, rfl, hblk, hcell⟩ := hA.out.at_ (k := k) (by rw [HN.out]; omega)
      have SM := Lib.hid (fun i : In wr.heap.size wr => rin_below (some ad) k cap zs (zs.getD k 0) i.val (hA.out.next i.ok) (by rw [HN.out]; omega) (by omega))
      have C0 := In.cell (B := wr.heap.size) (by rw [block_add]; exact hblk) hcell
      have i0 : (0 : Int) ≤ (k : Int) := by omega
      have i1 : (k : Int) < (n : Int) := by omega
      have i2 : (k : Int) ≤ (cap : Int) := by omega
      have hIn := inNonempty wr.heap.size wr
      have hzz := Lib.hid (info107 (l := Mk.zero) rfl)
      clear hcell
      generalize zs.getD k 0 = z at *
      generalize inB zs k z = b at *
      cases t0 : decide (z < 0) <;> cases t1 : decide (255 < z) <;> cases b
      all_goals
        go_wp2_with fail
        refine region_in wr.heap.size (by kernel_rfl) (by kernel_rfl) ?_
        repeat (go_big_quiet_step (first | (go_at_call 79; with_reducible exact Calls.in_of (Nat.le_refl _) (SM.out _))))
        refine wpQuiet_nil ?_
        intro w6 hb6
        replace r0 := r0.below hb6 r0.lt
        replace hb := bmore hb hb6
        clear C0
        first
        | go_wp2_with (refine store_law rfl 107 _ _ rfl w.heap.size .u64 Mk.zero Mk.zero rfl rfl 107 r0 rfl hzz.out ?_; intro w7 hw7)
          exact bodyPost_ret (results_row_tmp rfl _ _ w.heap.size .u64 107 _ _ rfl (r0.hidSet hw7) Try.underlying107 rfl hzz.out) rfl ⟨⟨Mk.zero, 1, rfl, rfl⟩, below_hidSet hb hw7 (by omega)⟩
        | go_wp2_with fail
          go_roundg g
          case measure => omega
          case rel => exact ⟨k + 1, by omega, by go_num, r0, hb⟩
theorem four {l : List Nat} (h : l.length = 4) : ∃ a b c d : Int, vs .u64 l = #[.int .u64 a, .int .u64 b, .int .u64 c, .int .u64 d] := by
  match l, h with
  | [a, b, c, d], _ => exact ⟨a, b, c, d, rfl⟩
end Go.Proofs.Ytjolkcomlindhaa.Mo
