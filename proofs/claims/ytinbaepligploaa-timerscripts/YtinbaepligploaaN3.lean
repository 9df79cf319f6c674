/- TimerOnce, walked. -/
import Derived.Test.YtinbaepligploaaN2
import Derived.Laws.MakeOwn
namespace Go.Proofs.Ytinbaepligploaa
open Go.RowKit Go.Shelf

/-- Bools as cells. -/
def bls (bs : List Bool) : Array Value := (bs.map Value.bool).toArray
theorem bls_at {bs : List Bool} {j : Nat} (h : j < bs.length) : (bls bs)[j]? = some (.bool (bs.getD j false)) := by simp [bls, List.getD, h]
theorem bls_set (bs : List Bool) (j : Nat) (b : Bool) : (bls bs).set! j (.bool b) = bls (bs.set j b) := by simp [bls, List.map_set]
theorem info4 : (Try.prog.info? 4).map (fun i => (i.zero, i.size, i.bytes)) = some (some (.bool false), 1, 1) := by kernel_rfl
theorem made_bools (n : Nat) : madeCells #[Value.bool false] n = bls (List.replicate n false) := by
  apply Array.ext_getElem?
  intro i
  by_cases h : i < n
  · rw [bls_at (by simpa using h)]
    simp [madeCells, h, Nat.mod_one, List.getD]
  · rw [Array.getElem?_eq_none (by simp [madeCells]; omega), Array.getElem?_eq_none (by simp [bls]; omega)]
theorem make_bools (n : Nat) (V : World) (hn : n ≤ 1000) : (Instr.makeSlice 42 (.int .i64 (n : Int)) (.int .i64 (n : Int))).run Try.prog V = .ok (.slice (some ⟨V.heap.size, 0, none⟩) n n) (V.alloc (.cells (bls (List.replicate n false)) 4)) := by
  obtain ⟨i, hi, hz0, hz1, hz2⟩ := info_parts info4
  have hrun := run_make (P := Try.prog) V 42 4 i _ Try.underlying42 hi hz0 .i64 .i64 (n : Int) (n : Int) (by omega) (by omega) (by rw [hz2]; omega) (by omega)
  simp only [Int.toNat_natCast, hz1, Nat.mul_one, Value.cells, made_bools] at hrun
  exact hrun
/-- What was told so far. -/
structure Td (zs : List Int) (n : Nat) (last : Int) (P : List Dl) (bs : List Bool) : Prop where
  len : bs.length = n
  val : ∀ j, j < n → bs.getD j false = (decide (zs.getD j 0 ≤ last) || hasI (j : Int) P)
theorem td_start {zs : List Int} {n : Nat} (h : ∀ j, j < n → okN (zs.getD j 0) = true) : Td zs n (-1) [] (List.replicate n false) := by
  refine ⟨by simp, fun j hj => ?_⟩
  have h1 := h j hj
  have h2 : ¬zs.getD j 0 ≤ -1 := by
    unfold okN at h1
    rw [Bool.and_eq_true, decide_eq_true_eq, decide_eq_true_eq] at h1
    omega
  rw [decide_eq_false h2]
  simp [hasI, List.getD, hj]
theorem td_step {zs : List Int} {n : Nat} {last : Int} {P : List Dl} {bs : List Bool} (h : Td zs n last P bs) {j : Nat} {d : Dl} (hj : j < n) (hd : d.1 = (j : Int)) : Td zs n last (P ++ [d]) (bs.set j true) := by
  refine ⟨by rw [List.length_set]; exact h.len, fun i hi => ?_⟩
  have hap : hasI (i : Int) (P ++ [d]) = (hasI (i : Int) P || decide (d.1 = (i : Int))) := by simp [hasI, List.any_append]
  rw [hap]
  by_cases e : j = i
  · subst e
    have e1 : (bs.set j true).getD j false = true := by simp [List.getD, h.len, hj]
    rw [e1, hd]
    simp
  · have e1 : (bs.set j true).getD i false = bs.getD i false := by simp [List.getD, e]
    rw [e1, h.val i hi, hd]
    have : ¬(j : Int) = (i : Int) := by omega
    simp [this]
theorem srt_nth : ∀ {L : List Dl}, Srt L → ∀ i j, i < j → j < L.length → lt (nt L i) (nt L j)
  | [], _, i, j, _, h => by simp at h
  | x :: L, hs, i, j, hij, hj => by
    rcases j with _ | j
    · omega
    · have hj' : j < L.length := by simpa using hj
      have e2 : nt (x :: L) (j + 1) = nt L j := rfl
      rw [e2]
      rcases i with _ | i
      · exact hs.1 _ (nt_mem hj')
      · exact srt_nth hs.2 i j (by omega) hj'
theorem left_left {S : List Dl} {a b : Int} (h : a ≤ b) : leftL (leftL S a) b = leftL S b := by
  unfold leftL
  rw [List.filter_filter]
  congr 1
  funext d
  rw [Bool.eq_iff_iff]
  simp only [Bool.and_eq_true, decide_eq_true_eq]
  omega
theorem left_all {zs : List Int} {n : Nat} {S : List Dl} (h : Fl zs n S) (ho : ∀ j, j < n → okN (zs.getD j 0) = true) : leftL S (-1) = S := by
  refine List.filter_eq_self.2 fun d hd => ?_
  obtain ⟨i, hi, rfl⟩ := (h.mem d).1 hd
  have h1 := ho i hi
  unfold okN at h1
  rw [Bool.and_eq_true, decide_eq_true_eq, decide_eq_true_eq] at h1
  simp only [decide_eq_true_eq]
  omega
/-- Those that come at one time. -/
theorem once_nth {zs : List Int} {n : Nat} {S : List Dl} (h : Fl zs n S) {last t : Int} {D : List Dl} (e : dueL (leftL S last) t = D) (k : Nat) (hk : k < D.length) :
    ∃ j : Nat, j < n ∧ (D.map (·.1)).getD k 0 = (j : Int) ∧ nt D k = ((j : Int), zs.getD j 0) ∧ last < zs.getD j 0 ∧ zs.getD j 0 ≤ t ∧ hasI (j : Int) (D.take k) = false := by
  have hm := nt_mem hk
  have e1 : (D.map (·.1)).getD k 0 = (nt D k).1 := by
    rw [nt_eq hk]
    simp [List.getD, hk]
  have hids : Ids D := by rw [← e]; exact ids_filter _ _ (ids_filter _ _ h.ok.ids)
  have hp := nt_parts hk
  have hap : Ids (D.take k ++ nt D k :: D.drop (k + 1)) := by rw [← hp]; exact hids
  have h3 := (ids_apart hap).1
  have hm2 : nt D k ∈ dueL (leftL S last) t := by rw [e]; exact hm
  unfold dueL leftL at hm2
  rw [List.mem_filter, List.mem_filter] at hm2
  obtain ⟨⟨h4, h5⟩, h6⟩ := hm2
  obtain ⟨j, hj, ej⟩ := (h.mem _).1 h4
  rw [ej] at h3 h5 h6 e1
  simp only [decide_eq_true_eq] at h5 h6
  refine ⟨j, hj, e1, ej, h5, h6, ?_⟩
  rw [← Bool.not_eq_true, has_iff]
  rintro ⟨d, hd, e7⟩
  exact h3 d hd e7
theorem once_lt {zs : List Int} {n : Nat} {S : List Dl} (h : Fl zs n S) {last t : Int} {D : List Dl} (e : dueL (leftL S last) t = D) (k : Nat) (hk : k + 1 < D.length) : lt (nt D k) (nt D (k + 1)) := by
  have hs : Srt D := by rw [← e]; exact srt_filter _ _ (srt_filter _ _ h.ok.srt)
  exact srt_nth hs k (k + 1) (by omega) hk
theorem td_end {zs : List Int} {n : Nat} {S : List Dl} (h : Fl zs n S) {last t : Int} {D : List Dl} (e : dueL (leftL S last) t = D) (hl : last ≤ t) {bs : List Bool} (td : Td zs n last D bs) : Td zs n t [] bs := by
  refine ⟨td.len, fun j hj => ?_⟩
  rw [td.val j hj]
  have e1 : hasI (j : Int) [] = false := rfl
  rw [e1, Bool.or_false, Bool.eq_iff_iff, Bool.or_eq_true, decide_eq_true_eq, decide_eq_true_eq, has_iff]
  constructor
  · rintro (h1 | ⟨d, hd, hdj⟩)
    · omega
    · rw [← e] at hd
      unfold dueL leftL at hd
      rw [List.mem_filter, List.mem_filter] at hd
      obtain ⟨⟨h4, h5⟩, h6⟩ := hd
      obtain ⟨i, hi, rfl⟩ := (h.mem d).1 h4
      simp only [decide_eq_true_eq] at h6
      have : i = j := by have h9 : (i : Int) = (j : Int) := hdj; omega
      subst this
      exact h6
  · intro h1
    by_cases h2 : zs.getD j 0 ≤ last
    · exact .inl h2
    · refine .inr ⟨((j : Int), zs.getD j 0), ?_, rfl⟩
      rw [← e]
      unfold dueL leftL
      rw [List.mem_filter, List.mem_filter]
      exact ⟨⟨(h.mem _).2 ⟨j, hj, rfl⟩, by simp only [decide_eq_true_eq]; omega⟩, by simp only [decide_eq_true_eq]; exact h1⟩
theorem cell_other {V : World} {a b : Addr} {v : Value} (h : b.block ≠ a.block) : (V.setCell a v).cell? b = V.cell? b := World.cell?_of_block (heap_setCell_other V a b.block v h)
theorem ints_other {V : World} {A : Option Addr} {zs : List Int} {g i : Nat} {v : Value} (h : IntsAt V A zs) (hne : ∀ ad, A = some ad → ad.block ≠ g) : IntsAt (V.setCell ⟨g, i, none⟩ v) A zs := by
  rcases h with rfl | ⟨ad, rfl, h1, h2⟩
  · exact .inl rfl
  · exact .inr ⟨ad, rfl, by simpa using h1, fun j hj => (cell_other (b := ad.add j) (by rw [block_add]; exact hne ad rfl)).trans (h2 j hj)⟩
theorem tq_other {V : World} {p g i t : Nat} {S : List Dl} {cs : Array Value} {v : Value} (h : TQ V p S) (hb : Bk V g t cs) (ht : t ≠ 77) (hg : g ≠ p) : TQ (V.setCell ⟨g, i, none⟩ v) p S := by
  obtain ⟨L, ⟨⟨x, hx⟩, hh⟩, hp⟩ := h
  refine ⟨L, ⟨⟨x, (heap_setCell_other V ⟨g, i, none⟩ p v (fun e => hg e.symm)).trans hx.blk, hx.row.1, ?_⟩, hh⟩, hp⟩
  rcases hx.row.2 with h0 | ⟨g', cap, cur, h1, h2, h3, h4⟩
  · exact .inl h0
  · refine .inr ⟨g', cap, cur, h1, h2, (heap_setCell_other V ⟨g, i, none⟩ g' v (fun e => ?_)).trans h3, h4⟩
    have e' : g' = g := e
    subst e'
    rw [show V.heap[g']? = _ from hb] at h3
    injection h3 with h3
    injection h3 with _ h3
    exact ht h3
theorem Lq.other {w V : World} {p g i t : Nat} {S : List Dl} {cs : Array Value} {v : Value} (h : Lq w V p S) (hb : Bk V g t cs) (ht : t ≠ 77) (hg : p < g) : Lq w (V.setCell ⟨g, i, none⟩ v) p S :=
  ⟨tq_other h.tq hb ht (by omega), h.ok, h.low.setCell (show p ≤ g by omega) v⟩
/-- What Due tells, in a new slice. -/
theorem Lq.due2 {w V : World} {p : Nat} {S : List Dl} (h : Lq w V p S) (now : Int) : Calls Try.prog 22 #[.pointer (some ⟨p, 0, none⟩), .int .i64 now] V fun x V' => ∃ A ca, x = .returned (.slice A (dueL S now).length ca) ∧ IntsAt V' A ((dueL S now).map (·.1)) ∧ (∀ ad, A = some ad → V.heap.size ≤ ad.block) ∧ Tr p V V' ∧ Lq w V' p (leftL S now) :=
  (due_any h.tq h.ok now).mono fun _ V' ⟨v, h1, h2, h3, h4⟩ => by
    obtain ⟨A, ca, rfl⟩ := own_form h2
    refine ⟨A, ca, h1, ints_iv (by simp) h2, ?_, h4, h3, ok_left h.ok now, low_tr h.low h4 (Nat.le_of_lt h.tq.lt)⟩
    intro ad e
    subst e
    rcases h2.2 with ⟨e0, _⟩ | ⟨g, cap, cur, e0, hb, _⟩
    · cases e0
    · injection e0 with e0
      injection e0 with e0
      subst e0
      exact hb
/-- The law's state between two times. -/
structure Ost (w V : World) (p g n : Nat) (zs : List Int) (S0 : List Dl) (last : Int) (bs : List Bool) : Prop where
  lq : Lq w V p (leftL S0 last)
  told : Bk V g 4 (bls bs)
  td : Td zs n last [] bs
/-- The law's state within one time. -/
structure Is (w V : World) (p g n : Nat) (zs : List Int) (S0 D : List Dl) (A4 : Option Addr) (last t : Int) (k : Nat) (bs : List Bool) : Prop where
  lq : Lq w V p (leftL S0 t)
  told : Bk V g 4 (bls bs)
  td : Td zs n last (D.take k) bs
  li : IntsAt V A4 (D.map (·.1))
theorem Is.next {w V V' : World} {p g n k : Nat} {zs : List Int} {S0 D : List Dl} {A4 : Option Addr} {last t : Int} {bs : List Bool} (h : Is w V p g n zs S0 D A4 last t k bs) (hb : Below V.heap.size V V') : Is w V' p g n zs S0 D A4 last t k bs := ⟨h.lq.next hb, h.told.next hb, h.td, h.li.next hb⟩
theorem Is.put {w V : World} {p g n k j : Nat} {zs : List Int} {S0 D : List Dl} {A4 : Option Addr} {last t : Int} {bs : List Bool} {z : Int} (h : Is w V p g n zs S0 D A4 last t k bs) (hk : k < D.length) (hj : j < n) (hd : nt D k = ((j : Int), z)) (hg : p < g) (hA : ∀ ad, A4 = some ad → ad.block ≠ g) : Is w (V.setCell ⟨g, j, none⟩ (.bool true)) p g n zs S0 D A4 last t (k + 1) (bs.set j true) := by
  refine ⟨h.lq.other h.told (by decide) hg, ?_, ?_, ints_other h.li hA⟩
  · have := h.told.set j (.bool true)
    rw [bls_set] at this
    exact this
  · rw [List.take_add_one, nt_get hk, hd]
    exact td_step h.td hj rfl

set_option maxRecDepth 100000 in
set_option maxHeartbeats 16000000 in
theorem timerOnce_any (A B : Option Addr) (n cap m capm : Nat) (zs ts : List Int) (w : World) (hz : IntsAt w A zs) (hn : zs.length = n) (hm : n ≤ maxLen) (hzB : IntsAt w B ts) (hnB : ts.length = m) (hmB : m ≤ maxLen) :
    Calls Try.prog 4 #[.slice A n cap, .slice B m capm] w fun e w' => e = .returned (.bool true) ∧ Below w.heap.size w w' := by
  unfold maxLen at hm hmB
  have HN := Lib.hid hn
  have HNB := Lib.hid hnB
  clear hn hnB
  by_cases h0 : 100 < n
  · go_enter Try.func4, Try.ntmps4
    go_wp2_with fail
    refine (tlive_any _).mono ?_
    rintro x w1 ⟨rfl, hb⟩
    go_wp2_with fail
    go_ret
    exact ⟨rfl, hb⟩
  by_cases h1 : 100 < m
  · go_enter Try.func4, Try.ntmps4
    go_wp2_with fail
    refine (tlive_any _).mono ?_
    rintro x w1 ⟨rfl, hb⟩
    go_wp2_with fail
    go_ret
    exact ⟨rfl, hb⟩
  go_enter Try.func4, Try.ntmps4
  go_wp2_with fail
  refine (Lq.new w).mono ?_
  rintro x V ⟨rfl, lq⟩
  generalize hp : w.heap.size = p at *
  replace hp := Lib.hid hp
  have st : Fs w V p A zs 0 [] := ⟨lq, fl_zero zs, lq.ints hp.out hz⟩
  replace hz := Lib.hid hz
  replace hzB := Lib.hid hzB
  clear lq
  go_wp2_with fail
  go_loopw [6] (fun iv wr => ∃ (k : Nat) (S : List Dl), k ≤ n ∧ iv = .int .i64 (k : Int) ∧ Fs w wr p A zs k S ∧ Hid (∀ j, j < k → okN (zs.getD j 0) = true)) (fun iv _ => n - (intOf iv).toNat)
  case atStart => exact ⟨0, [], Nat.zero_le _, rfl, st, Lib.hid (fun j hj => by omega)⟩
  case round =>
    clear st
    obtain ⟨k, S, hk, rfl, st, HO⟩ := hrel
    by_cases hlt : k < n
    · obtain ⟨ad, rfl, hbl, hc⟩ := st.ints.at_ (k := k) (by rw [HN.out]; exact hlt)
      have K := Lib.hid (st.lq.set (k : Int) (zs.getD k 0))
      cases ho : okN (zs.getD k 0)
      · have he := Lib.hid (setE_no (S := S) (id := (k : Int)) ho)
        rw [he.out] at K
        generalize zs.getD k 0 = z at *
        clear ho
        go_wp2_with fail
        refine K.out.mono ?_
        rintro x w2 ⟨rfl, lq2⟩
        go_wp2_with fail
        refine (tlive_any _).mono ?_
        rintro x w3 ⟨rfl, hb⟩
        go_wp2_with fail
        go_ret
        exact ⟨rfl, lq2.fin hp hb⟩
      · obtain ⟨he, hfl⟩ := st.fl.step (show k < 200 by omega) ho
        rw [he] at K
        replace hfl := Lib.hid hfl
        have HO2 : Hid (∀ j, j < k + 1 → okN (zs.getD j 0) = true) := Lib.hid (fun j hj => by
          by_cases e : j = k
          · rw [e]; exact ho
          · exact HO.out j (by omega))
        generalize setS S (k : Int) (zs.getD k 0) = S' at *
        generalize zs.getD k 0 = z at *
        clear ho he
        go_wp2_with fail
        refine K.out.mono ?_
        rintro x w2 ⟨rfl, lq2⟩
        go_wp2_with fail
        go_roundw
        case rel => exact ⟨k + 1, S', by omega, by go_num, ⟨lq2, hfl.out, lq2.ints hp.out hz.out⟩, HO2⟩
        case measure => simp [intOf]; omega
    · obtain rfl : k = n := by omega
      have hmk := make_bools k wr (by omega)
      have hgp := st.lq.tq.lt
      have hb0 := below_alloc wr (.cells (bls (List.replicate k false)) 4)
      have os : Ost w (wr.alloc (.cells (bls (List.replicate k false)) 4)) p wr.heap.size k zs S (-1) (List.replicate k false) := ⟨by rw [left_all st.fl HO.out]; exact st.lq.next hb0, Bk.new _ _ _, td_start HO.out⟩
      have HF := Lib.hid st.fl
      generalize wr.heap.size = g at *
      clear st hb0 HO
      go_wp2_with fail
      clear hmk
      generalize wr.alloc (.cells (bls (List.replicate k false)) 4) = W0 at *
      go_loopw [8, 9] (fun lv iv wr => ∃ (i : Nat) (last : Int) (bs : List Bool), i ≤ m ∧ iv = .int .i64 (i : Int) ∧ lv = .int .i64 last ∧ Ost w wr p g k zs S last bs) (fun _ iv _ => m - (intOf iv).toNat)
      case atStart => exact ⟨0, -1, _, Nat.zero_le _, rfl, rfl, os⟩
      case round =>
        clear os
        obtain ⟨i, last, bs, hi, rfl, rfl, os⟩ := hrel
        by_cases hlt2 : i < m
        · obtain ⟨adB, rfl, hbB, hcB⟩ := (os.lq.ints hp.out hzB.out).at_ (k := i) (by rw [HNB.out]; exact hlt2)
          have HT := Lib.hid (fun V' (h : IntsAt V' (some adB) ts) => h)
          obtain ⟨t, ht⟩ : ∃ t, t = ts.getD i 0 := ⟨_, rfl⟩
          rw [← ht] at hcB
          replace ht := Lib.hid ht
          by_cases hlast : t < last
          · go_wp2_with fail
            refine (tlive_any _).mono ?_
            rintro x w3 ⟨rfl, hb⟩
            go_wp2_with fail
            go_ret
            exact ⟨rfl, os.lq.fin hp hb⟩
          have K := Lib.hid (os.lq.due2 t)
          rw [left_left (show last ≤ t by omega)] at K
          have HD1 := Lib.hid (fun (D : List Dl) (e : dueL (leftL S last) t = D) => once_nth HF.out e)
          have HD2 := Lib.hid (fun (D : List Dl) (e : dueL (leftL S last) t = D) => once_lt HF.out e)
          have HD3 := Lib.hid (fun (D : List Dl) (e : dueL (leftL S last) t = D) (bs : List Bool) => td_end (bs := bs) HF.out e (show last ≤ t by omega))
          have HLE := Lib.hid (show (dueL (leftL S last) t).length ≤ 256 from Nat.le_trans (due_le _ _) os.lq.ok.len)
          generalize hD : dueL (leftL S last) t = D at *
          replace HD1 := Lib.hid (HD1.out D rfl)
          replace HD2 := Lib.hid (HD2.out D rfl)
          replace HD3 := Lib.hid (HD3.out D rfl)
          clear hD
          obtain ⟨q, hq⟩ : ∃ q, q = D.length := ⟨_, rfl⟩
          rw [← hq] at K
          have hq256 : q ≤ 256 := by rw [hq]; exact HLE.out
          replace hq := Lib.hid hq
          clear HLE
          go_wp2_with fail
          refine K.out.mono ?_
          rintro x w5 ⟨A4, c4, rfl, hz4, hfr, tr5, lq5⟩
          have hgl := os.told.lt
          have is : Is w w5 p g k zs S D A4 last t 0 bs := ⟨lq5, tr5.bk os.told (by omega) (by decide), by rw [List.take_zero]; exact os.td, hz4⟩
          have HA : Hid (∀ ad, A4 = some ad → ad.block ≠ g) := Lib.hid (fun ad e => by have := hfr ad e; omega)
          clear K hz4 hfr tr5 lq5 os hgl hcB
          go_wp2_with fail
          go_loopw [11] (fun kv wr => ∃ (c : Nat) (bs : List Bool), c ≤ q ∧ kv = .int .i64 (c : Int) ∧ Is w wr p g k zs S D A4 last t c bs) (fun kv _ => q - (intOf kv).toNat)
          case atStart => exact ⟨0, bs, Nat.zero_le _, rfl, is⟩
          case round =>
            clear is
            obtain ⟨c, bs, hc, rfl, is⟩ := hrel
            by_cases hlt3 : c < q
            · obtain ⟨j, hj1, hj2, hj3, hj4, hj5, hj6⟩ := HD1.out c (by rw [← hq.out]; exact hlt3)
              obtain ⟨ad4, rfl, hb4, hc4⟩ := is.li.at_ (k := c) (by rw [List.length_map, ← hq.out]; exact hlt3)
              rw [hj2] at hc4
              have hI := is.lq.ints hp.out hz.out
              obtain ⟨ad, rfl, hbA, hcA⟩ := hI.at_ (k := j) (by rw [HN.out]; exact hj1)
              obtain ⟨adB2, eB2, hbB2, hcB2⟩ := (is.lq.ints hp.out hzB.out).at_ (k := i) (by rw [HNB.out]; exact hlt2)
              injection eB2 with eB2
              subst eB2
              rw [← ht.out] at hcB2
              have tl := is.told.cell j _ (bls_at (by rw [is.td.len]; exact hj1))
              rw [is.td.val j hj1, hj6, decide_eq_false (show ¬zs.getD j 0 ≤ last by omega)] at tl
              have fz := is.told.frozen j
              have HIS := Lib.hid is
              have HPUT := Lib.hid (fun V' (h : Below wr.heap.size wr V') => (is.next h).put (by rw [← hq.out]; exact hlt3) hj1 hj3 hgp HA.out)
              have t1 : decide (t < zs.getD j 0) = false := by simp only [decide_eq_false_iff_not]; omega
              have t2 : decide (zs.getD j 0 ≤ last) = false := by simp only [decide_eq_false_iff_not]; omega
              have j2 : (0 : Int) ≤ (j : Int) := by omega
              have j3 : (j : Int) < (k : Int) := by omega
              have c2 : (0 : Int) ≤ (c : Int) := by omega
              have c3 : (c : Int) < (q : Int) := by omega
              have i2 : (0 : Int) ≤ (i : Int) := by omega
              have i3 : (i : Int) < (m : Int) := by omega
              clear hI hj2 hj6
              by_cases c0 : c = 0
              · have v1 : decide ((0 : Int) < (c : Int)) = false := by simp; omega
                have v2 : decide (0 < c) = false := by simp; omega
                generalize zs.getD j 0 = z at *
                clear hj3 c0
                go_wp2_with fail
                go_quiet (fail)
                go_wp2_with fail
                go_quiet (fail)
                go_wp2_with fail
                go_roundw
                case rel => exact ⟨c + 1, bs.set j true, by omega, by go_num, HPUT.out _ (below_drewN' (Below.refl _ _) _)⟩
                case measure => simp [intOf]; omega
              · obtain ⟨c', hcc⟩ : ∃ c', c = c' + 1 := ⟨c - 1, by omega⟩
                have v1 : decide ((0 : Int) < (c : Int)) = true := by simp; omega
                have v2 : decide (0 < c) = true := by simp; omega
                obtain ⟨j', h1', h2', h3', -, -, -⟩ := HD1.out c' (by rw [← hq.out]; omega)
                have hlt4 := HD2.out c' (by rw [← hq.out]; omega)
                rw [← hcc, hj3, h3'] at hlt4
                obtain ⟨ad5, e5, hb5, hc5⟩ := HIS.out.li.at_ (k := c') (by rw [List.length_map, ← hq.out]; omega)
                injection e5 with e5
                subst e5
                rw [h2'] at hc5
                obtain ⟨ad6, e6, hb6, hc6⟩ := (HIS.out.lq.ints hp.out hz.out).at_ (k := j') (by rw [HN.out]; exact h1')
                injection e6 with e6
                subst e6
                have hcm : (c : Int) - 1 = (c' : Int) := by omega
                have d2 : (0 : Int) ≤ (c' : Int) := by omega
                have d3 : (c' : Int) < (q : Int) := by omega
                clear hj3 h3' h2' c0 hcc
                unfold lt at hlt4
                simp only at hlt4
                generalize zs.getD j 0 = z at *
                generalize zs.getD j' 0 = z' at *
                have u1 : decide (z < z') = false := by simp only [decide_eq_false_iff_not]; omega
                have k2 : (0 : Int) ≤ (j' : Int) := by omega
                have k3 : (j' : Int) < (k : Int) := by omega
                by_cases hzz : z' = z
                · have u2 : (z' == z) = true := by simpa using hzz
                  have u3 : decide ((j : Int) ≤ (j' : Int)) = false := by simp only [decide_eq_false_iff_not]; omega
                  have u4 : decide (j ≤ j') = false := by simp only [decide_eq_false_iff_not]; omega
                  clear hzz hlt4
                  go_wp2_with fail
                  go_quiet (fail)
                  go_wp2_with fail
                  go_quiet (fail)
                  go_wp2_with fail
                  go_roundw
                  case rel => exact ⟨c + 1, bs.set j true, by omega, by go_num, HPUT.out _ (below_drewN' (Below.refl _ _) _)⟩
                  case measure => simp [intOf]; omega
                · have u2 : (z' == z) = false := by simpa using hzz
                  clear hzz hlt4
                  go_wp2_with fail
                  go_quiet (fail)
                  go_wp2_with fail
                  go_quiet (fail)
                  go_wp2_with fail
                  go_roundw
                  case rel => exact ⟨c + 1, bs.set j true, by omega, by go_num, HPUT.out _ (below_drewN' (Below.refl _ _) _)⟩
                  case measure => simp [intOf]; omega
            · obtain rfl : c = q := by omega
              have hB2 := is.lq.ints hp.out hzB.out
              obtain ⟨adB2, eB2, hbB2, hcB2⟩ := hB2.at_ (k := i) (by rw [HNB.out]; exact hlt2)
              injection eB2 with eB2
              subst eB2
              rw [← ht.out] at hcB2
              have td2 := Lib.hid (HD3.out bs (by have := is.td; rw [hq.out, List.take_length] at this; exact this))
              go_wp2_with fail
              go_roundw
              case rel => exact ⟨i + 1, t, bs, by omega, by go_num, rfl, is.lq, is.told, td2.out⟩
              case measure => simp [intOf]; omega
        · obtain rfl : i = m := by omega
          go_wp2_with fail
          go_loopw [12] (fun jv wr' => ∃ j : Nat, j ≤ k ∧ jv = .int .i64 (j : Int) ∧ Below wr.heap.size wr wr') (fun jv _ => k - (intOf jv).toNat)
          case atStart => exact ⟨0, Nat.zero_le _, rfl, Below.refl _ _⟩
          case round =>
            obtain ⟨j, hj, rfl, hb⟩ := hrel
            by_cases hlt3 : j < k
            · obtain ⟨ad, rfl, hbl, hcA⟩ := ((os.lq.next hb).ints hp.out hz.out).at_ (k := j) (by rw [HN.out]; exact hlt3)
              have tl := (os.told.next hb).cell j _ (bls_at (by rw [os.td.len]; exact hlt3))
              have tv := os.td.val j hlt3
              rw [show hasI (j : Int) [] = false from rfl, Bool.or_false] at tv
              rw [tv] at tl
              clear tv
              generalize zs.getD j 0 = z at *
              have j2 : (0 : Int) ≤ (j : Int) := by omega
              have j3 : (j : Int) < (k : Int) := by omega
              have hbb : (decide (z ≤ last) != decide (z ≤ last)) = false := by simp
              go_wp2_with fail
              go_quiet (fail)
              go_wp2_with fail
              go_roundw
              case rel => exact ⟨j + 1, by omega, by go_num, below_drewN' hb _⟩
              case measure => simp [intOf]; omega
            · obtain rfl : j = k := by omega
              go_wp2_with fail
              refine (tlive_any _).mono ?_
              rintro x w7 ⟨rfl, hb7⟩
              go_wp2_with fail
              go_ret
              exact ⟨rfl, (os.lq.next hb).fin hp hb7⟩
end Go.Proofs.Ytinbaepligploaa
