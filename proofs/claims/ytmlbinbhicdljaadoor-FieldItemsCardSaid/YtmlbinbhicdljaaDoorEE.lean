/-
  Two lists alike; lists that are too great.
-/
import Derived.WalkSmall
import Derived.Test.YtmlbinbhicdljaaDoorED
namespace Go.Proofs.YtmlbinbhicdljaaDoor
open Go Go.RowKit
open Go.Sort (grow)

theorem take_same_snoc {α : Type} {l m : List α} {k : Nat} (h1 : k < l.length) (h2 : k < m.length) (h : l.take k = m.take k) (hx : l[k] = m[k]) : l.take (k + 1) = m.take (k + 1) := by
  rw [List.take_succ_eq_append_getElem h1, List.take_succ_eq_append_getElem h2, h, hx]
theorem ne_at {α : Type} {l m : List α} {k : Nat} (h1 : k < l.length) (h2 : k < m.length) (hx : l[k] ≠ m[k]) : l ≠ m := by
  rintro rfl; exact hx rfl
/-- two lists are alike -/
noncomputable def sameF (l m : List Fd) : Bool := @decide (l = m) (Classical.propDecidable _)
theorem sameF_t {l m : List Fd} (h : l = m) : sameF l m = true := by unfold sameF; simp [h]
theorem sameF_f {l m : List Fd} (h : l ≠ m) : sameF l m = false := by unfold sameF; simp [h]

set_option maxHeartbeats 4000000 in
theorem rsame_any (A A' : Option Addr) (n n' c c' : Nat) (l m : List Fd) (w : World) (hl : l.length = n) (hl' : m.length = n') (hm : n ≤ 1000000) (hs : FdAt w w.heap.size A l) (hs' : FdAt w w.heap.size A' m) :
    Calls Tryd.prog 19 #[.slice A n c, .slice A' n' c'] w fun e w' => e = .returned (.bool (sameF l m)) ∧ Below w.heap.size w w' := by
  have HS := Lib.hid hs; have HS' := Lib.hid hs'
  have HL := Lib.hid hl; have HL' := Lib.hid hl'
  clear hs hs' hl hl'
  by_cases hlen : n = n'
  · subst hlen
    go_enter Tryd.func19, Tryd.ntmps19
    go_wp2
    go_loopw [13] (fun i wr => ∃ k : Nat, k ≤ n ∧ i = .int .i64 k ∧ Hid (l.take k = m.take k) ∧ Below w.heap.size w wr) (fun i _ => n - (intOf i).toNat)
    case atStart => exact ⟨0, Nat.zero_le _, rfl, rfl, Below.refl _ _⟩
    case round =>
      obtain ⟨k, hk, rfl, HG, hbel⟩ := hrel
      by_cases hlt : k < n
      · have hkl : k < l.length := by have := HL.out; omega
        have hkm : k < m.length := by have := HL'.out; omega
        obtain ⟨b, o, rfl, hb, hc⟩ := (HS.out.below hbel (Nat.le_refl _)) (by omega)
        obtain ⟨b', o', rfl, hb', hc'⟩ := (HS'.out.below hbel (Nat.le_refl _)) (by omega)
        obtain ⟨c0, c1⟩ := hc k hkl
        obtain ⟨d0, d1⟩ := hc' k hkm
        clear hc hc'
        have HT := Lib.hid (take_same_snoc hkl hkm HG.out)
        have HA := Lib.hid (ne_at hkl hkm)
        obtain ⟨X, hX⟩ : ∃ X, Hid (l[k] = X) := ⟨l[k], rfl⟩
        obtain ⟨Y, hY⟩ : ∃ Y, Hid (m[k] = Y) := ⟨m[k], rfl⟩
        rw [hX.out] at HT HA c0 c1
        rw [hY.out] at HT HA d0 d1
        clear hX hY
        obtain ⟨x, p⟩ := X
        obtain ⟨y, q⟩ := Y
        simp only at c0 c1 d0 d1
        have hbz : b < wr.heap.size := by have := hbel.size; omega
        have hbz' : b' < wr.heap.size := by have := hbel.size; omega
        by_cases h1 : x = y
        · subst h1
          have e1 : (x.toList == x.toList) = true := by simp
          by_cases h2 : p = q
          · subst h2
            have e2 : (p.toList == p.toList) = true := by simp
            have HF : Hid (l.take (k + 1) = m.take (k + 1)) := HT.out rfl
            clear HT HA HG
            go_wp2
            go_quiet (fail)
            go_wp2
            go_roundw
            case rel => exact ⟨k + 1, by omega, by go_num, HF, below_drewN hbel _⟩
            case measure => simp [intOf]; omega
          · have HF : Hid (l ≠ m) := HA.out (by intro h; injection h with _ h; exact h2 h)
            have e2 := eqB_f h2
            clear HT HA HG
            go_wp2
            go_quiet (fail)
            go_wp2
            go_ret
            exact ⟨ret_bool (sameF_f HF.out).symm, below_drewN hbel _⟩
        · have HF : Hid (l ≠ m) := HA.out (by intro h; injection h with h _; exact h1 h)
          have e1 := eqB_f h1
          clear HT HA HG
          go_wp2
          go_quiet (fail)
          go_wp2
          go_ret
          exact ⟨ret_bool (sameF_f HF.out).symm, below_drewN hbel _⟩
      · obtain rfl : k = n := by omega
        have HF : Hid (l = m) := by
          have := HG.out
          rwa [List.take_of_length_le (by have := HL.out; omega), List.take_of_length_le (by have := HL'.out; omega)] at this
        clear HG
        go_wp2
        go_ret
        exact ⟨ret_bool (sameF_t HF.out).symm, hbel⟩
  · have hb1 : ((n : Int) != (n' : Int)) = true := by rw [bne_iff_ne]; omega
    have HF : Hid (l ≠ m) := fun e => hlen (by rw [← HL.out, ← HL'.out, e])
    go_enter Tryd.func19, Tryd.ntmps19
    go_wp2
    go_ret
    exact ⟨ret_bool (sameF_f HF.out).symm, Below.refl _ _⟩
theorem rsame_is {W : World} {v u : Value} {l m : List Fd} (h : IsFd W v l) (k : IsFd W u m) (hm : l.length ≤ 1000000) :
    Calls Tryd.prog 19 #[v, u] W fun e w' => e = .returned (.bool (sameF l m)) ∧ Below W.heap.size W w' := by
  obtain ⟨A, c, rfl, _, hs⟩ := h
  obtain ⟨A', c', rfl, _, hs'⟩ := k
  exact rsame_any A A' _ _ c c' l m W rfl rfl hm hs hs'

/-- two lists are alike -/
noncomputable def sameX (l m : List ByteArray) : Bool := @decide (l = m) (Classical.propDecidable _)
theorem sameX_t {l m : List ByteArray} (h : l = m) : sameX l m = true := by unfold sameX; simp [h]
theorem sameX_f {l m : List ByteArray} (h : l ≠ m) : sameX l m = false := by unfold sameX; simp [h]

set_option maxHeartbeats 4000000 in
theorem rtexts_any (A A' : Option Addr) (n n' c c' : Nat) (l m : List ByteArray) (w : World) (hl : l.length = n) (hl' : m.length = n') (hm : n ≤ 1000000) (hs : TxAt w w.heap.size A l) (hs' : TxAt w w.heap.size A' m) :
    Calls Tryd.prog 16 #[.slice A n c, .slice A' n' c'] w fun e w' => e = .returned (.bool (sameX l m)) ∧ Below w.heap.size w w' := by
  have HS := Lib.hid hs; have HS' := Lib.hid hs'
  have HL := Lib.hid hl; have HL' := Lib.hid hl'
  clear hs hs' hl hl'
  by_cases hlen : n = n'
  · subst hlen
    go_enter Tryd.func16, Tryd.ntmps16
    go_wp2
    go_loopw [13] (fun i wr => ∃ k : Nat, k ≤ n ∧ i = .int .i64 k ∧ Hid (l.take k = m.take k) ∧ Below w.heap.size w wr) (fun i _ => n - (intOf i).toNat)
    case atStart => exact ⟨0, Nat.zero_le _, rfl, rfl, Below.refl _ _⟩
    case round =>
      obtain ⟨k, hk, rfl, HG, hbel⟩ := hrel
      by_cases hlt : k < n
      · have hkl : k < l.length := by have := HL.out; omega
        have hkm : k < m.length := by have := HL'.out; omega
        obtain ⟨b, o, rfl, hb, hc⟩ := (HS.out.below hbel (Nat.le_refl _)) (by omega)
        obtain ⟨b', o', rfl, hb', hc'⟩ := (HS'.out.below hbel (Nat.le_refl _)) (by omega)
        have c0 := hc k hkl
        have d0 := hc' k hkm
        clear hc hc'
        have HT := Lib.hid (take_same_snoc hkl hkm HG.out)
        have HA := Lib.hid (ne_at hkl hkm)
        obtain ⟨x, hX⟩ : ∃ X, Hid (l[k] = X) := ⟨l[k], rfl⟩
        obtain ⟨y, hY⟩ : ∃ Y, Hid (m[k] = Y) := ⟨m[k], rfl⟩
        rw [hX.out] at HT HA c0
        rw [hY.out] at HT HA d0
        clear hX hY
        have hbz : b < wr.heap.size := by have := hbel.size; omega
        have hbz' : b' < wr.heap.size := by have := hbel.size; omega
        by_cases h1 : x = y
        · subst h1
          have e1 : (x.toList == x.toList) = true := by simp
          have HF : Hid (l.take (k + 1) = m.take (k + 1)) := HT.out rfl
          clear HT HA HG
          go_wp2
          go_quiet (fail)
          go_wp2
          go_roundw
          case rel => exact ⟨k + 1, by omega, by go_num, HF, below_drewN hbel _⟩
          case measure => simp [intOf]; omega
        · have HF : Hid (l ≠ m) := HA.out h1
          have e1 := eqB_f h1
          clear HT HA HG
          go_wp2
          go_quiet (fail)
          go_wp2
          go_ret
          exact ⟨ret_bool (sameX_f HF.out).symm, below_drewN hbel _⟩
      · obtain rfl : k = n := by omega
        have HF : Hid (l = m) := by
          have := HG.out
          rwa [List.take_of_length_le (by have := HL.out; omega), List.take_of_length_le (by have := HL'.out; omega)] at this
        clear HG
        go_wp2
        go_ret
        exact ⟨ret_bool (sameX_t HF.out).symm, hbel⟩
  · have hb1 : ((n : Int) != (n' : Int)) = true := by rw [bne_iff_ne]; omega
    have HF : Hid (l ≠ m) := fun e => hlen (by rw [← HL.out, ← HL'.out, e])
    go_enter Tryd.func16, Tryd.ntmps16
    go_wp2
    go_ret
    exact ⟨ret_bool (sameX_f HF.out).symm, Below.refl _ _⟩
theorem rtexts_is {W : World} {v u : Value} {l m : List ByteArray} (h : IsTx W v l) (k : IsTx W u m) (hm : l.length ≤ 1000000) :
    Calls Tryd.prog 16 #[v, u] W fun e w' => e = .returned (.bool (sameX l m)) ∧ Below W.heap.size W w' := by
  obtain ⟨A, c, rfl, _, hs⟩ := h
  obtain ⟨A', c', rfl, _, hs'⟩ := k
  exact rtexts_any A A' _ _ c c' l m W rfl rfl hm hs hs'


/-- how great -/
def gsum (l : List Fd) : Nat := (l.map fun t => t.1.size + t.2.size).sum
def greatD (l : List Fd) : Bool := decide (130 < l.length) || decide (12000 < gsum l)
theorem gsum_append (l m : List Fd) : gsum (l ++ m) = gsum l + gsum m := by
  unfold gsum; rw [List.map_append, List.sum_append]
theorem gsum_one (x : Fd) : gsum [x] = x.1.size + x.2.size := by unfold gsum; simp
theorem gsum_take {l : List Fd} {k : Nat} (h : k < l.length) : gsum (l.take (k + 1)) = gsum (l.take k) + l[k].1.size + l[k].2.size := by
  rw [List.take_succ_eq_append_getElem h, gsum_append, gsum_one]; omega
theorem gsum_at {l : List Fd} {x : Fd} (h : x ∈ l) : x.1.size + x.2.size ≤ gsum l := by
  unfold gsum
  induction l with
  | nil => cases h
  | cons y l ih =>
    simp only [List.map_cons, List.sum_cons]
    rcases List.mem_cons.1 h with rfl | h
    · omega
    · have := ih h; omega
theorem not_great {l : List Fd} (h : greatD l = false) : l.length ≤ 130 ∧ gsum l ≤ 12000 := by
  unfold greatD at h
  rw [Bool.or_eq_false_iff, decide_eq_false_iff_not, decide_eq_false_iff_not] at h
  omega
theorem Mx.of_small {l : List Fd} (h : gsum l ≤ 12000) : Mx l := fun x hx => by
  have := gsum_at hx; unfold szM; omega
def xsum (l : List ByteArray) : Nat := (l.map fun t => t.size).sum
def xgreatD (l : List ByteArray) : Bool := decide (10000 < xsum l) || decide (60 < l.length)
theorem xsum_append (l m : List ByteArray) : xsum (l ++ m) = xsum l + xsum m := by
  unfold xsum; rw [List.map_append, List.sum_append]
theorem xsum_one (x : ByteArray) : xsum [x] = x.size := by unfold xsum; simp
theorem xsum_take {l : List ByteArray} {k : Nat} (h : k < l.length) : xsum (l.take (k + 1)) = xsum (l.take k) + l[k].size := by
  rw [List.take_succ_eq_append_getElem h, xsum_append, xsum_one]
theorem xsum_at {l : List ByteArray} {x : ByteArray} (h : x ∈ l) : x.size ≤ xsum l := by
  unfold xsum
  induction l with
  | nil => cases h
  | cons y l ih =>
    simp only [List.map_cons, List.sum_cons]
    rcases List.mem_cons.1 h with rfl | h
    · omega
    · have := ih h; omega
theorem not_xgreat {l : List ByteArray} (h : xgreatD l = false) : l.length ≤ 60 ∧ xsum l ≤ 10000 := by
  unfold xgreatD at h
  rw [Bool.or_eq_false_iff, decide_eq_false_iff_not, decide_eq_false_iff_not] at h
  omega

set_option maxHeartbeats 4000000 in
theorem great_any (A : Option Addr) (n c : Nat) (l : List Fd) (w : World) (hn : l.length = n) (hm : n ≤ maxLen) (hM : Mx l) (hs : FdAt w w.heap.size A l) :
    Calls Tryd.prog 12 #[.slice A n c] w fun e w' => e = .returned (.bool (greatD l)) ∧ Below w.heap.size w w' := by
  have HS := Lib.hid hs
  have HL := Lib.hid hn
  have HM := Lib.hid hM
  unfold maxLen at hm
  clear hs hn hM
  by_cases hbig : 130 < n
  · have HF : Hid (greatD l = true) := by unfold Hid greatD; rw [HL.out, decide_eq_true hbig]; rfl
    go_enter Tryd.func12, Tryd.ntmps12
    go_wp2
    go_loopw [3, 8] (fun v i wr => ∃ (k : Nat) (g : Int), k ≤ n ∧ v = .int .i64 g ∧ i = .int .i64 k ∧ Below w.heap.size w wr) (fun _ i _ => n - (intOf i).toNat)
    case atStart => exact ⟨0, 0, Nat.zero_le _, rfl, rfl, Below.refl _ _⟩
    case round =>
      obtain ⟨k, g, hk, rfl, rfl, hbel⟩ := hrel
      by_cases hlt : k < n
      · have hkl : k < l.length := by have := HL.out; omega
        obtain ⟨b, o, rfl, hb, hc⟩ := (HS.out.below hbel (Nat.le_refl _)) (by omega)
        obtain ⟨c0, c1⟩ := hc k hkl
        clear hc
        generalize l[k].1 = x at *
        generalize l[k].2 = y at *
        have hbz : b < wr.heap.size := by have := hbel.size; omega
        go_wp2
        go_roundw
        case rel => exact ⟨k + 1, _, by omega, rfl, by go_num, hbel.alloc hbel.size _⟩
        case measure => simp [intOf]; omega
      · obtain rfl : k = n := by omega
        go_wp2
        go_ret
        exact ⟨ret_bool HF.out.symm, hbel⟩
  · go_enter Tryd.func12, Tryd.ntmps12
    go_wp2
    go_loopw [3, 8] (fun v i wr => ∃ k g : Nat, k ≤ n ∧ v = .int .i64 g ∧ i = .int .i64 k ∧ Hid (gsum (l.take k) = g) ∧ g ≤ 281474976702464 * k ∧ Below w.heap.size w wr) (fun _ i _ => n - (intOf i).toNat)
    case atStart => exact ⟨0, 0, Nat.zero_le _, rfl, rfl, rfl, by omega, Below.refl _ _⟩
    case round =>
      obtain ⟨k, g, hk, rfl, rfl, HG, hg, hbel⟩ := hrel
      by_cases hlt : k < n
      · have hkl : k < l.length := by have := HL.out; omega
        obtain ⟨b, o, rfl, hb, hc⟩ := (HS.out.below hbel (Nat.le_refl _)) (by omega)
        obtain ⟨c0, c1⟩ := hc k hkl
        clear hc
        have hx := HM.out.at0 hkl
        have HT := Lib.hid (gsum_take hkl)
        generalize l[k].1 = x at *
        generalize l[k].2 = y at *
        unfold szM at hx
        obtain ⟨hx, hy⟩ := hx
        have HK : Hid (gsum (l.take (k + 1)) = g + x.size + y.size) := by unfold Hid; rw [HT.out, HG.out]
        have hbz : b < wr.heap.size := by have := hbel.size; omega
        clear HT HG
        go_wp2
        go_roundw
        case rel => exact ⟨k + 1, g + x.size + y.size, by omega, by go_num, by go_num, HK, by omega, hbel.alloc hbel.size _⟩
        case measure => simp [intOf]; omega
      · obtain rfl : k = n := by omega
        have HE : Hid (gsum l = g) := by have h := HG.out; rwa [List.take_of_length_le (by have := HL.out; omega)] at h
        have HF : Hid (greatD l = decide (12000 < g)) := by
          unfold Hid greatD; rw [HL.out, decide_eq_false hbig, HE.out]; rfl
        clear HG HE
        go_wp2
        go_ret
        exact ⟨ret_bool (by rw [HF.out, Bool.eq_iff_iff]; simp only [decide_eq_true_eq, Bool.or_eq_true]; omega), hbel⟩

set_option maxHeartbeats 4000000 in
theorem xgreat_any (A : Option Addr) (n c : Nat) (l : List ByteArray) (w : World) (hn : l.length = n) (hm : n ≤ maxLen) (hM : ∀ x ∈ l, x.size ≤ szM) (hs : TxAt w w.heap.size A l) :
    Calls Tryd.prog 13 #[.slice A n c] w fun e w' => e = .returned (.bool (xgreatD l)) ∧ w' = w := by
  have HS := Lib.hid hs
  have HL := Lib.hid hn
  have HM := Lib.hid hM
  unfold maxLen at hm
  clear hs hn hM
  by_cases hbig : 60 < n
  · have HF : Hid (xgreatD l = true) := by unfold Hid xgreatD; rw [HL.out, decide_eq_true hbig, Bool.or_true]
    go_enter Tryd.func13, Tryd.ntmps13
    go_wp2
    go_loop [3, 8] (fun v i => ∃ (k : Nat) (g : Int), k ≤ n ∧ v = .int .i64 g ∧ i = .int .i64 k) (fun _ i => n - (intOf i).toNat)
    case atStart => exact ⟨0, 0, Nat.zero_le _, rfl, rfl⟩
    case round =>
      obtain ⟨k, g, hk, rfl, rfl⟩ := hrel
      by_cases hlt : k < n
      · have hkl : k < l.length := by have := HL.out; omega
        obtain ⟨b, o, rfl, hb, hc⟩ := HS.out (by omega)
        have c0 := hc k hkl
        clear hc
        generalize l[k] = x at *
        go_wp2
        go_round
        case rel => exact ⟨k + 1, _, by omega, rfl, by go_num⟩
        case measure => simp [intOf]; omega
      · obtain rfl : k = n := by omega
        by_cases hg : 10000 < g
        · go_wp2
          go_ret
          exact ⟨ret_bool (by first | (rw [HF.out]; done) | (rw [HF.out]; simp; omega)), rfl⟩
        · go_wp2
          go_ret
          exact ⟨ret_bool (by first | (rw [HF.out]; done) | (rw [HF.out]; simp; omega)), rfl⟩
  · go_enter Tryd.func13, Tryd.ntmps13
    go_wp2
    go_loop [3, 8] (fun v i => ∃ k g : Nat, k ≤ n ∧ v = .int .i64 g ∧ i = .int .i64 k ∧ Hid (xsum (l.take k) = g) ∧ g ≤ 140737488351232 * k) (fun _ i => n - (intOf i).toNat)
    case atStart => exact ⟨0, 0, Nat.zero_le _, rfl, rfl, rfl, by omega⟩
    case round =>
      obtain ⟨k, g, hk, rfl, rfl, HG, hg⟩ := hrel
      by_cases hlt : k < n
      · have hkl : k < l.length := by have := HL.out; omega
        obtain ⟨b, o, rfl, hb, hc⟩ := HS.out (by omega)
        have c0 := hc k hkl
        clear hc
        have hx := HM.out _ (List.getElem_mem hkl)
        have HT := Lib.hid (xsum_take hkl)
        generalize l[k] = x at *
        unfold szM at hx
        have HK : Hid (xsum (l.take (k + 1)) = g + x.size) := by unfold Hid; rw [HT.out, HG.out]
        clear HT HG
        go_wp2
        go_round
        case rel => exact ⟨k + 1, g + x.size, by omega, by go_num, by go_num, HK, by omega⟩
        case measure => simp [intOf]; omega
      · obtain rfl : k = n := by omega
        have HE : Hid (xsum l = g) := by have h := HG.out; rwa [List.take_of_length_le (by have := HL.out; omega)] at h
        by_cases hg2 : 10000 < g
        · have HF : Hid (xgreatD l = true) := by unfold Hid xgreatD; rw [HE.out, decide_eq_true hg2]; rfl
          clear HG HE
          go_wp2
          go_ret
          exact ⟨ret_bool (by first | (rw [HF.out]; done) | (rw [HF.out]; simp; omega)), rfl⟩
        · have HF : Hid (xgreatD l = false) := by unfold Hid xgreatD; rw [HE.out, HL.out, decide_eq_false hg2, decide_eq_false hbig]; rfl
          clear HG HE
          go_wp2
          go_ret
          exact ⟨ret_bool (by first | (rw [HF.out]; done) | (rw [HF.out]; simp; omega)), rfl⟩
end Go.Proofs.YtmlbinbhicdljaaDoor
