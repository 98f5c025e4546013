/-
  The reference's comparisons of two lists, of spans and of ranges; whether all ranges of a list are right; whether spans are good.
-/
import Derived.Test.YtdmkfleiipfbgaaDoorRB
import Derived.Test.YtdmkfleiipfbgaaDoorPA
namespace Go.Proofs.YtdmkfleiipfbgaaDoor
open Go Go.RowKit

set_option maxHeartbeats 1600000 in
theorem rspans_any (A A' : Option Addr) (c c' : Nat) (l m : List Sp) (w : World) (hm : l.length ≤ 1000000) (hs : SpAt w w.heap.size A l) (hs' : SpAt w w.heap.size A' m) :
    Calls Tryd.prog 22 #[.slice A l.length c, .slice A' m.length c'] w fun e w' => e = .returned (.bool (decide (l = m))) ∧ Below w.heap.size w w' := by
  have HS := Lib.hid hs; have HS' := Lib.hid hs'
  clear hs hs'
  by_cases hlen : l.length = m.length
  · obtain ⟨n, HL, HL'⟩ : ∃ n, Hid (l.length = n) ∧ Hid (m.length = n) := ⟨l.length, rfl, hlen.symm⟩
    have hn : n ≤ 1000000 := by have := HL.out; omega
    rw [show l.length = n from HL.out, show m.length = n from HL'.out]
    clear hlen hm
    go_enter Tryd.func22, Tryd.ntmps22
    go_wp2
    go_loopw [13] (fun i wr => ∃ k : Nat, k ≤ n ∧ i = .int .i64 k ∧ Hid (l.take k = m.take k) ∧ Below w.heap.size w wr) (fun i _ => n - (intOf i).toNat)
    case atStart => exact ⟨0, Nat.zero_le _, rfl, rfl, Below.refl _ _⟩
    case round =>
      obtain ⟨k, hk, rfl, HG, hbel⟩ := hrel
      by_cases hlt : k < n
      · have hkl : k < l.length := by have := HL.out; omega
        have hkm : k < m.length := by have := HL'.out; omega
        obtain ⟨b, o, rfl, hb, hc⟩ := (HS.out.below hbel (Nat.le_refl _)) (by omega)
        obtain ⟨b', o', rfl, hb', hc'⟩ := (HS'.out.below hbel (Nat.le_refl _)) (by omega)
        obtain ⟨c0, c1⟩ := hc k hkl
        obtain ⟨d0, d1⟩ := hc' k hkm
        clear hc hc'
        have HT := Lib.hid (take_same_snoc hkl hkm HG.out)
        have HA := Lib.hid (ne_at hkl hkm)
        generalize l[k] = X at *
        generalize m[k] = Y at *
        obtain ⟨x, y⟩ := X
        obtain ⟨x', y'⟩ := Y
        have hbz : b < wr.heap.size := by have := hbel.size; omega
        have hbz' : b' < wr.heap.size := by have := hbel.size; omega
        by_cases h1 : x = x'
        · subst h1
          by_cases h2 : y = y'
          · subst h2
            have HF : Hid (l.take (k + 1) = m.take (k + 1)) := HT.out rfl
            clear HT HA HG
            go_wp2
            go_quiet (fail)
            go_wp2
            go_roundw
            case rel => exact ⟨k + 1, by omega, by go_num, HF, below_drewN hbel _⟩
            case measure => simp [intOf]; omega
          · have HF : Hid (l ≠ m) := HA.out (by intro h; injection h with _ h; exact h2 h)
            clear HT HA HG
            go_wp2
            go_quiet (fail)
            go_wp2
            go_ret
            exact ⟨ret_bool (by have := HF.out; simp [this]), below_drewN hbel _⟩
        · have HF : Hid (l ≠ m) := HA.out (by intro h; injection h with h _; exact h1 h)
          clear HT HA HG
          go_wp2
          go_quiet (fail)
          go_wp2
          go_ret
          exact ⟨ret_bool (by have := HF.out; simp [this]), below_drewN hbel _⟩
      · obtain rfl : k = n := by omega
        have HF : Hid (l = m) := by
          have := HG.out
          rwa [List.take_of_length_le (by have := HL.out; omega), List.take_of_length_le (by have := HL'.out; omega)] at this
        clear HG
        go_wp2
        go_ret
        exact ⟨ret_bool (by have := HF.out; simp [this]), hbel⟩
  · have h2 : l ≠ m := fun e => hlen (by rw [e])
    have hb1 : ((l.length : Int) == (m.length : Int)) = false := by simpa using (by omega : ¬ (l.length : Int) = m.length)
    have HF : Hid (l ≠ m) := h2
    clear h2
    go_enter Tryd.func22, Tryd.ntmps22
    go_wp2
    go_ret
    exact ⟨ret_bool (by have := HF.out; simp [this]), Below.refl _ _⟩
set_option maxHeartbeats 1600000 in
theorem rsame_any (A A' : Option Addr) (c c' : Nat) (l m : List Sp) (w : World) (hm : l.length ≤ 1000000) (hs : SpAt w w.heap.size A l) (hs' : SpAt w w.heap.size A' m) :
    Calls Tryd.prog 14 #[.slice A l.length c, .slice A' m.length c'] w fun e w' => e = .returned (.bool (decide (l = m))) ∧ Below w.heap.size w w' := by
  have HS := Lib.hid hs; have HS' := Lib.hid hs'
  clear hs hs'
  by_cases hlen : l.length = m.length
  · obtain ⟨n, HL, HL'⟩ : ∃ n, Hid (l.length = n) ∧ Hid (m.length = n) := ⟨l.length, rfl, hlen.symm⟩
    have hn : n ≤ 1000000 := by have := HL.out; omega
    rw [show l.length = n from HL.out, show m.length = n from HL'.out]
    clear hlen hm
    go_enter Tryd.func14, Tryd.ntmps14
    go_wp2
    go_loopw [13] (fun i wr => ∃ k : Nat, k ≤ n ∧ i = .int .i64 k ∧ Hid (l.take k = m.take k) ∧ Below w.heap.size w wr) (fun i _ => n - (intOf i).toNat)
    case atStart => exact ⟨0, Nat.zero_le _, rfl, rfl, Below.refl _ _⟩
    case round =>
      obtain ⟨k, hk, rfl, HG, hbel⟩ := hrel
      by_cases hlt : k < n
      · have hkl : k < l.length := by have := HL.out; omega
        have hkm : k < m.length := by have := HL'.out; omega
        obtain ⟨b, o, rfl, hb, hc⟩ := (HS.out.below hbel (Nat.le_refl _)) (by omega)
        obtain ⟨b', o', rfl, hb', hc'⟩ := (HS'.out.below hbel (Nat.le_refl _)) (by omega)
        obtain ⟨c0, c1⟩ := hc k hkl
        obtain ⟨d0, d1⟩ := hc' k hkm
        clear hc hc'
        have HT := Lib.hid (take_same_snoc hkl hkm HG.out)
        have HA := Lib.hid (ne_at hkl hkm)
        generalize l[k] = X at *
        generalize m[k] = Y at *
        obtain ⟨x, y⟩ := X
        obtain ⟨x', y'⟩ := Y
        have hbz : b < wr.heap.size := by have := hbel.size; omega
        have hbz' : b' < wr.heap.size := by have := hbel.size; omega
        by_cases h1 : x = x'
        · subst h1
          by_cases h2 : y = y'
          · subst h2
            have HF : Hid (l.take (k + 1) = m.take (k + 1)) := HT.out rfl
            clear HT HA HG
            go_wp2
            go_quiet (fail)
            go_wp2
            go_roundw
            case rel => exact ⟨k + 1, by omega, by go_num, HF, below_drewN hbel _⟩
            case measure => simp [intOf]; omega
          · have HF : Hid (l ≠ m) := HA.out (by intro h; injection h with _ h; exact h2 h)
            clear HT HA HG
            go_wp2
            go_quiet (fail)
            go_wp2
            go_ret
            exact ⟨ret_bool (by have := HF.out; simp [this]), below_drewN hbel _⟩
        · have HF : Hid (l ≠ m) := HA.out (by intro h; injection h with h _; exact h1 h)
          clear HT HA HG
          go_wp2
          go_quiet (fail)
          go_wp2
          go_ret
          exact ⟨ret_bool (by have := HF.out; simp [this]), below_drewN hbel _⟩
      · obtain rfl : k = n := by omega
        have HF : Hid (l = m) := by
          have := HG.out
          rwa [List.take_of_length_le (by have := HL.out; omega), List.take_of_length_le (by have := HL'.out; omega)] at this
        clear HG
        go_wp2
        go_ret
        exact ⟨ret_bool (by have := HF.out; simp [this]), hbel⟩
  · have h2 : l ≠ m := fun e => hlen (by rw [e])
    have hb1 : ((l.length : Int) == (m.length : Int)) = false := by simpa using (by omega : ¬ (l.length : Int) = m.length)
    have HF : Hid (l ≠ m) := h2
    clear h2
    go_enter Tryd.func14, Tryd.ntmps14
    go_wp2
    go_ret
    exact ⟨ret_bool (by have := HF.out; simp [this]), Below.refl _ _⟩

theorem rspans_sp {W : World} {v u : Value} {l m : List Sp} (h : IsSp W v l) (k : IsSp W u m) (hm : l.length ≤ 1000000) :
    Calls Tryd.prog 22 #[v, u] W fun e w' => e = .returned (.bool (decide (l = m))) ∧ Below W.heap.size W w' := by
  obtain ⟨A, c, rfl, _, hs⟩ := h
  obtain ⟨A', c', rfl, _, hs'⟩ := k
  exact rspans_any A A' c c' l m W hm hs hs'
theorem rsame_sp {W : World} {v u : Value} {l m : List Sp} (h : IsSp W v l) (k : IsSp W u m) (hm : l.length ≤ 1000000) :
    Calls Tryd.prog 14 #[v, u] W fun e w' => e = .returned (.bool (decide (l = m))) ∧ Below W.heap.size W w' := by
  obtain ⟨A, c, rfl, _, hs⟩ := h
  obtain ⟨A', c', rfl, _, hs'⟩ := k
  exact rsame_any A A' c c' l m W hm hs hs'

/-- all ranges are right -/
def allR (l : List Sp) : Bool := l.all fun x => srB x.1 x.2
theorem allR_take {l : List Sp} {k : Nat} (h : k < l.length) : allR (l.take (k + 1)) = (allR (l.take k) && srB l[k].1 l[k].2) := by
  unfold allR; rw [List.take_succ_eq_append_getElem h, List.all_append, List.all_cons, List.all_nil, Bool.and_true]
theorem allR_at {l : List Sp} {k : Nat} (h : k < l.length) (hk : srB l[k].1 l[k].2 = false) : allR l = false := by
  unfold allR; rw [List.all_eq_false]; exact ⟨l[k], List.getElem_mem h, by simp [hk]⟩

set_option maxHeartbeats 1600000 in
theorem all_any4 (A : Option Addr) (n c : Nat) (l : List Sp) (w : World) (hn : l.length = n) (hm : n ≤ 1000000) (hs : SpAt w w.heap.size A l) :
    Calls Tryd.prog 19 #[.slice A n c] w fun e w' => e = .returned (.bool (allR l)) ∧ Below w.heap.size w w' := by
  have HS := Lib.hid hs
  clear hs
  have HL := Lib.hid hn
  clear hn
  go_enter Tryd.func19, Tryd.ntmps19
  go_wp2
  go_loopw [7] (fun i wr => ∃ k : Nat, k ≤ n ∧ i = .int .i64 k ∧ Hid (allR (l.take k) = true) ∧ Below w.heap.size w wr) (fun i _ => n - (intOf i).toNat)
  case atStart => exact ⟨0, Nat.zero_le _, rfl, rfl, Below.refl _ _⟩
  case round =>
    obtain ⟨k, hk, rfl, HG, hbel⟩ := hrel
    by_cases hlt : k < n
    · have hkl : k < l.length := by have := HL.out; omega
      obtain ⟨b, o, rfl, hb, hc⟩ := (HS.out.below hbel (Nat.le_refl _)) (by omega)
      obtain ⟨c0, c1⟩ := hc k hkl
      clear hc
      have HT := Lib.hid (allR_take hkl)
      have HA := Lib.hid (fun h => allR_at hkl h)
      generalize l[k].1 = x at *
      generalize l[k].2 = y at *
      have hbz : b < wr.heap.size := by have := hbel.size; omega
      have e1 : Ext w (wr.alloc (.cells #[.int .i64 x, .int .i64 y] 32)) := hbel.trans (((Below.refl _ _).alloc (Nat.le_refl _) _).mono hbel.size)
      cases hr : srB x y with
      | true =>
        have HF : Hid (allR (l.take (k + 1)) = true) := by unfold Hid; rw [HT.out, HG.out, hr]; rfl
        clear HT HA HG
        go_wp2_with (go_at_call 18; with_reducible refine (rsright_any x y _).mono ?_; rintro e w1 ⟨rfl, hb1⟩; rw [hr]; have B1 := e1.trans (hb1.mono e1.size); clear hb1)
        go_roundw
        case rel => exact ⟨k + 1, by omega, by go_num, HF, B1⟩
        case measure => simp [intOf]; omega
      | false =>
        have HF : Hid (allR l = false) := HA.out hr
        clear HT HA HG
        go_wp2_with (go_at_call 18; with_reducible refine (rsright_any x y _).mono ?_; rintro e w1 ⟨rfl, hb1⟩; rw [hr]; have B1 := e1.trans (hb1.mono e1.size); clear hb1)
        go_ret
        exact ⟨ret_bool HF.out.symm, B1⟩
    · obtain rfl : k = n := by omega
      have HF : Hid (allR l = true) := by have := HG.out; rwa [List.take_of_length_le (by have := HL.out; omega)] at this
      clear HG
      go_wp2
      go_ret
      exact ⟨ret_bool HF.out.symm, hbel⟩

/-- spans are right, and none is empty -/
def goodL (l : List Sp) : Bool := l.all fun x => !(decide (x.1 < 0) || decide (x.1 ≥ x.2) || decide (x.2 > 4611686018427387904))
def oneG (x : Sp) : Bool := !(decide (x.1 < 0) || decide (x.1 ≥ x.2) || decide (x.2 > 4611686018427387904))
theorem goodL_take {l : List Sp} {k : Nat} (h : k < l.length) : goodL (l.take (k + 1)) = (goodL (l.take k) && oneG l[k]) := by
  unfold goodL oneG; rw [List.take_succ_eq_append_getElem h, List.all_append, List.all_cons, List.all_nil, Bool.and_true]
theorem goodL_at {l : List Sp} {k : Nat} (h : k < l.length) (hk : oneG l[k] = false) : goodL l = false := by
  unfold goodL; rw [List.all_eq_false]; exact ⟨l[k], List.getElem_mem h, by unfold oneG at hk; rw [hk]; simp⟩
theorem goodL_iff {l : List Sp} : goodL l = true ↔ ∀ x ∈ l, Solid x := by
  unfold goodL Solid; rw [List.all_eq_true]
  constructor
  · intro h x hx; have := h x hx; simp at this; omega
  · intro h x hx; have := h x hx; simp; omega

set_option maxHeartbeats 1600000 in
theorem good_any4 (A : Option Addr) (n c : Nat) (l : List Sp) (w : World) (hn : l.length = n) (hm : n ≤ 140737488355328) (hs : SpAt w w.heap.size A l) :
    Calls Tryd.prog 23 #[.slice A n c] w fun e w' => e = .returned (.bool (goodL l && decide (n ≤ 30))) ∧ Below w.heap.size w w' := by
  have HS := Lib.hid hs
  clear hs
  have HL := Lib.hid hn
  clear hn
  go_enter Tryd.func23, Tryd.ntmps23
  go_wp2
  go_loopw [7] (fun i wr => ∃ k : Nat, k ≤ n ∧ i = .int .i64 k ∧ Hid (goodL (l.take k) = true) ∧ Below w.heap.size w wr) (fun i _ => n - (intOf i).toNat)
  case atStart => exact ⟨0, Nat.zero_le _, rfl, rfl, Below.refl _ _⟩
  case round =>
    obtain ⟨k, hk, rfl, HG, hbel⟩ := hrel
    by_cases hlt : k < n
    · have hkl : k < l.length := by have := HL.out; omega
      obtain ⟨b, o, rfl, hb, hc⟩ := (HS.out.below hbel (Nat.le_refl _)) (by omega)
      obtain ⟨c0, c1⟩ := hc k hkl
      clear hc
      have HT := Lib.hid (goodL_take hkl)
      have HA := Lib.hid (fun h => goodL_at hkl h)
      generalize l[k] = X at *
      obtain ⟨x, y⟩ := X
      simp only at c0 c1
      have hbz : b < wr.heap.size := by have := hbel.size; omega
      have e1 : Ext w (wr.alloc (.cells #[.int .i64 x, .int .i64 y] 39)) := hbel.trans (((Below.refl _ _).alloc (Nat.le_refl _) _).mono hbel.size)
      by_cases h1 : x < 0
      · have HF : Hid (goodL l = false) := HA.out (by simp [oneG, h1])
        clear HT HA HG
        go_wp2
        go_ret
        exact ⟨ret_bool (by rw [HF.out]; rfl), e1⟩
      · by_cases h2 : x ≥ y
        · have HF : Hid (goodL l = false) := HA.out (by simp [oneG, h2])
          clear HT HA HG
          go_wp2
          go_ret
          exact ⟨ret_bool (by rw [HF.out]; rfl), e1⟩
        · by_cases h3 : y > 4611686018427387904
          · have HF : Hid (goodL l = false) := HA.out (by simp [oneG, h3])
            clear HT HA HG
            go_wp2
            go_ret
            exact ⟨ret_bool (by rw [HF.out]; rfl), e1⟩
          · have HF : Hid (goodL (l.take (k + 1)) = true) := by unfold Hid; rw [HT.out, HG.out]; simp [oneG]; omega
            clear HT HA HG
            go_wp2
            go_roundw
            case rel => exact ⟨k + 1, by omega, by go_num, HF, e1⟩
            case measure => simp [intOf]; omega
    · obtain rfl : k = n := by omega
      have HF : Hid (goodL l = true) := by have := HG.out; rwa [List.take_of_length_le (by have := HL.out; omega)] at this
      clear HG
      go_wp2
      go_ret
      exact ⟨ret_bool (by rw [HF.out]; simp; exact Iff.intro (fun h => by omega) (fun h => by omega)), hbel⟩
end Go.Proofs.YtdmkfleiipfbgaaDoor
