/-
  slices.Equal of two lists of spans; Set.Same, Set.Near.
-/
import Derived.Test.YthbjhpfgfpkppaaDoorRX
import Derived.Test.YthbjhpfgfpkppaaDoorRB
namespace Go.Proofs.YthbjhpfgfpkppaaDoor.Rg
open Go Go.RowKit

set_option maxHeartbeats 1600000 in
theorem equal_any (A A' : Option Addr) (c c' : Nat) (l m : List Sp) (w : World) (hm : l.length ≤ 1000000) (hs : SpAt w w.heap.size A l) (hs' : SpAt w w.heap.size A' m) :
    Calls Tryd.prog 32 #[.slice A l.length c, .slice A' m.length c'] w fun e w' => e = .returned (.bool (decide (l = m))) ∧ Below w.heap.size w w' := by
  have HS := Lib.hid hs; have HS' := Lib.hid hs'
  clear hs hs'
  by_cases hlen : l.length = m.length
  · obtain ⟨n, HL, HL'⟩ : ∃ n, Hid (l.length = n) ∧ Hid (m.length = n) := ⟨l.length, rfl, hlen.symm⟩
    have hn : n ≤ 1000000 := by have := HL.out; omega
    rw [show l.length = n from HL.out, show m.length = n from HL'.out]
    clear hlen hm
    go_enter Tryd.func32, Tryd.ntmps32
    go_wp2
    go_loopw [13] (fun i wr => ∃ k : Nat, k ≤ n ∧ i = .int .i64 k ∧ Hid (l.take k = m.take k) ∧ Below w.heap.size w wr) (fun i _ => n - (intOf i).toNat)
    case atStart => exact ⟨0, Nat.zero_le _, rfl, rfl, Below.refl _ _⟩
    case round =>
      obtain ⟨k, hk, rfl, HG, hbel⟩ := hrel
      by_cases hlt : k < n
      · have hkl : k < l.length := by have := HL.out; omega
        have hkm : k < m.length := by have := HL'.out; omega
        obtain ⟨b, o, rfl, hb, hc⟩ := (HS.out.below hbel (Nat.le_refl _)) (by omega)
        obtain ⟨b', o', rfl, hb', hc'⟩ := (HS'.out.below hbel (Nat.le_refl _)) (by omega)
        obtain ⟨c0, c1⟩ := hc k hkl
        obtain ⟨d0, d1⟩ := hc' k hkm
        clear hc hc'
        have HT := Lib.hid (take_same_snoc hkl hkm HG.out)
        have HA := Lib.hid (ne_at hkl hkm)
        generalize l[k] = X at *
        generalize m[k] = Y at *
        obtain ⟨x, y⟩ := X
        obtain ⟨x', y'⟩ := Y
        have hbz : b < wr.heap.size := by have := hbel.size; omega
        have hbz' : b' < wr.heap.size := by have := hbel.size; omega
        by_cases h1 : x = x'
        · subst h1
          by_cases h2 : y = y'
          · subst h2
            have HF : Hid (l.take (k + 1) = m.take (k + 1)) := HT.out rfl
            clear HT HA HG
            go_wp2
            go_quiet (fail)
            go_wp2
            go_roundw
            case rel => exact ⟨k + 1, by omega, by go_num, HF, below_drewN hbel _⟩
            case measure => simp [intOf]; omega
          · have HF : Hid (l ≠ m) := HA.out (by intro h; injection h with _ h; exact h2 h)
            clear HT HA HG
            go_wp2
            go_quiet (fail)
            go_wp2
            go_ret
            exact ⟨ret_bool (by have := HF.out; simp [this]), below_drewN hbel _⟩
        · have HF : Hid (l ≠ m) := HA.out (by intro h; injection h with h _; exact h1 h)
          clear HT HA HG
          go_wp2
          go_quiet (fail)
          go_wp2
          go_ret
          exact ⟨ret_bool (by have := HF.out; simp [this]), below_drewN hbel _⟩
      · obtain rfl : k = n := by omega
        have HF : Hid (l = m) := by
          have := HG.out
          rwa [List.take_of_length_le (by have := HL.out; omega), List.take_of_length_le (by have := HL'.out; omega)] at this
        clear HG
        go_wp2
        go_ret
        exact ⟨ret_bool (by have := HF.out; simp [this]), hbel⟩
  · have h2 : l ≠ m := fun e => hlen (by rw [e])
    have hb1 : ((l.length : Int) == (m.length : Int)) = false := by simpa using (by omega : ¬ (l.length : Int) = m.length)
    have HF : Hid (l ≠ m) := h2
    clear h2
    go_enter Tryd.func32, Tryd.ntmps32
    go_wp2
    go_ret
    exact ⟨ret_bool (by have := HF.out; simp [this]), Below.refl _ _⟩

theorem eq_n {n n' : Nat} {l m : List Sp} (hn : l.length = n) (hn' : m.length = n') (A A' : Option Addr) (c c' : Nat) (w : World) (hm : n ≤ 1000000) (hs : SpAt w w.heap.size A l) (hs' : SpAt w w.heap.size A' m) :
    Calls Tryd.prog 32 #[.slice A n c, .slice A' n' c'] w fun e w' => e = .returned (.bool (decide (l = m))) ∧ Below w.heap.size w w' := by
  subst hn; subst hn'; exact equal_any A A' c c' l m w hm hs hs'

set_option maxHeartbeats 4000000 in
theorem Same_any (A A' : Option Addr) (n n' c c' : Nat) (l m : List Sp) (w : World) (hn : l.length = n) (hn' : m.length = n') (hm : n ≤ 1000000) (hs : SpAt w w.heap.size A l) (hs' : SpAt w w.heap.size A' m) :
    Calls Tryd.prog 12 #[.agg #[.slice A n c], .agg #[.slice A' n' c']] w fun e w' => e = .returned (.bool (decide (l = m))) ∧ Below w.heap.size w w' := by
  have HC := fun W (hW : Ext w W) => eq_n hn hn' A A' c c' W hm (hs.below hW hW.size) (hs'.below hW hW.size)
  clear hs hs' hn hn'
  go_enter Tryd.func12, Tryd.ntmps12
  go_wp2_with (go_at_call 32; refine (HC _ (by go_grown)).mono ?_; rintro e w1 ⟨rfl, hb1⟩; have B1 := bel (w := w) (by go_grown) hb1; clear hb1 HC)
  go_ret
  exact ⟨rfl, B1⟩
theorem Same_set {W : World} {v u : Value} {l m : List Sp} (h : IsSet W v l) (k : IsSet W u m) (hm : l.length ≤ 1000000) :
    Calls Tryd.prog 12 #[v, u] W fun e w' => e = .returned (.bool (decide (l = m))) ∧ Below W.heap.size W w' := by
  obtain ⟨A, n, c, rfl, HN, _, HS, _⟩ := h.split
  obtain ⟨A', n', c', rfl, HN', _, HS', _⟩ := k.split
  exact Same_any A A' n n' c c' l m W HN.out HN'.out (by have := HN.out; omega) HS.out HS'.out

end Go.Proofs.YthbjhpfgfpkppaaDoor.Rg
