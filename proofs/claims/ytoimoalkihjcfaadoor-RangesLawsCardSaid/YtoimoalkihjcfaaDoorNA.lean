/-
  slices.Equal of two lists of spans; Set.Same, Set.Near.
-/
import Derived.Test.YtoimoalkihjcfaaDoorRX
namespace Go.Proofs.YtoimoalkihjcfaaDoor
open Go Go.RowKit

set_option maxHeartbeats 1600000 in
theorem equal_any (A A' : Option Addr) (c c' : Nat) (l m : List Sp) (w : World) (hm : l.length ≤ 1000000) (hs : SpAt w w.heap.size A l) (hs' : SpAt w w.heap.size A' m) :
    Calls Tryd.prog 51 #[.slice A l.length c, .slice A' m.length c'] w fun e w' => e = .returned (.bool (decide (l = m))) ∧ Below w.heap.size w w' := by
  have HS := Lib.hid hs; have HS' := Lib.hid hs'
  clear hs hs'
  by_cases hlen : l.length = m.length
  · obtain ⟨n, HL, HL'⟩ : ∃ n, Hid (l.length = n) ∧ Hid (m.length = n) := ⟨l.length, rfl, hlen.symm⟩
    have hn : n ≤ 1000000 := by have := HL.out; omega
    rw [show l.length = n from HL.out, show m.length = n from HL'.out]
    clear hlen hm
    go_enter Tryd.func51, Tryd.ntmps51
    go_wp2
    go_loopw [13] (fun i wr => ∃ k : Nat, k ≤ n ∧ i = .int .i64 k ∧ Hid (l.take k = m.take k) ∧ Below w.heap.size w wr) (fun i _ => n - (intOf i).toNat)
    case atStart => exact ⟨0, Nat.zero_le _, rfl, rfl, Below.refl _ _⟩
    case round =>
      obtain ⟨k, hk, rfl, HG, hbel⟩ := hrel
      by_cases hlt : k < n
      · have hkl : k < l.length := by have := HL.out; omega
        have hkm : k < m.length := by have := HL'.out; omega
        obtain ⟨b, o, rfl, hb, hc⟩ := (HS.out.below hbel (Nat.le_refl _)) (by omega)
        obtain ⟨b', o', rfl, hb', hc'⟩ := (HS'.out.below hbel (Nat.le_refl _)) (by omega)
        obtain ⟨c0, c1⟩ := hc k hkl
        obtain ⟨d0, d1⟩ := hc' k hkm
        clear hc hc'
        have HT := Lib.hid (take_same_snoc hkl hkm HG.out)
        have HA := Lib.hid (ne_at hkl hkm)
        generalize l[k] = X at *
        generalize m[k] = Y at *
        obtain ⟨x, y⟩ := X
        obtain ⟨x', y'⟩ := Y
        have hbz : b < wr.heap.size := by have := hbel.size; omega
        have hbz' : b' < wr.heap.size := by have := hbel.size; omega
        by_cases h1 : x = x'
        · subst h1
          by_cases h2 : y = y'
          · subst h2
            have HF : Hid (l.take (k + 1) = m.take (k + 1)) := HT.out rfl
            clear HT HA HG
            go_wp2
            go_quiet (fail)
            go_wp2
            go_roundw
            case rel => exact ⟨k + 1, by omega, by go_num, HF, below_drewN hbel _⟩
            case measure => simp [intOf]; omega
          · have HF : Hid (l ≠ m) := HA.out (by intro h; injection h with _ h; exact h2 h)
            clear HT HA HG
            go_wp2
            go_quiet (fail)
            go_wp2
            go_ret
            exact ⟨ret_bool (by have := HF.out; simp [this]), below_drewN hbel _⟩
        · have HF : Hid (l ≠ m) := HA.out (by intro h; injection h with h _; exact h1 h)
          clear HT HA HG
          go_wp2
          go_quiet (fail)
          go_wp2
          go_ret
          exact ⟨ret_bool (by have := HF.out; simp [this]), below_drewN hbel _⟩
      · obtain rfl : k = n := by omega
        have HF : Hid (l = m) := by
          have := HG.out
          rwa [List.take_of_length_le (by have := HL.out; omega), List.take_of_length_le (by have := HL'.out; omega)] at this
        clear HG
        go_wp2
        go_ret
        exact ⟨ret_bool (by have := HF.out; simp [this]), hbel⟩
  · have h2 : l ≠ m := fun e => hlen (by rw [e])
    have hb1 : ((l.length : Int) == (m.length : Int)) = false := by simpa using (by omega : ¬ (l.length : Int) = m.length)
    have HF : Hid (l ≠ m) := h2
    clear h2
    go_enter Tryd.func51, Tryd.ntmps51
    go_wp2
    go_ret
    exact ⟨ret_bool (by have := HF.out; simp [this]), Below.refl _ _⟩

theorem eq_n {n n' : Nat} {l m : List Sp} (hn : l.length = n) (hn' : m.length = n') (A A' : Option Addr) (c c' : Nat) (w : World) (hm : n ≤ 1000000) (hs : SpAt w w.heap.size A l) (hs' : SpAt w w.heap.size A' m) :
    Calls Tryd.prog 51 #[.slice A n c, .slice A' n' c'] w fun e w' => e = .returned (.bool (decide (l = m))) ∧ Below w.heap.size w w' := by
  subst hn; subst hn'; exact equal_any A A' c c' l m w hm hs hs'

set_option maxHeartbeats 4000000 in
theorem Same_any (A A' : Option Addr) (n n' c c' : Nat) (l m : List Sp) (w : World) (hn : l.length = n) (hn' : m.length = n') (hm : n ≤ 1000000) (hs : SpAt w w.heap.size A l) (hs' : SpAt w w.heap.size A' m) :
    Calls Tryd.prog 28 #[.agg #[.slice A n c], .agg #[.slice A' n' c']] w fun e w' => e = .returned (.bool (decide (l = m))) ∧ Below w.heap.size w w' := by
  have HC := fun W (hW : Ext w W) => eq_n hn hn' A A' c c' W hm (hs.below hW hW.size) (hs'.below hW hW.size)
  clear hs hs' hn hn'
  go_enter Tryd.func28, Tryd.ntmps28
  go_wp2_with (go_at_call 51; refine (HC _ (by go_grown)).mono ?_; rintro e w1 ⟨rfl, hb1⟩; have B1 := bel (w := w) (by go_grown) hb1; clear hb1 HC)
  go_ret
  exact ⟨rfl, B1⟩
theorem Same_set {W : World} {v u : Value} {l m : List Sp} (h : IsSet W v l) (k : IsSet W u m) (hm : l.length ≤ 1000000) :
    Calls Tryd.prog 28 #[v, u] W fun e w' => e = .returned (.bool (decide (l = m))) ∧ Below W.heap.size W w' := by
  obtain ⟨A, n, c, rfl, HN, _, HS, _⟩ := h.split
  obtain ⟨A', n', c', rfl, HN', _, HS', _⟩ := k.split
  exact Same_any A A' n n' c c' l m W HN.out HN'.out (by have := HN.out; omega) HS.out HS'.out

set_option maxHeartbeats 4000000 in
theorem Near_any (g : Int) (A : Option Addr) (n c : Nat) (l : List Sp) (w : World) (hn : l.length = n) (hm : n ≤ 1000000) (hca : Canon l) (hs : SpAt w w.heap.size A l) :
    Calls Tryd.prog 34 #[.agg #[.slice A n c], .int .i64 g] w fun e w' => ∃ v, e = .returned (.agg #[v]) ∧ IsSp w' v (closeL g l) ∧ Below w.heap.size w w' := by
  have e0 : Ext w ((w.alloc (.cells #[.slice A n c] 26)).alloc (.cells #[.slice none 0 0] 26)) := ((Below.refl _ _).alloc (Nat.le_refl _) _).alloc (by simp) _
  have HC := closed_n hn g A c _ (by omega) hca.bnd (hs.below e0 e0.size)
  clear hs hn hca
  go_enter Tryd.func34, Tryd.ntmps34
  go_wp2_with fail
  with_reducible refine HC.mono ?_
  rintro e w1 ⟨v1, rfl, hown, hb1⟩
  clear HC
  have cz : w1.cell? ⟨w.heap.size + 1, 0, none⟩ = some (.slice none 0 0) := by rw [hb1.cell (p := ⟨w.heap.size + 1, 0, none⟩) (by simp)]; simp
  have fz : w1.frozen? ⟨w.heap.size + 1, 0, none⟩ = false := by rw [hb1.frozen (p := ⟨w.heap.size + 1, 0, none⟩) (by simp)]; simp
  have hz1 : w.heap.size + 1 < w1.heap.size := (by have := hb1.size; simp only [World.size_alloc] at this; omega)
  obtain ⟨A3, n3, c3, rfl, HN3, hc3, -⟩ := (IsSp.own hown).split
  have B1 : Ext w w1 := e0.tr hb1
  have hsp2 := Lib.hid (IsSp.own (ownsRow_setCell_below hown (a := ⟨w.heap.size + 1, 0, none⟩) (by simp) (.slice A3 n3 c3)))
  have HB2 : Hid (Below w.heap.size w (w1.setCell ⟨w.heap.size + 1, 0, none⟩ (.slice A3 n3 c3))) := B1.setCell (Nat.le_succ _) _
  clear hb1 hown e0
  go_wp2_with fail
  exact bodyPost_ret (v := .agg #[.slice A3 n3 c3]) (by simp [results, Tryd.results34, go_sem, cz]) rfl ⟨.slice A3 n3 c3, rfl, hsp2.out, HB2.out⟩
theorem Near_set {W : World} {v : Value} {l : List Sp} (g : Int) (h : IsSet W v l) (hm : l.length ≤ 1000000) :
    Calls Tryd.prog 34 #[v, .int .i64 g] W fun e w' => ∃ v', e = .returned v' ∧ IsSet w' v' (closeL g l) ∧ Below W.heap.size W w' := by
  obtain ⟨A, n, c, rfl, HN, _, HS, HC⟩ := h.split
  exact (Near_any g A n c l W HN.out (by have := HN.out; omega) HC.out HS.out).mono fun _ _ ⟨v, he, h1, h2⟩ => ⟨_, he, ⟨v, rfl, h1, near_canon g HC.out⟩, h2⟩
end Go.Proofs.YtoimoalkihjcfaaDoor
