/-
  The reference's And, Less and Same of lists of spans.
-/
import Derived.Test.YtdmkfleiipfbgaaDoorKL
import Derived.Test.YtdmkfleiipfbgaaDoorRB
import Derived.Test.YtdmkfleiipfbgaaDoorNB
namespace Go.Proofs.YtdmkfleiipfbgaaDoor
open Go Go.RowKit

set_option maxHeartbeats 2000000 in
theorem rAnd_set {W : World} {v u : Value} {a b : List Sp} (h : IsSp W v a) (k : IsSp W u b) (hm : a.length ≤ 100000) (hm' : b.length ≤ 100000) :
    Calls Tryd.prog 36 #[v, u] W fun e w' => ∃ v', e = .returned v' ∧ (IsSp w' v' (keepL 2 a b) ∧ (keepL 2 a b).length ≤ 2 * (a.length + b.length) ∧ Canon (keepL 2 a b) ∧ ∀ p, InL (keepL 2 a b) p ↔ keepB 2 a b p = true) ∧ Below W.heap.size W w' := by
  obtain ⟨A, c, rfl, _, hs⟩ := h
  obtain ⟨A', c', rfl, _, hs'⟩ := k
  have HC := Lib.hid (of_any 2 (by omega) A A' c c' a b W hm hm' hs hs')
  clear hs hs'
  go_enter Tryd.func36, Tryd.ntmps36
  go_wp2_with (go_at_call 55; refine (Hid.out HC).mono ?_; rintro e w1 ⟨v, out, rfl, h1, h2, h3, h4, h5⟩; have HK := Lib.hid (keepL_is h2 h3); have H2 := Lib.hid h2; have H3 := Lib.hid h3; have H1 := Lib.hid h1; have H4 := Lib.hid h4; clear h1 h2 h3 h4)
  go_ret
  exact ⟨v, rfl, ⟨by rw [← HK.out]; exact H1.out, by rw [← HK.out]; exact H4.out, by rw [← HK.out]; exact H2.out, by rw [← HK.out]; exact H3.out⟩, h5⟩

set_option maxHeartbeats 2000000 in
theorem rLess_set {W : World} {v u : Value} {a b : List Sp} (h : IsSp W v a) (k : IsSp W u b) (hm : a.length ≤ 100000) (hm' : b.length ≤ 100000) :
    Calls Tryd.prog 28 #[v, u] W fun e w' => ∃ v', e = .returned v' ∧ (IsSp w' v' (keepL 3 a b) ∧ (keepL 3 a b).length ≤ 2 * (a.length + b.length) ∧ Canon (keepL 3 a b) ∧ ∀ p, InL (keepL 3 a b) p ↔ keepB 3 a b p = true) ∧ Below W.heap.size W w' := by
  obtain ⟨A, c, rfl, _, hs⟩ := h
  obtain ⟨A', c', rfl, _, hs'⟩ := k
  have HC := Lib.hid (of_any 3 (by omega) A A' c c' a b W hm hm' hs hs')
  clear hs hs'
  go_enter Tryd.func28, Tryd.ntmps28
  go_wp2_with (go_at_call 55; refine (Hid.out HC).mono ?_; rintro e w1 ⟨v, out, rfl, h1, h2, h3, h4, h5⟩; have HK := Lib.hid (keepL_is h2 h3); have H2 := Lib.hid h2; have H3 := Lib.hid h3; have H1 := Lib.hid h1; have H4 := Lib.hid h4; clear h1 h2 h3 h4)
  go_ret
  exact ⟨v, rfl, ⟨by rw [← HK.out]; exact H1.out, by rw [← HK.out]; exact H4.out, by rw [← HK.out]; exact H2.out, by rw [← HK.out]; exact H3.out⟩, h5⟩

theorem normL_can {l : List Sp} (h : Canon l) : normL l = l := (Norm.is ⟨h, fun _ => Iff.rfl⟩).symm

set_option maxHeartbeats 4000000 in
set_option maxRecDepth 100000 in
theorem rSame_any (A A' : Option Addr) (n n' c c' : Nat) (a b : List Sp) (w : World) (hn : a.length = n) (hn' : b.length = n') (hm : n ≤ 100000) (hm' : n' ≤ 100000) (hs : SpAt w w.heap.size A a) (hs' : SpAt w w.heap.size A' b) :
    Calls Tryd.prog 29 #[.slice A n c, .slice A' n' c'] w fun e w' => e = .returned (.bool (decide (normL a = normL b))) ∧ Below w.heap.size w w' := by
  have HO1 := fun W (hW : Ext w W) => rOf_set A n c a W hn hm (hs.below hW hW.size)
  have HO2 := fun W (hW : Ext w W) => rOf_set A' n' c' b W hn' hm' (hs'.below hW hW.size)
  have hl1 : (normL a).length ≤ 100000 := by have := normL_len a; omega
  clear hs hs'
  generalize normL a = l at *
  generalize normL b = m at *
  go_enter Tryd.func29, Tryd.ntmps29
  go_wp2_with fail
  with_reducible refine (HO1 w (Below.refl _ _)).mono ?_
  rintro e w1 ⟨v1, rfl, hsp1, hb1⟩
  go_wp2_with fail
  with_reducible refine (HO2 w1 hb1).mono ?_
  rintro e w2 ⟨v2, rfl, hsp2, hb2⟩
  have E2 : Ext w w2 := Ext.tr hb1 hb2
  obtain ⟨A1, n1, c1, rfl, HL, hcc1, hs1⟩ := (hsp1.below hb2).split
  obtain ⟨A2, n2, c2, rfl, HL', hcc2, hs2⟩ := hsp2.split
  have HS := Lib.hid hs1; have HS' := Lib.hid hs2
  clear HO1 HO2 hs1 hs2 hsp1 hsp2 hb1 hb2 hn hn'
  have hn : n1 ≤ 100000 := by have := HL.out; omega
  by_cases hlen : n1 = n2
  · subst hlen
    go_wp2
    go_loopw [7] (fun i wr => ∃ k : Nat, k ≤ n1 ∧ i = .int .i64 k ∧ Hid (l.take k = m.take k) ∧ Below w2.heap.size w2 wr) (fun i _ => n1 - (intOf i).toNat)
    case atStart => exact ⟨0, Nat.zero_le _, rfl, rfl, Below.refl _ _⟩
    case round =>
      obtain ⟨k, hk, rfl, HG, hbel⟩ := hrel
      by_cases hlt : k < n1
      · have hkl : k < l.length := by have := HL.out; omega
        have hkm : k < m.length := by have := HL'.out; omega
        obtain ⟨b, o, rfl, hb, hc⟩ := (HS.out.below hbel (Nat.le_refl _)) (by omega)
        obtain ⟨b', o', rfl, hb', hc'⟩ := (HS'.out.below hbel (Nat.le_refl _)) (by omega)
        obtain ⟨c0, c1⟩ := hc k hkl
        obtain ⟨d0, d1⟩ := hc' k hkm
        clear hc hc'
        have HT := Lib.hid (take_same_snoc hkl hkm HG.out)
        have HA := Lib.hid (ne_at hkl hkm)
        generalize l[k] = X at *
        generalize m[k] = Y at *
        obtain ⟨x, y⟩ := X
        obtain ⟨x', y'⟩ := Y
        have hbz : b < wr.heap.size := by have := hbel.size; omega
        have hbz' : b' < wr.heap.size := by have := hbel.size; omega
        by_cases h1 : x = x'
        · subst h1
          by_cases h2 : y = y'
          · subst h2
            have HF : Hid (l.take (k + 1) = m.take (k + 1)) := HT.out rfl
            clear HT HA HG
            go_wp2
            go_quiet (fail)
            go_wp2
            go_roundw
            case rel => exact ⟨k + 1, by omega, by go_num, HF, below_drewN hbel _⟩
            case measure => simp [intOf]; omega
          · have HF : Hid (l ≠ m) := HA.out (by intro h; injection h with _ h; exact h2 h)
            clear HT HA HG
            go_wp2
            go_quiet (fail)
            go_wp2
            go_ret
            exact ⟨ret_bool (by have := HF.out; simp [this]), Ext.tr E2 (below_drewN hbel _)⟩
        · have HF : Hid (l ≠ m) := HA.out (by intro h; injection h with h _; exact h1 h)
          clear HT HA HG
          go_wp2
          go_quiet (fail)
          go_wp2
          go_ret
          exact ⟨ret_bool (by have := HF.out; simp [this]), Ext.tr E2 (below_drewN hbel _)⟩
      · obtain rfl : k = n1 := by omega
        have HF : Hid (l = m) := by
          have := HG.out
          rwa [List.take_of_length_le (by have := HL.out; omega), List.take_of_length_le (by have := HL'.out; omega)] at this
        clear HG
        go_wp2
        go_ret
        exact ⟨ret_bool (by have := HF.out; simp [this]), Ext.tr E2 hbel⟩
  · have HF : Hid (l ≠ m) := fun e => hlen (by rw [← HL.out, ← HL'.out, e])
    have hb1 : ((n1 : Int) == (n2 : Int)) = false := by simpa using (by omega : ¬ (n1 : Int) = n2)
    go_wp2
    go_ret
    exact ⟨ret_bool (by have := HF.out; simp [this]), E2⟩
theorem rSame_sp {W : World} {v u : Value} {a b : List Sp} (h : IsSp W v a) (k : IsSp W u b) (ha : Canon a) (hb : Canon b) (hm : a.length ≤ 100000) (hm' : b.length ≤ 100000) :
    Calls Tryd.prog 29 #[v, u] W fun e w' => e = .returned (.bool (decide (a = b))) ∧ Below W.heap.size W w' := by
  obtain ⟨A, n, c, rfl, HN, _, HS⟩ := h.split
  obtain ⟨A', n', c', rfl, HN', _, HS'⟩ := k.split
  have h := rSame_any A A' n n' c c' a b W HN.out HN'.out (by have := HN.out; omega) (by have := HN'.out; omega) HS HS'
  rw [normL_can ha, normL_can hb] at h
  exact h
end Go.Proofs.YtdmkfleiipfbgaaDoor
