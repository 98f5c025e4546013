/-
  The walk of SpecCovers.
-/
import Derived.Test.YtdmkfleiipfbgaaDoorPJ
import Derived.Test.YtdmkfleiipfbgaaDoorPK
namespace Go.Proofs.YtdmkfleiipfbgaaDoor
open Go Go.RowKit

theorem covL_len (l : List Sp) : (covL l).length ≤ l.length := by
  unfold covL
  split
  · simp
  · have h1 := normL_len (resL 4611686018427387904 l)
    have h2 := resL_len 4611686018427387904 l
    omega

set_option maxHeartbeats 4000000 in
set_option maxRecDepth 100000 in
theorem walk_SpecCovers (A : Option Addr) (n c : Nat) (l : List Sp) (w : World) (hL : MX w) (hn : l.length = n) (_hm : n ≤ maxLen) (hs : SpAt w w.heap.size A l) :
    Calls Tryd.prog 8 #[.slice A n c] w fun e w' => e = .returned (.bool true) ∧ Below w.heap.size w w' := by
  by_cases h30 : n > 30
  · have hg : decide ((n : Int) > 30) = true := by simp; omega
    go_enter Tryd.func8, Tryd.ntmps8
    go_wp2_with (go_at_call 11; refine (awake_any _ hL).mono ?_; rintro e w1 ⟨rfl, hb1⟩)
    go_ret
    exact ⟨rfl, hb1⟩
  · have hal := all_any4 A n c l w hn (by omega) hs
    cases hr : allR l with
    | false =>
      rw [hr] at hal
      go_enter Tryd.func8, Tryd.ntmps8
      go_wp2_with (first
        | (go_at_call 19; refine hal.mono ?_; rintro e w0 ⟨rfl, hb0⟩)
        | (go_at_call 11; refine (awake_any _ (hL.below hb0)).mono ?_; rintro e w1 ⟨rfl, hb1⟩; have B1 := Ext.tr hb0 hb1))
      go_ret
      exact ⟨rfl, B1⟩
    | true =>
      rw [hr] at hal
      have hA := fun W (hW : Ext w W) => cover_any A n c l W hn (by omega) hr (hs.below hW hW.size)
      have hB := fun W (hW : Ext w W) => rcover_any A n c l W hn (by omega) hr (hs.below hW hW.size)
      have hlen : (covL l).length ≤ 30 := by have := covL_len l; omega
      have HLE := Lib.hid hlen
      generalize covL l = R at *
      generalize covB l = C at *
      have hCC : (C == C) = true := by simp
      clear hs hn hr hlen
      go_enter Tryd.func8, Tryd.ntmps8
      go_wp2_with (go_at_call 19; refine hal.mono ?_; rintro e w0 ⟨rfl, hb0⟩)
      refine (hA _ hb0).mono ?_
      rintro e w1 ⟨v1, rfl, hset1, hb1⟩
      have B1 := Ext.tr hb0 hb1
      obtain ⟨A1, n1, c1, rfl, HN1, hc1, HS1, HC1⟩ := hset1.split
      clear hA hal
      have e1 : Ext w1 (w1.alloc (.cells #[.slice A1 n1 c1] 48)) := (Below.refl _ _).alloc (Nat.le_refl _) _
      have k0 : (w1.alloc (.cells #[.slice A1 n1 c1] 48)).cell? ⟨w1.heap.size, 0, none⟩ = some (.slice A1 n1 c1) := by simp
      have k1 : w1.heap.size < (w1.alloc (.cells #[.slice A1 n1 c1] 48)).heap.size := by simp
      go_wp2_with fail
      generalize w1.alloc (.cells #[.slice A1 n1 c1] 48) = w2 at *
      have B2 := Ext.tr B1 e1
      refine (hB _ B2).mono ?_
      rintro e w3 ⟨v3, rfl, hsp3, hb3⟩
      have B3 := Ext.tr B2 hb3
      have k3 : w3.cell? ⟨w1.heap.size, 0, none⟩ = some (.slice A1 n1 c1) := by rw [hb3.cell (p := ⟨w1.heap.size, 0, none⟩) k1]; exact k0
      have k4 : w1.heap.size < w3.heap.size := Nat.lt_of_lt_of_le k1 hb3.size
      have hS := Spans_set (IsSet.st _ _ _ hset1 (Ext.tr e1 hb3)) (by have := HLE.out; omega)
      have HP := Lib.hid hsp3
      clear hsp3 hB hset1
      go_wp2_with (first
        | (go_at_call 33; refine hS.mono ?_; rintro e w4 ⟨v4, rfl, hsp4, hb4⟩; have B4 := Ext.tr B3 hb4; have hsp := rspans_sp hsp4 (HP.out.below hb4) (by have := HLE.out; omega); rw [show decide (R = R) = true from by simp] at hsp; clear hsp4)
        | (go_at_call 22; refine hsp.mono ?_; rintro e w5 ⟨rfl, hb5⟩; have B5 := Ext.tr B4 hb5)
        | (go_at_call 11; refine (awake_any _ (hL.below B5)).mono ?_; rintro e w6 ⟨rfl, hb6⟩; have B6 := Ext.tr B5 hb6))
      go_ret
      exact ⟨rfl, B6⟩
end Go.Proofs.YtdmkfleiipfbgaaDoor
