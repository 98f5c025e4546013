/-
  The walk of SpecResolves.
-/
import Derived.Test.YtdmkfleiipfbgaaDoorPJ
import Derived.Test.YtdmkfleiipfbgaaDoorPD
namespace Go.Proofs.YtdmkfleiipfbgaaDoor
open Go Go.RowKit

set_option maxHeartbeats 4000000 in
set_option maxRecDepth 100000 in
theorem walk_SpecResolves (A : Option Addr) (n c : Nat) (l : List Sp) (t : Int) (w : World) (hL : MX w) (hn : l.length = n) (_hm : n ≤ maxLen) (hs : SpAt w w.heap.size A l) (_wt : (Lit.int .i64 t).wf = true) :
    Calls Tryd.prog 5 #[.slice A n c, .int .i64 t] w fun e w' => e = .returned (.bool true) ∧ Below w.heap.size w w' := by
  by_cases h100 : n > 100
  · have hg : decide ((n : Int) > 100) = true := by simp; omega
    go_enter Tryd.func5, Tryd.ntmps5
    go_wp2_with (go_at_call 11; refine (awake_any _ hL).mono ?_; rintro e w1 ⟨rfl, hb1⟩)
    go_ret
    exact ⟨rfl, hb1⟩
  · have hal := all_any4 A n c l w hn (by omega) hs
    cases hr : allR l with
    | false =>
      rw [hr] at hal
      go_enter Tryd.func5, Tryd.ntmps5
      go_wp2_with (first
        | (go_at_call 19; refine hal.mono ?_; rintro e w0 ⟨rfl, hb0⟩)
        | (go_at_call 11; refine (awake_any _ (hL.below hb0)).mono ?_; rintro e w1 ⟨rfl, hb1⟩; have B1 := Ext.tr hb0 hb1))
      go_ret
      exact ⟨rfl, B1⟩
    | true =>
      rw [hr] at hal
      by_cases h0 : t < 0
      · go_enter Tryd.func5, Tryd.ntmps5
        go_wp2_with (first
          | (go_at_call 19; refine hal.mono ?_; rintro e w0 ⟨rfl, hb0⟩)
          | (go_at_call 11; refine (awake_any _ (hL.below hb0)).mono ?_; rintro e w1 ⟨rfl, hb1⟩; have B1 := Ext.tr hb0 hb1))
        go_ret
        exact ⟨rfl, B1⟩
      · by_cases h1 : t > 1099511627776
        · go_enter Tryd.func5, Tryd.ntmps5
          go_wp2_with (first
            | (go_at_call 19; refine hal.mono ?_; rintro e w0 ⟨rfl, hb0⟩)
            | (go_at_call 11; refine (awake_any _ (hL.below hb0)).mono ?_; rintro e w1 ⟨rfl, hb1⟩; have B1 := Ext.tr hb0 hb1))
          go_ret
          exact ⟨rfl, B1⟩
        · have hsr := SRL.of hr
          have hA := fun W (hW : Ext w W) => resolve_any t A n c l W hn (by omega) hsr (by omega) (by omega) (hs.below hW hW.size)
          have hB := fun W (hW : Ext w W) => rresolve_any t A n c l W hn (by omega) hsr (by omega) (by omega) (hs.below hW hW.size)
          have HWI := Lib.hid (res_within hsr (show 0 ≤ t by omega))
          have hlen : (resL t l).length ≤ 100 := by have := resL_len t l; omega
          have HLE := Lib.hid hlen
          unfold ResPost at hA hB
          generalize resL t l = R at *
          clear hs hn hr hsr hlen
          go_enter Tryd.func5, Tryd.ntmps5
          go_wp2_with (first
            | (go_at_call 19; refine hal.mono ?_; rintro e w0 ⟨rfl, hb0⟩)
            | (go_at_call 20; refine (hA _ hb0).mono ?_; rintro e w1 ⟨v1, rfl, hown1, hb1⟩; have B1 := Ext.tr hb0 hb1; have sp1 := IsSp.own hown1; obtain ⟨A1, n1, c1, rfl, HN1, hc1, hs1⟩ := sp1.split; have HS1 := Lib.hid hs1; clear hs1 hown1)
            | (go_at_call 21; refine (hB _ B1).mono ?_; rintro e w2 ⟨v2, rfl, hown2, hb2⟩; have B2 := Ext.tr B1 hb2; have hsp := rspans_sp (sp1.below hb2) (IsSp.own hown2) (by have := HLE.out; omega); rw [show decide (R = R) = true from by simp] at hsp)
            | (go_at_call 22; refine hsp.mono ?_; rintro e w3 ⟨rfl, hb3⟩; have B3 := Ext.tr B2 hb3; have hs3 := HS1.out.below (Ext.tr hb2 hb3) (Ext.tr hb2 hb3).size; have HS3 := Lib.hid hs3; clear hs3 hsp sp1))
          go_loopw [51] (fun i wr => ∃ k : Nat, k ≤ n1 ∧ i = .int .i64 k ∧ Below w3.heap.size w3 wr) (fun i _ => n1 - (intOf i).toNat)
          case atStart => exact ⟨0, Nat.zero_le _, rfl, Below.refl _ _⟩
          case round =>
            obtain ⟨k, hk, rfl, hbel⟩ := hrel
            have hn1 : n1 ≤ 100 := by have := HN1.out; have := HLE.out; omega
            by_cases hlt : k < n1
            · have hkl : k < R.length := by have := HN1.out; omega
              obtain ⟨b, o, rfl, hbb, hc⟩ := (HS3.out.below hbel (Nat.le_refl _)) (by omega)
              obtain ⟨c0, c1⟩ := hc k hkl
              clear hc
              have hx := HWI.out R[k] (List.getElem_mem hkl)
              generalize R[k] = X at *
              obtain ⟨x, y⟩ := X
              simp only at c0 c1 hx
              have hbz : b < wr.heap.size := by have := hbel.size; omega
              have e1 : Ext wr (wr.alloc (.cells #[.int .i64 x, .int .i64 y] 39)) := (Below.refl _ _).alloc (Nat.le_refl _) _
              have hb2 := hbel.trans (e1.mono hbel.size)
              have q1 : decide (x < 0) = false := by simp; omega
              have q2 : decide (x ≥ y) = false := by simp; omega
              have q3 : decide (y > t) = false := by simp; omega
              go_wp2
              go_roundw
              case rel => exact ⟨k + 1, by omega, by go_num, hb2⟩
              case measure => simp [intOf]; omega
            · obtain rfl : k = n1 := by omega
              have B4 := Ext.tr B3 hbel
              go_wp2_with (go_at_call 11; refine (awake_any _ (hL.below B4)).mono ?_; rintro e w9 ⟨rfl, hb9⟩; have B9 := Ext.tr B4 hb9)
              go_ret
              exact ⟨rfl, B9⟩
end Go.Proofs.YtdmkfleiipfbgaaDoor
