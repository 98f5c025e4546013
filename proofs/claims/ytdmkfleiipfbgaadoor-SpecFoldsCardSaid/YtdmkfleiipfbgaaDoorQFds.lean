/-
  The walk of SpecFolds.
-/
import Derived.Test.YtdmkfleiipfbgaaDoorPJ
import Derived.Test.YtdmkfleiipfbgaaDoorPS
namespace Go.Proofs.YtdmkfleiipfbgaaDoor
open Go Go.RowKit

set_option maxHeartbeats 8000000 in
set_option maxRecDepth 100000 in
theorem walk_SpecFolds (A : Option Addr) (n c : Nat) (l : List Sp) (g : Int) (w : World) (hL : MX w) (hn : l.length = n) (hm : n ≤ maxLen) (hs : SpAt w w.heap.size A l) (_wg : (Lit.int .i64 g).wf = true) :
    Calls Tryd.prog 6 #[.slice A n c, .int .i64 g] w fun e w' => e = .returned (.bool true) ∧ Below w.heap.size w w' := by
  have hgo := good_any5 A n c l w hn (by unfold maxLen at hm; exact hm) hs
  cases hr : (goodL l && decide (n ≤ 30)) with
  | false =>
    rw [hr] at hgo
    go_enter Tryd.func6, Tryd.ntmps6
    go_wp2_with (first
      | (go_at_call 23; refine hgo.mono ?_; rintro e w0 ⟨rfl, hb0⟩)
      | (go_at_call 11; refine (awake_any _ (hL.below hb0)).mono ?_; rintro e w1 ⟨rfl, hb1⟩; have B1 := Ext.tr hb0 hb1))
    go_ret
    exact ⟨rfl, B1⟩
  | true =>
    rw [hr] at hgo
    simp only [Bool.and_eq_true, decide_eq_true_eq] at hr
    have hsol : SolidL l := fun x hx => goodL_iff.1 hr.1 x hx
    have hn30 := hr.2
    have hF := fun W (hW : Ext w W) => fold_any g A n c l W hn (by omega) (hs.below hW hW.size)
    have HFL : Hid ((foldL g l).length ≤ 30) := by unfold Hid; have := foldL_len g l; omega
    have HS := Lib.hid hs
    have HL := Lib.hid hn
    have HSol := Lib.hid hsol
    unfold FoldPost at hF
    clear hs hsol hr
    go_enter Tryd.func6, Tryd.ntmps6
    go_wp2_with (first
      | (go_at_call 23; refine hgo.mono ?_; rintro e w0 ⟨rfl, hb0⟩; have tok : True := trivial)
      | (at_builtin; have _t := tok; refine app_spans w0 (by rfl) _ _ (by rfl) w0.heap.size _ [] l (by rfl) (World.ownsRow_nil _ _ _ _) w0.heap.size A c (by rw [hn]; rfl) (HS.out.below hb0 hb0.size) (by simp; omega) (Nat.le_refl _) ?_; intro v1 w1 hown1 hgrow; have hb1 : Ext w0 w1 := below_app_same (Below.refl _ _) (Nat.le_refl _) (World.ownsRow_nil w0 w0.heap.size 39 2) hgrow; clear hgrow tok))
    rw [List.nil_append] at hown1
    have B1 := Ext.tr hb0 hb1
    obtain ⟨A1, n1, c1, rfl, HN1, hc1, hs1⟩ := (IsSp.own hown1).split
    have HS1 := Lib.hid hs1
    have hn1 : n1 ≤ 30 := by have := HN1.out; omega
    clear hown1 hs1 hgo
    go_wp2_with fail
    refine (hF _ B1).mono ?_
    rintro e w2 ⟨v2, rfl, hown2, hb2⟩
    have B2 := Ext.tr B1 hb2
    have hR := rfold_any g A1 n1 c1 l w2 HN1.out (by omega) HSol.out (HS1.out.below hb2 hb2.size)
    have hsp2 := Lib.hid (IsSp.own hown2)
    clear hF hown2
    go_wp2_with fail
    refine hR.mono ?_
    rintro e w3 ⟨v3, rfl, hsp3, hb3⟩
    have B3 := Ext.tr B2 hb3
    have h1 := rspans_sp (hsp2.out.below hb3) hsp3 (by have := HFL.out; omega)
    rw [show decide (foldL g l = foldL g l) = true from by simp] at h1
    clear hR hsp3
    go_wp2_with fail
    refine h1.mono ?_
    rintro e w4 ⟨rfl, hb4⟩
    have B4 := Ext.tr B3 hb4
    have e4 : Ext w1 w4 := Ext.tr hb2 (Ext.tr hb3 hb4)
    have h2 := rspans_any A A1 c c1 l l w4 (by omega) (HS.out.below B4 B4.size) (HS1.out.below e4 e4.size)
    rw [show decide (l = l) = true from by simp, hn] at h2
    rw [show n1 = n from by have := HN1.out; omega]
    clear h1
    go_wp2_with (first
      | (go_at_call 22; refine h2.mono ?_; rintro e w5 ⟨rfl, hb5⟩; have B5 := Ext.tr B4 hb5)
      | (go_at_call 11; refine (awake_any _ (hL.below B5)).mono ?_; rintro e w6 ⟨rfl, hb6⟩; have B6 := Ext.tr B5 hb6))
    go_ret
    exact ⟨rfl, B6⟩
end Go.Proofs.YtdmkfleiipfbgaaDoor
