/-
  The example that every statement of layer 4 asks beside its own: true in every start.
-/
import Derived.Test.YtdmkfleiipfbgaaDoorPG
import Derived.Test.YtdmkfleiipfbgaaDoorPI
namespace Go.Proofs.YtdmkfleiipfbgaaDoor
open Go Go.RowKit

/-- bytes=0-4, 7-,,-3 -/
abbrev exL : List UInt8 := [98, 121, 116, 101, 115, 61, 48, 45, 52, 44, 32, 55, 45, 44, 44, 45, 51]
theorem ex_parse : parseD exL = ([(0, 4), (7, -1), (-1, 3)], 0) := by decide +kernel
theorem ex_ascii : ∀ (j : Nat) b, (Lib.cut exL [61]).1[j]? = some b → b.toNat < 128 := ascii_of_all (by decide +kernel)
theorem ex_res : resL 10 [(0, 4), (7, -1), (-1, 3)] = [(0, 5), (7, 10), (7, 10)] := by decide +kernel
theorem ex_norm : normL [(0, 5), (7, 10), (7, 10)] = [(0, 5), (7, 10)] := by
  refine (Norm.is ⟨⟨?_, ?_⟩, fun p => ?_⟩).symm
  · intro x hx; simp at hx; rcases hx with rfl | rfl <;> (unfold Solid; simp)
  · simp [Gapped]
  · simp only [InL_cons, InL_nil, or_false]; unfold InS; simp only; omega
theorem ex_fold0 : foldL 0 [(0, 5), (7, 10), (7, 10)] = [(0, 5), (7, 10)] := by
  unfold foldL wideL; rw [ex_norm]; decide +kernel
theorem ex_fold2 : foldL 2 [(0, 5), (7, 10), (7, 10)] = [(0, 10)] := by
  unfold foldL wideL; rw [ex_norm]; decide +kernel

set_option maxHeartbeats 4000000 in
set_option maxRecDepth 100000 in
theorem awake_any (w : World) (hL : MX w) : Calls Tryd.prog 11 #[] w fun e w' => e = .returned (.bool true) ∧ Below w.heap.size w w' := by
  have hP := parse_any ⟨#[98, 121, 116, 101, 115, 61, 48, 45, 52, 44, 32, 55, 45, 44, 44, 45, 51]⟩ w hL (by decide) (fun _ => ex_ascii)
  change Calls Tryd.prog 12 _ w fun e w' => ∃ v, e = .returned (.tuple #[v, .int .i64 (parseD exL).2]) ∧ IsSp w' v (parseD exL).1 ∧ Below w.heap.size w w' at hP
  rw [ex_parse] at hP
  go_enter Tryd.func11, Tryd.ntmps11
  go_wp2_with (go_at_call 12; refine hP.mono ?_; rintro e w1 ⟨v, rfl, hsp, B1⟩; obtain ⟨A1, n1, c1, rfl, HN1, hc1, hs1⟩ := hsp.split; obtain rfl : n1 = 3 := (by have := HN1.out; simpa using this.symm); have hR := resolve_any 10 A1 3 c1 _ w1 rfl (by decide) (SRL.of (by decide +kernel)) (by decide) (by decide) hs1; rw [show (3 : Nat) = 3 from rfl] at hR; clear hP hs1)
  refine hR.mono ?_
  rintro e w2 ⟨v2, rfl, hown, hb2⟩
  rw [ex_res] at hown ⊢
  have B2 := Ext.tr B1 hb2
  obtain ⟨A2, n2, c2, rfl, HN2, hc2, hs2⟩ := (IsSp.own hown).split
  obtain rfl : n2 = 3 := by have := HN2.out; simpa using this.symm
  obtain ⟨b, o, rfl, hbb, hc⟩ := hs2 (by decide)
  obtain ⟨k0, k1⟩ := hc 2 (by decide)
  have hs2' : SpAt w2 w2.heap.size (some ⟨b, o, none⟩) [(0, 5), (7, 10), (7, 10)] := hs2
  have hF0 := fold_any 0 (some ⟨b, o, none⟩) 3 c2 _ w2 rfl (by decide) hs2'
  have hF2 := fun W (hW : Ext w2 W) => fold_any 2 (some ⟨b, o, none⟩) 3 c2 _ W rfl (by decide) (hs2'.below hW hW.size)
  unfold FoldPost at hF0 hF2
  rw [ex_fold0] at hF0
  rw [ex_fold2] at hF2
  clear hs2 hs2' hc hown hR hsp
  simp only [List.getElem_cons_succ, List.getElem_cons_zero] at k0 k1
  go_wp2_with (first
    | (go_at_call 24; with_reducible refine hF0.mono ?_; rintro e w3 ⟨v3, rfl, hown3, hb3⟩; have B3 := Ext.tr B2 hb3; obtain ⟨A3, n3, c3, rfl, HN3, hc3, -⟩ := (IsSp.own hown3).split; obtain rfl : n3 = 2 := (by have := HN3.out; simpa using this.symm); clear hown3)
    | (go_at_call 24; with_reducible refine (hF2 _ hb3).mono ?_; rintro e w4 ⟨v4, rfl, hown4, hb4⟩; have B4 := Ext.tr B3 hb4; obtain ⟨A4, n4, c4, rfl, HN4, hc4, -⟩ := (IsSp.own hown4).split; obtain rfl : n4 = 1 := (by have := HN4.out; simpa using this.symm); clear hown4))
  go_ret
  exact ⟨rfl, B4⟩
end Go.Proofs.YtdmkfleiipfbgaaDoor
