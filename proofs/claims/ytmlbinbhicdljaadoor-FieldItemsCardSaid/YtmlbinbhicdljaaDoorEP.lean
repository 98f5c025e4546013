/-
  The example that every statement of layer 7 asks beside its own: true in every start.
-/
import Derived.Test.YtmlbinbhicdljaaDoorGS
import Derived.Test.YtmlbinbhicdljaaDoorIS
namespace Go.Proofs.YtmlbinbhicdljaaDoor
open Go Go.RowKit

abbrev exS : List UInt8 := [97, 58, 32, 49, 44, 32, 34, 98, 44, 92, 34, 99, 34, 32, 44, 44, 32, 100, 13, 10, 13, 10, 120]
abbrev exV : ByteArray := ⟨#[49, 44, 32, 34, 98, 44, 92, 34, 99, 34, 32, 44, 44, 32, 100]⟩
abbrev exF : Fd := (⟨#[97]⟩, exV)
theorem ex_l1 : cutLine exS = some ([97, 58, 32, 49, 44, 32, 34, 98, 44, 92, 34, 99, 34, 32, 44, 44, 32, 100], [13, 10, 120]) := by kernel_rfl
theorem ex_r1 : readD [97, 58, 32, 49, 44, 32, 34, 98, 44, 92, 34, 99, 34, 32, 44, 44, 32, 100] = some exF := by kernel_rfl
theorem ex_l2 : cutLine [13, 10, 120] = some ([], [120]) := by kernel_rfl
theorem ex_parse : parseD exS = ([exF], 22, 0) := by
  unfold parseD
  rw [goL_go ex_l1 (by decide) (by decide) (by decide) ex_r1, goL_end ex_l2 (by decide) rfl]
  rfl
abbrev exT : List UInt8 := [97, 32, 58, 32, 49, 13, 10, 13, 10]
theorem ex_l3 : cutLine exT = some ([97, 32, 58, 32, 49], [13, 10]) := by kernel_rfl
theorem ex_r3 : readD [97, 32, 58, 32, 49] = none := by kernel_rfl
theorem ex_parse2 : parseD exT = ([], 0, 2) := by
  unfold parseD
  exact goL_bad ex_l3 (by decide) (by decide) (by decide) ex_r3
theorem ex_items : itemsD [exV] = [⟨#[49]⟩, ⟨#[34, 98, 44, 92, 34, 99, 34]⟩, ⟨#[100]⟩] := by kernel_rfl
theorem one_at (W : World) (x : ByteArray) : TxAt (W.alloc (.cells #[.string x] 9)) (W.alloc (.cells #[.string x] 9)).heap.size (some ⟨W.heap.size, 0, none⟩) [x] := by
  intro _
  refine ⟨W.heap.size, 0, rfl, by simp, fun j hj => ?_⟩
  have : j = 0 := by simpa using hj
  subst this
  simp
theorem two_at (W : World) (x y : ByteArray) : TxAt (W.alloc (.cells #[.string x, .string y] 9)) (W.alloc (.cells #[.string x, .string y] 9)).heap.size (some ⟨W.heap.size, 0, none⟩) [x, y] := by
  intro _
  refine ⟨W.heap.size, 0, rfl, by simp, fun j hj => ?_⟩
  match j, hj with
  | 0, _ => simp
  | 1, _ => simp
theorem three_at (W : World) (x y z : ByteArray) : TxAt (W.alloc (.cells #[.string x, .string y, .string z] 9)) (W.alloc (.cells #[.string x, .string y, .string z] 9)).heap.size (some ⟨W.heap.size, 0, none⟩) [x, y, z] := by
  intro _
  refine ⟨W.heap.size, 0, rfl, by simp, fun j hj => ?_⟩
  match j, hj with
  | 0, _ => simp
  | 1, _ => simp
  | 2, _ => simp

set_option maxHeartbeats 8000000 in
set_option maxRecDepth 100000 in
theorem alive_any (w : World) (hm : MxAt w) : Calls Tryd.prog 11 #[] w fun e w' => e = .returned (.bool true) ∧ Below w.heap.size w w' := by
  have h1 := fun W hW => parse_any ⟨exS.toArray⟩ W (by decide) hW
  have h2 := fun W hW => parse_any ⟨exT.toArray⟩ W (by decide) hW
  rw [ba_list] at h1 h2
  unfold parseV at h1 h2
  rw [ex_parse] at h1
  rw [ex_parse2] at h2
  go_enter Tryd.func11, Tryd.ntmps11
  go_wp2_with fail
  with_reducible refine (h1 _ hm).mono ?_
  rintro e w1 ⟨v1, rfl, hown1, hb1⟩
  obtain ⟨A1, n1, c1, rfl, HN1, hc1, hf1⟩ := (IsFd.own hown1).split
  obtain rfl : n1 = 1 := by have := HN1.out; simpa using this.symm
  have hm1 := hm.ext hb1 (Nat.le_refl _)
  clear hown1 h1 hm
  go_wp2_with fail
  with_reducible refine (h2 _ hm1).mono ?_
  rintro e w2 ⟨v2, rfl, -, hb2⟩
  have B2 := hb1.trans (hb2.mono hb1.size)
  have hf2 := hf1.below hb2 hb2.size
  obtain ⟨b, o, rfl, hbb, hc⟩ := hf2 (by simp)
  obtain ⟨c0, c1⟩ := hc 0 (by simp)
  simp only [Nat.zero_mul, Nat.add_zero, List.getElem_cons_zero] at c0 c1
  clear hf1 hf2 hb2 hb1 h2 hm1 hc
  go_wp2_with fail
  have hI := lawitems_any (some ⟨w2.heap.size, 0, none⟩) 1 1 [exV] (w2.alloc (.cells #[.string exV] 9)) rfl (by omega) (by decide) (one_at w2 exV)
  rw [ex_items] at hI
  with_reducible refine hI.mono ?_
  rintro e w3 ⟨v3, rfl, hown3, hb3⟩
  have B3 := (B2.alloc B2.size (.cells #[.string exV] 9)).trans (hb3.mono (by simpa using Nat.le_succ_of_le B2.size))
  obtain ⟨A3, n3, c3, rfl, HN3, hc3, hx3⟩ := (IsTx.own hown3).split
  obtain rfl : n3 = 3 := by have := HN3.out; simpa using this.symm
  clear hown3 hI hb3 B2 c0 c1
  go_wp2_with fail
  have a4 : Ext w3 (w3.alloc (.cells #[.string ⟨#[49]⟩, .string ⟨#[34, 98, 44, 92, 34, 99, 34]⟩, .string ⟨#[100]⟩] 9)) := (Below.refl _ _).alloc (Nat.le_refl _) _
  have hT := rtexts_any A3 (some ⟨w3.heap.size, 0, none⟩) 3 3 c3 3 _ _ (w3.alloc (.cells #[.string ⟨#[49]⟩, .string ⟨#[34, 98, 44, 92, 34, 99, 34]⟩, .string ⟨#[100]⟩] 9)) rfl rfl (by omega) (hx3.below a4 a4.size) (three_at w3 _ _ _)
  rw [sameX_t rfl] at hT
  with_reducible refine hT.mono ?_
  rintro e w5 ⟨rfl, hb5⟩
  have B5 := (B3.alloc B3.size (.cells #[.string ⟨#[49]⟩, .string ⟨#[34, 98, 44, 92, 34, 99, 34]⟩, .string ⟨#[100]⟩] 9)).trans (hb5.mono (by simpa using Nat.le_succ_of_le B3.size))
  clear hT hb5 a4 hx3
  go_wp2_with fail
  go_ret
  exact ⟨rfl, B5⟩
end Go.Proofs.YtmlbinbhicdljaaDoor
