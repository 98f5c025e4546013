/-
  RangesAt: its walk.
-/
import Derived.Test.YtoimoalkihjcfaaDoorRX
namespace Go.Proofs.YtoimoalkihjcfaaDoor
open Go Go.RowKit

theorem great1 (b n c : Nat) (A : Option Addr) (w : World) (hc : w.cell? ⟨b, 0, none⟩ = some (.slice A n c)) (hn : n ≤ maxLen) :
    Calls Tryd.prog 12 #[.slice (some ⟨b, 0, none⟩) 1 1] w fun e w' => e = .returned (.bool (decide (20 < n))) ∧ w = w' := by
  have h := great_any b 1 (fun _ => A) (fun _ => n) (fun _ => c) w (by omega) (fun j hj => by obtain rfl : j = 0 := (by omega); exact hc) (fun _ _ => hn)
  rwa [show greatB (fun _ => n) 1 = decide (20 < n) from by simp [greatB]] at h
theorem norm_has (l : List Sp) (p : Int) : anyHas (normL l) p = anyHas l p := by
  have h := (normL_norm l).2 p
  rw [← anyHas_iff, ← anyHas_iff] at h
  cases h1 : anyHas (normL l) p <;> cases h2 : anyHas l p <;> simp_all

set_option maxHeartbeats 8000000 in
set_option maxRecDepth 100000 in
theorem walk_RangesAt (A : Option Addr) (n c : Nat) (l : List Sp) (p : Int) (w : World) (hn : l.length = n) (hmx : n ≤ maxLen) (hs : SpAt w w.heap.size A l) :
    Calls Tryd.prog 6 #[.slice A n c, .int .i64 p] w fun e w' => e = .returned (.bool true) ∧ Below w.heap.size w w' := by
  have HS := Lib.hid hs
  have HN := Lib.hid hn
  clear hs hn
  have hmx' := hmx
  unfold maxLen at hmx'
  by_cases hbig : 20 < n
  · go_enter Tryd.func6, Tryd.ntmps6
    go_wp2_with fail
    with_reducible refine (wakes_any _).mono ?_
    rintro e w1 ⟨rfl, hb1⟩
    go_wp2_with fail
    have hg := great1 w1.heap.size n c A (w1.alloc (.cells #[.slice A n c] 22)) (by simp) hmx
    rw [show decide (20 < n) = true from by simpa using hbig] at hg
    with_reducible refine hg.mono ?_
    rintro e w2 ⟨rfl, rfl⟩
    clear hg
    go_wp2
    go_ret
    exact ⟨rfl, Ext.tr hb1 ((Below.refl _ _).alloc (Nat.le_refl _) _)⟩
  · have hn20 : n ≤ 20 := by omega
    go_enter Tryd.func6, Tryd.ntmps6
    go_wp2_with fail
    with_reducible refine (wakes_any _).mono ?_
    rintro e w1 ⟨rfl, hb1⟩
    go_wp2_with fail
    have hg := great1 w1.heap.size n c A (w1.alloc (.cells #[.slice A n c] 22)) (by simp) hmx
    rw [show decide (20 < n) = false from by simpa using hbig] at hg
    with_reducible refine hg.mono ?_
    rintro e w2 ⟨rfl, rfl⟩
    clear hg
    have E1 : Ext w (w1.alloc (.cells #[.slice A n c] 22)) := Ext.tr hb1 ((Below.refl _ _).alloc (Nat.le_refl _) _)
    clear hb1
    go_wp2_with fail
    have hO := Of_set A n c l _ HN.out (by omega) (HS.out.below E1 E1.size)
    with_reducible refine hO.mono ?_
    rintro e w2 ⟨v2, rfl, hset, hb2⟩
    clear hO
    obtain ⟨hc2, hf2⟩ := bcell hb2
    have E2 := Ext.tr E1 hb2
    obtain ⟨A2, n2, c2, rfl, HN2, hcc2, -, -⟩ := hset.split
    have HSet := Lib.hid hset
    have hnl : (normL l).length ≤ 1000000 := by have := normL_len l; have := HN.out; omega
    clear hset hb2 E1
    go_wp2_with fail
    have a3 : Ext w2 (w2.alloc (.cells #[.slice A2 n2 c2] 26)) := (Below.refl _ _).alloc (Nat.le_refl _) _
    have hF := First_set p (IsSet.st _ _ _ HSet.out a3) hnl
    generalize hfv : firstL p (normL l) = fv at hF
    obtain ⟨⟨f1, f2⟩, fk⟩ := fv
    have HFV := Lib.hid hfv
    clear hfv
    with_reducible refine hF.mono ?_
    rintro e w3 ⟨rfl, hb3⟩
    clear hF
    obtain ⟨hc3, hf3⟩ := bcell hb3
    have E3' := a3.tr hb3
    have E3 := Ext.tr E2 E3'
    have hz3 : w2.heap.size < w3.heap.size := (by have := hb3.size; simp at this; omega)
    clear hb3 a3
    go_wp2_with fail
    have a4 : Ext w (w3.alloc (.cells #[.int .i64 f1, .int .i64 f2] 33)) := Ext.tr E3 ((Below.refl _ _).alloc (Nat.le_refl _) _)
    have hR := rOf_set A n c l _ HN.out (by omega) (HS.out.below a4 a4.size)
    with_reducible refine hR.mono ?_
    rintro e w4 ⟨v4, rfl, hsp, hb4⟩
    clear hR
    obtain ⟨hc4, hf4⟩ := bcell hb4
    have E4 := Ext.tr a4 hb4
    have E4' : Ext w3 w4 := Ext.tr ((Below.refl _ _).alloc (Nat.le_refl _) _) hb4
    have hz4 : w2.heap.size < w4.heap.size ∧ w3.heap.size < w4.heap.size := (by have := hb4.size; simp at this; omega)
    obtain ⟨A4, n4, c4, rfl, HN4, hcc4, hs4⟩ := hsp.split
    clear hb4 a4 hsp
    go_wp2_with fail
    have hRF := rfirst_any A4 n4 c4 (normL l) p w4 HN4.out (by have := HN4.out; omega) hs4
    rw [HFV.out] at hRF
    clear hs4
    with_reducible refine hRF.mono ?_
    rintro e w5 ⟨rfl, hb5⟩
    clear hRF
    obtain ⟨hc5, hf5⟩ := bcell hb5
    have E5 := Ext.tr E4 hb5
    have E5' : Ext w2 w5 := (Ext.tr E3' E4').tr hb5
    have hz5 : w2.heap.size < w5.heap.size ∧ w3.heap.size < w5.heap.size ∧ w2.heap.size < w5.heap.size + 1 ∧ w3.heap.size < w5.heap.size + 1 := (by have := hb5.size; omega)
    clear hb5 E3' E4' E4 E3 E2
    go_wp2_with fail
    have a6 : Ext w5 (w5.alloc (.cells #[.int .i64 f1, .int .i64 f2] 33)) := (Below.refl _ _).alloc (Nat.le_refl _) _
    have hH := Has_set p (IsSet.st _ _ _ HSet.out (E5'.tr a6)) hnl
    rw [norm_has] at hH
    generalize hxb : anyHas l p = xb at hH
    have HXB := Lib.hid hxb
    clear hxb
    with_reducible refine hH.mono ?_
    rintro e w6 ⟨rfl, hb6⟩
    clear hH
    obtain ⟨hc6, hf6⟩ := bcell hb6
    have E6 := (Ext.tr E5 a6).tr hb6
    have hz6 : w3.heap.size < w6.heap.size ∧ w5.heap.size < w6.heap.size := (by have := hb6.size; simp at this; omega)
    clear hb6 a6 E5 E5'
    go_wp2_with fail
    have hI := in_any A c l p w6 (by have := HN.out; omega) (HS.out.below E6 E6.size)
    rw [HXB.out, show l.length = n from HN.out] at hI
    with_reducible refine hI.mono ?_
    rintro e w7 ⟨rfl, hb7⟩
    clear hI
    obtain ⟨hc7, hf7⟩ := bcell hb7
    have E7 := E6.tr hb7
    have hz7 : w3.heap.size < w7.heap.size ∧ w5.heap.size < w7.heap.size := (by have := hb7.size; omega)
    clear hb7 E6
    go_wp2
    go_ret
    exact ⟨ret_bool (by simp), E7⟩
end Go.Proofs.YtoimoalkihjcfaaDoor
