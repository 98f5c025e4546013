/-
  The walk of RangesTexts.
-/
import Derived.Test.YthbjhpfgfpkppaaGreatDoorBQ
import Derived.Test.YthbjhpfgfpkppaaGreatDoorRY
import Derived.Test.YthbjhpfgfpkppaaGreatDoorBX
import Derived.Test.YthbjhpfgfpkppaaGreatDoorNA
namespace Go.Proofs.YthbjhpfgfpkppaaGreatDoor
open Go Go.RowKit

theorem pieces_len : ∀ s, (pieces s).length ≤ s.length + 1
  | [] => by simp [pieces]
  | x :: r => by
    have ih := pieces_len r
    unfold pieces
    split
    · simp; omega
    · split
      · simp
      · rename_i h; rw [h] at ih; simp at ih ⊢; omega
theorem resS_len {s : List UInt8} {c : List Sp} (h : resS s = some c) : c.length ≤ s.length + 1 := by
  unfold resS at h
  split at h
  · injection h with h; subst h; simp
  · split at h
    · cases h
    · rename_i l hl
      split at h
      · injection h with h
        subst h
        have h1 := congrArg List.length (goS_some hl).1
        have h2 := pieces_len s
        have h3 := normL_len l
        simp at h1; omega
      · cases h

set_option maxHeartbeats 8000000 in
set_option maxRecDepth 100000 in
theorem walk_RangesTexts (A : Option Addr) (n c : Nat) (l : List Sp) (t : ByteArray) (w : World) (hL : LaidAt w) (hn : l.length = n) (hmx : n ≤ maxLen) (hs : SpAt w w.heap.size A l) (ht : t.size ≤ maxLen) :
    Calls Tryz.prog 3 #[.slice A n c, .string t] w fun e w' => e = .returned (.bool true) ∧ Below w.heap.size w w' := by
  have HS := Lib.hid hs
  have HN := Lib.hid hn
  clear hs hn
  have hmx' := hmx
  unfold maxLen at hmx' ht
  by_cases hbig : 20 < n
  · clear hL
    go_enter Tryz.func3, Tryz.ntmps3
    go_wp2_with fail
    with_reducible refine (wakes_any _).mono ?_
    rintro e w1 ⟨rfl, hb1⟩
    go_wp2_with fail
    have hg := great1 w1.heap.size n c A (w1.alloc (.cells #[.slice A n c] 22)) (by simp) hmx
    rw [show decide (20 < n) = true from by simpa using hbig] at hg
    with_reducible refine hg.mono ?_
    rintro e w2 ⟨rfl, rfl⟩
    clear hg
    go_wp2
    go_ret
    exact ⟨rfl, Ext.tr hb1 ((Below.refl _ _).alloc (Nat.le_refl _) _)⟩
  by_cases hgt : 300 < t.size
  · clear hL
    go_enter Tryz.func3, Tryz.ntmps3
    go_wp2_with fail
    with_reducible refine (wakes_any _).mono ?_
    rintro e w1 ⟨rfl, hb1⟩
    go_wp2_with fail
    have hg := great1 w1.heap.size n c A (w1.alloc (.cells #[.slice A n c] 22)) (by simp) hmx
    rw [show decide (20 < n) = false from by simpa using hbig] at hg
    with_reducible refine hg.mono ?_
    rintro e w2 ⟨rfl, rfl⟩
    clear hg
    go_wp2
    go_ret
    exact ⟨rfl, Ext.tr hb1 ((Below.refl _ _).alloc (Nat.le_refl _) _)⟩
  have hn20 : n ≤ 20 := by omega
  have hnl : (normL l).length ≤ 20 := by have := normL_len l; have := HN.out; omega
  have HCa : Hid (Canon (normL l)) := normL_canon l
  have HRb : Hid (resS (setT (normL l)) = some (normL l)) := resS_text HCa.out
  have hTl : (⟨(setT (normL l)).toArray⟩ : ByteArray).size ≤ 1000 := by
    rw [ba_size]
    have := setL_len (normL l)
    unfold setT; split
    · simp [noneT]
    · omega
  go_enter Tryz.func3, Tryz.ntmps3
  go_wp2_with fail
  with_reducible refine (wakes_any _).mono ?_
  rintro e w1 ⟨rfl, hb1⟩
  go_wp2_with fail
  have hg := great1 w1.heap.size n c A (w1.alloc (.cells #[.slice A n c] 22)) (by simp) hmx
  rw [show decide (20 < n) = false from by simpa using hbig] at hg
  with_reducible refine hg.mono ?_
  rintro e w2 ⟨rfl, rfl⟩
  clear hg
  have E1 : Ext w (w1.alloc (.cells #[.slice A n c] 22)) := Ext.tr hb1 ((Below.refl _ _).alloc (Nat.le_refl _) _)
  clear hb1
  go_wp2_with fail
  have hO := Of_set A n c l _ HN.out (by omega) (HS.out.below E1 E1.size)
  with_reducible refine hO.mono ?_
  rintro e w2 ⟨v2, rfl, hset, hb2⟩
  clear hO
  have E2 := Ext.tr E1 hb2
  obtain ⟨A2, n2, c2, rfl, HN2, hcc2, -, -⟩ := hset.split
  have a2 : Ext w2 (w2.alloc (.cells #[.slice A2 n2 c2] 26)) := (Below.refl _ _).alloc (Nat.le_refl _) _
  have b2 := Box.new w2 26 (.slice A2 n2 c2)
  have s2 := IsSet.st _ _ _ hset a2
  have E2' := Ext.tr E2 a2
  have hz2 : w2.heap.size < (w2.alloc (.cells #[.slice A2 n2 c2] 26)).heap.size := by simp
  clear hset hb2 E1 E2
  go_wp2_with fail
  have hT := Text_set s2 (hL.below E2') (by omega)
  with_reducible refine hT.mono ?_
  rintro e w3 ⟨rfl, hb3⟩
  clear hT
  have E3 := Ext.tr E2' hb3
  have b3 := b2.ext hb3
  have s3 := IsSet.st _ _ _ s2 hb3
  have z3 : w2.heap.size < w3.heap.size := Nat.lt_of_lt_of_le hz2 hb3.size
  clear b2 s2 hb3 a2 hz2 E2'
  go_wp2_with fail
  have hP := Parse_any ⟨(setT (normL l)).toArray⟩ w3 (hL.below E3) hTl
  rw [show (⟨(setT (normL l)).toArray⟩ : ByteArray).data.toList = setT (normL l) from rfl] at hP
  with_reducible refine hP.mono ?_
  rintro e w4 ⟨v4, rfl, hset4, hb4⟩
  clear hP
  rw [HRb.out] at hset4 ⊢
  rw [show resE (some (normL l)) = 0 from rfl]
  have hset4 : IsSet w4 v4 (normL l) := hset4
  obtain ⟨A4, n4, c4, rfl, HN4, hcc4, -, -⟩ := hset4.split
  have a4 : Ext w4 (w4.alloc (.cells #[.slice A4 n4 c4] 26)) := (Below.refl _ _).alloc (Nat.le_refl _) _
  have E4 := Ext.tr (Ext.tr E3 hb4) a4
  have b4 := (b3.ext hb4).ext a4
  have s4 := IsSet.st _ _ _ (IsSet.st _ _ _ s3 hb4) a4
  have d4 := Box.new w4 26 (.slice A4 n4 c4)
  have t4 := IsSet.st _ _ _ hset4 a4
  have z4 : w2.heap.size < w4.heap.size := Nat.lt_of_lt_of_le z3 hb4.size
  clear b3 s3 hb4 hset4 E3 z3 HRb
  have y4 := b4.cell
  have x4 := d4.cell
  have hz4 : w4.heap.size < (w4.alloc (.cells #[.slice A4 n4 c4] 26)).heap.size := by simp
  go_wp2_with fail
  generalize w4.alloc (.cells #[.slice A4 n4 c4] 26) = w5 at *
  have hT := Text_set s4 (hL.below E4) (by omega)
  with_reducible refine hT.mono ?_
  rintro e w6 ⟨rfl, hb6⟩
  clear hT
  have E6 := Ext.tr E4 hb6
  go_wp2_with fail
  have hR := rOf_set A n c l w6 HN.out (by omega) (HS.out.below E6 E6.size)
  with_reducible refine hR.mono ?_
  rintro e w7 ⟨v7, rfl, hsp7, hb7⟩
  clear hR
  obtain ⟨A7, n7, c7, rfl, HN7, hcc7, HS7⟩ := hsp7.split
  have E7 := Ext.tr E6 hb7
  go_wp2_with fail
  have hRT := rText_any A7 n7 c7 (normL l) w7 HN7.out (by have := HN7.out; omega) HS7
  generalize (⟨(setT (normL l)).toArray⟩ : ByteArray) = TT at *
  have u1 : (TT.toList == TT.toList) = true := by simp
  have u2 : (TT.toList != TT.toList) = false := by simp
  with_reducible refine hRT.mono ?_
  rintro e w8 ⟨rfl, hb8⟩
  clear hRT
  have e68 : Ext w5 w8 := Ext.tr (Ext.tr hb6 hb7) hb8
  have E8 := Ext.tr E7 hb8
  have b8 := b4.ext e68
  have d8 := d4.ext e68
  have s8 := IsSet.st _ _ _ s4 e68
  have t8 := IsSet.st _ _ _ t4 e68
  have y8 := b8.cell
  have x8 := d8.cell
  have z8 : w2.heap.size < w8.heap.size ∧ w4.heap.size < w8.heap.size := ⟨b8.lt, d8.lt⟩
  obtain ⟨z8a, z8b⟩ := z8
  clear hb6 hb7 hb8 e68 E4 E6 E7 b4 d4 s4 t4 y4 x4 b8 d8 HS7 HN7 hsp7 hz4
  go_wp2_with fail
  have hSm := Same_set t8 s8 (by omega)
  rw [show decide (normL l = normL l) = true by simp] at hSm
  with_reducible refine hSm.mono ?_
  rintro e w9 ⟨rfl, hb9⟩
  clear hSm
  have E9 := Ext.tr E8 hb9
  clear hb9 E8 s8 t8 y8 x8 z8a z8b u1 u2
  go_wp2_with fail
  have hP := Parse_any t w9 (hL.below E9) (by omega)
  with_reducible refine hP.mono ?_
  rintro e w10 ⟨v10, rfl, hset10, hb10⟩
  clear hP
  obtain ⟨A10, n10, c10, rfl, HN10, hcc10, -, -⟩ := hset10.split
  have a10 : Ext w10 (w10.alloc (.cells #[.slice A10 n10 c10] 26)) := (Below.refl _ _).alloc (Nat.le_refl _) _
  have E10 := Ext.tr (Ext.tr E9 hb10) a10
  have d10 := Box.new w10 26 (.slice A10 n10 c10)
  have t10 := IsSet.st _ _ _ hset10 a10
  clear hb10 hset10 E9
  go_wp2_with fail
  have hP := rParse_any t (w10.alloc (.cells #[.slice A10 n10 c10] 26)) (by omega)
  with_reducible refine hP.mono ?_
  rintro e w12 ⟨v12, rfl, hsp12, hb12⟩
  clear hP
  have E12 := Ext.tr E10 hb12
  have d12 := d10.ext hb12
  have t12 := IsSet.st _ _ _ t10 hb12
  have x12 := d12.cell
  have z12 := d12.lt
  clear hb12 E10 d10 t10 a10
  have hlen : (resC (resS t.data.toList)).length ≤ 400 := by
    cases hr : resS t.data.toList with
    | none => simp [resC]
    | some o => have := resS_len hr; rw [size_toList] at this; show o.length ≤ 400; omega
  cases hr : resS t.data.toList with
  | none =>
    rw [hr] at t12 hsp12 hlen
    rw [show resE none = 2 from rfl]
    clear hr
    generalize resC none = O at *
    go_wp2_with fail
    have hSp := Spans_set t12 (by omega)
    with_reducible refine hSp.mono ?_
    rintro e w13 ⟨v13, rfl, hsp13, hb13⟩
    clear hSp
    have E13 := Ext.tr E12 hb13
    have hsp12' := hsp12.below hb13
    have hLi := list_sp hsp13 hsp12' (by omega)
    rw [show decide (O = O) = true by simp] at hLi
    clear hb13
    go_wp2_with fail
    with_reducible refine hLi.mono ?_
    rintro e w14 ⟨rfl, hb14⟩
    clear hLi
    go_wp2
    go_ret
    exact ⟨rfl, Ext.tr E13 hb14⟩
  | some o =>
    have hback := (resS_back hr).2
    rw [hr] at t12 hsp12 hlen
    rw [show resE (some o) = 0 from rfl]
    rw [show resC (some o) = o from rfl] at t12 hsp12 hlen
    have HBk : Hid ((⟨(setT o).toArray⟩ : ByteArray) = t) := Lib.hid (by rw [hback])
    have u1 : (t.toList == t.toList) = true := by simp
    clear hr hback
    go_wp2_with fail
    have hSp := Spans_set t12 (by omega)
    with_reducible refine hSp.mono ?_
    rintro e w13 ⟨v13, rfl, hsp13, hb13⟩
    clear hSp
    have E13 := Ext.tr E12 hb13
    have hsp12' := hsp12.below hb13
    have d13 := d12.ext hb13
    have t13 := IsSet.st _ _ _ t12 hb13
    have hLi := list_sp hsp13 hsp12' (by omega)
    rw [show decide (o = o) = true by simp] at hLi
    clear hb13
    go_wp2_with fail
    with_reducible refine hLi.mono ?_
    rintro e w14 ⟨rfl, hb14⟩
    clear hLi
    have E14 := Ext.tr E13 hb14
    have d14 := d13.ext hb14
    have t14 := IsSet.st _ _ _ t13 hb14
    have x14 := d14.cell
    have z14 := d14.lt
    clear hb14 hsp13 hsp12 hsp12'
    go_wp2_with fail
    have hT := Text_set t14 (hL.below E14) (by omega)
    rw [HBk.out] at hT
    with_reducible refine hT.mono ?_
    rintro e w15 ⟨rfl, hb15⟩
    clear hT
    go_wp2
    go_ret
    exact ⟨rfl, Ext.tr E14 hb15⟩
end Go.Proofs.YthbjhpfgfpkppaaGreatDoor
