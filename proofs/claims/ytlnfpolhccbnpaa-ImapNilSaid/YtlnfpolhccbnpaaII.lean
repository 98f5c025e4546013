/-
  The example that every statement of layer 3 asks beside its own.
-/
import Derived.Test.YtlnfpolhccbnpaaIH
namespace Go.Proofs.Ytlnfpolhccbnpaa
open Go Go.RowKit

set_option maxHeartbeats 1000000 in
theorem mk_any (x y : Int) (w : World) : Calls Try.prog 35 #[.int .i64 x, .int .i64 y] w fun e w' => e = .returned (.agg #[.int .i64 x, .int .i64 y]) ∧ Ext w w' := by
  go_enter Try.func35, Try.ntmps35
  go_wp2
  exact bodyPost_ret (v := .agg #[.int .i64 x, .int .i64 y]) (by simp [results, Try.results35, go_sem]) rfl ⟨rfl, by go_grown⟩
theorem ex1 : putI [] 3 9 1 = [(3, 9, 1)] := by decide
theorem ex2 : putI [(3, 9, 1)] 5 7 2 = [(3, 5, 1), (5, 7, 2), (7, 9, 1)] := by decide
theorem ex3 : putI [(3, 5, 1), (5, 7, 2), (7, 9, 1)] 5 7 1 = [(3, 9, 1)] := by decide
theorem ex4 : putI [(3, 9, 1)] 5 5 1 = [(3, 9, 1)] := by decide
theorem gd1 : Good 0 none [(3, 9, 1)] := by simp [Good, opnI]
theorem gd2 : Good 0 none [(3, 5, 1), (5, 7, 2), (7, 9, 1)] := by simp [Good, opnI]
/-- a put of the example -/
theorem put_ex (a b v r : Int) (l l' : List Rn) (w W : World) (A : Option Addr) (n c : Nat) (hE : Ext w W) (hm : MapAt W w.heap.size w.heap.size A n c l) (hg : Good 0 none l) (hl : l.length ≤ 10) (he : putI l a b v = l') (hr : (if 0 < lenI a b then (0 : Int) else 1) = r) :
    Calls Try.prog 30 #[.pointer (some ⟨w.heap.size, 0, none⟩), .agg #[.int .i64 a, .int .i64 b], .int .i64 v] W fun e w' => e = .returned (.int .i64 r) ∧ (∃ A' n' c', MapAt w' w.heap.size w.heap.size A' n' c' l') ∧ Ext w w' := by
  have h := put_any w.heap.size w.heap.size A n c l a b v W hm hg (by have := hm.len; omega) hE.size
  rw [he, hr] at h
  exact h.mono fun e w' ⟨h1, h2⟩ => ⟨h1, by obtain ⟨A', n', c', k1, _, _⟩ := h2; exact ⟨A', n', c', k1⟩, ext_post hE hm (Nat.le_refl _) (Nat.le_refl _) h2⟩

set_option maxHeartbeats 8000000 in
set_option maxRecDepth 100000 in
theorem alive_any (w : World) : Calls Try.prog 11 #[] w fun e w' => e = .returned (.bool true) ∧ Ext w w' := by
  go_enter Try.func11, Try.ntmps11
  go_wp2_with (go_at_call 34; refine (new_any _).mono ?_; rintro e w1 ⟨rfl, rfl⟩)
  have M1 := Lib.hid (new_map w)
  have E1 : Ext w (w.alloc (.cells #[.slice none 0 0] 73)) := (Below.refl _ _).alloc (Nat.le_refl _) _
  generalize w.alloc (.cells #[.slice none 0 0] 73) = w1 at *
  with_reducible refine (mk_any 3 9 w1).mono ?_
  rintro e w2 ⟨rfl, F2⟩
  go_wp2_with fail
  have hp := put_ex 3 9 1 0 [] _ w w2 _ _ _ (Ext.tr E1 F2) (M1.out.ext F2) trivial (by simp) ex1 (by decide)
  with_reducible refine hp.mono ?_
  rintro e w3 ⟨rfl, ⟨A3, n3, c3, hm3⟩, E3⟩
  clear hp E1 F2 M1
  have M3 := Lib.hid hm3
  clear hm3
  go_wp2_with fail
  with_reducible refine (mk_any 5 7 w3).mono ?_
  rintro e w4 ⟨rfl, F4⟩
  go_wp2_with fail
  have hp := put_ex 5 7 2 0 _ _ w w4 _ _ _ (Ext.tr E3 F4) (M3.out.ext F4) gd1 (by simp) ex2 (by decide)
  with_reducible refine hp.mono ?_
  rintro e w5 ⟨rfl, ⟨A5, n5, c5, hm5⟩, E5⟩
  clear hp E3 F4 M3
  have h3 : n5 = 3 := hm5.len.symm
  subst h3
  have M5 := Lib.hid hm5
  clear hm5
  go_wp2_with fail
  have hlen := len_map _ _ _ _ w5 (Lists.map M5.out.box.cell M5.out.box.lt)
  with_reducible refine hlen.mono ?_
  rintro e w6 ⟨rfl, rfl⟩
  clear hlen
  go_wp2_with fail
  with_reducible refine (mk_any 5 7 w6).mono ?_
  rintro e w7 ⟨rfl, F7⟩
  go_wp2_with fail
  have hp := put_ex 5 7 1 0 _ _ w w7 _ _ _ (Ext.tr E5 F7) (M5.out.ext F7) gd2 (by simp) ex3 (by decide)
  with_reducible refine hp.mono ?_
  rintro e w8 ⟨rfl, ⟨A8, n8, c8, hm8⟩, E8⟩
  clear hp E5 F7 M5
  have M8 := Lib.hid hm8
  clear hm8
  go_wp2_with fail
  with_reducible refine (mk_any 5 5 w8).mono ?_
  rintro e w9 ⟨rfl, F9⟩
  go_wp2_with fail
  have hp := put_ex 5 5 1 1 _ _ w w9 _ _ _ (Ext.tr E8 F9) (M8.out.ext F9) gd1 (by simp) ex4 (by decide)
  with_reducible refine hp.mono ?_
  rintro e w10 ⟨rfl, ⟨A10, n10, c10, hm10⟩, E10⟩
  clear hp E8 F9 M8
  have M10 := Lib.hid hm10
  have hl10 := hm10.len
  clear hm10
  have h10 : n10 = 1 := hl10.symm
  subst h10
  clear hl10
  go_wp2_with fail
  have ha := all_any _ A10 1 c10 [(3, 9, 1)] w10 (Lists.map M10.out.box.cell M10.out.box.lt) rfl (by omega) M10.out.at_
  with_reducible refine ha.mono ?_
  rintro e w11 ⟨A11, n11, c11, rfl, hl11, hr11, F11⟩
  have h11 : n11 = 1 := hl11.symm
  subst h11
  clear ha M10 hl11
  have R11 := Lib.hid hr11
  have E11 := Ext.tr E10 F11
  clear hr11 F11 E10
  go_wp2_with fail
  with_reducible refine (mk_any 3 9 w11).mono ?_
  rintro e w12 ⟨he, F12⟩
  obtain ⟨X, hX⟩ : ∃ X : Int, X = 3 := ⟨_, rfl⟩
  obtain ⟨Y, hY⟩ : ∃ Y : Int, Y = 9 := ⟨_, rfl⟩
  rw [← hX, ← hY] at he
  subst he
  have HX := Lib.hid hX; have HY := Lib.hid hY
  clear hX hY
  have R12 := Lib.hid (R11.out.ext F12)
  have E12 := Ext.tr E11 F12
  clear R11 F12 E11
  go_wp2_with fail
  have e13 : Ext w12 (w12.alloc (.cells #[.int .i64 X, .int .i64 Y, .int .i64 1] 39)) := (Below.refl _ _).alloc (Nat.le_refl _) _
  have hA : RnAt (w12.alloc (.cells #[.int .i64 X, .int .i64 Y, .int .i64 1] 39)) (w12.alloc (.cells #[.int .i64 X, .int .i64 Y, .int .i64 1] 39)).heap.size (some ⟨w12.heap.size, 0, none⟩) [(X, Y, 1)] := fun _ => ⟨w12.heap.size, 0, rfl, by simp, fun j hj => by
    have : j = 0 := by simpa using hj
    subst this
    simp⟩
  have hs := same_q A11 (some ⟨w12.heap.size, 0, none⟩) 1 c11 1 1 [(3, 9, 1)] [(X, Y, 1)] _ rfl rfl (by omega) (R12.out.ext e13) hA
  rw [show decide ([(3, 9, 1)] = ([(X, Y, 1)] : List Rn)) = true from by rw [HX.out, HY.out]; decide] at hs
  with_reducible refine hs.mono ?_
  rintro e w14 ⟨rfl, F14⟩
  clear hs hA
  have E14 := Ext.tr E12 (Ext.tr e13 F14)
  clear F14 e13
  go_wp2
  go_ret
  exact ⟨rfl, E14⟩
end Go.Proofs.Ytlnfpolhccbnpaa
