/-
  The example that every statement of layer 5 asks beside its own: true in every start.
-/
import Derived.Test.YtfhodolenjeheaaDoorTN
import Derived.Test.YtfhodolenjeheaaDoorTO
import Derived.Test.YtfhodolenjeheaaDoorTD
namespace Go.Proofs.YtfhodolenjeheaaDoor
open Go Go.RowKit

abbrev exA : List UInt8 := [34, 97, 44, 98, 34, 44, 44, 32, 87, 47, 34, 99, 34]
abbrev exL : List Tg := [(⟨#[97, 44, 98]⟩, false), (⟨#[99]⟩, true)]
theorem ex_list : listD exA = (exL, false, 0) := by kernel_rfl
theorem ex_star : listD [32, 42, 32] = ([], true, 0) := by kernel_rfl
theorem ex_parse : parseV [32, 34, 97, 34, 9] = .tuple #[.agg #[.string ⟨#[97]⟩, .bool false], .int .i64 0] := by kernel_rfl
theorem ex_parse2 : parseV [119, 47, 34, 97, 34] = .tuple #[.agg #[.string ⟨#[]⟩, .bool false], .int .i64 2] := by kernel_rfl
theorem ex_text : spellL (⟨#[97]⟩, true) = [87, 47, 34, 97, 34] := by kernel_rfl
abbrev exM : List Tg := [(⟨#[97]⟩, false), (⟨#[97]⟩, true)]
abbrev exN : List Tg := [(⟨#[97]⟩, true), (⟨#[97]⟩, false)]
theorem ex_texts : txtD exM false = [34, 97, 34, 44, 32, 87, 47, 34, 97, 34] := by kernel_rfl
theorem ex_weak : wkD ⟨#[97]⟩ ⟨#[97]⟩ = true := by decide +kernel
theorem ex_strong1 : stD (⟨#[97]⟩, false) (⟨#[97]⟩, true) = false := by decide +kernel
theorem ex_strong2 : stD (⟨#[97]⟩, false) (⟨#[97]⟩, false) = true := by decide +kernel
theorem ex_in : inD exN (⟨#[97]⟩, false) true = true := by decide +kernel
theorem ex_right0 : okS ⟨#[]⟩ = false := by decide +kernel
theorem ex_right1 : okS ⟨#[97]⟩ = true := by decide +kernel
theorem exM_mx : Mx exM := by intro x hx; simp [exM] at hx; rcases hx with rfl | rfl <;> decide
theorem exN_mx : Mx exN := by intro x hx; simp [exN] at hx; rcases hx with rfl | rfl <;> decide
/-- two tags in a block of their own -/
theorem two_at (W : World) (x y : ByteArray) (p q : Bool) : TgAt (W.alloc (.cells #[.string x, .bool p, .string y, .bool q] 23)) (W.alloc (.cells #[.string x, .bool p, .string y, .bool q] 23)).heap.size (some ⟨W.heap.size, 0, none⟩) [(x, p), (y, q)] := by
  intro _
  refine ⟨W.heap.size, 0, rfl, by simp, fun j hj => ?_⟩
  match j, hj with
  | 0, _ => simp
  | 1, _ => simp

set_option maxHeartbeats 8000000 in
set_option maxRecDepth 100000 in
theorem awake_any (w : World) : Calls Tryd.prog 10 #[] w fun e w' => e = .returned (.bool true) ∧ Below w.heap.size w w' := by
  have h1 := fun W => plist_any ⟨#[34, 97, 44, 98, 34, 44, 44, 32, 87, 47, 34, 99, 34]⟩ W (by decide)
  have h2 := fun W => plist_any ⟨#[32, 42, 32]⟩ W (by decide)
  have h3 := fun W => parse_any ⟨#[32, 34, 97, 34, 9]⟩ W (by decide)
  have h4 := fun W => parse_any ⟨#[119, 47, 34, 97, 34]⟩ W (by decide)
  have h5 := fun W => text_any ⟨#[97]⟩ true W (by decide)
  have h7 := fun W => weak_any ⟨#[97]⟩ ⟨#[97]⟩ false true W (by decide) (by decide)
  have h8 := fun W => strong_any ⟨#[97]⟩ ⟨#[97]⟩ false true W (by decide) (by decide)
  have h9 := fun W => strong_any ⟨#[97]⟩ ⟨#[97]⟩ false false W (by decide) (by decide)
  have h11 := fun W => right_any ⟨#[]⟩ false W (by decide)
  have h12 := fun W => right_any ⟨#[97]⟩ false W (by decide)
  simp only [ListPost] at h1 h2
  rw [ex_list] at h1
  rw [ex_star] at h2
  rw [ex_parse] at h3
  rw [ex_parse2] at h4
  rw [ex_text] at h5
  rw [ex_weak] at h7
  rw [ex_strong1] at h8
  rw [ex_strong2] at h9
  rw [ex_right0] at h11
  rw [ex_right1] at h12
  go_enter Tryd.func10, Tryd.ntmps10
  go_wp2_with fail
  with_reducible refine (h1 _).mono ?_
  rintro e w3 ⟨v, rfl, hsp, hb3⟩
  obtain ⟨A1, n1, c1, rfl, HN1, hc1, hs1⟩ := hsp.split
  obtain rfl : n1 = 2 := by have := HN1.out; simpa using this.symm
  clear hsp h1
  go_wp2_with fail
  with_reducible refine (h2 _).mono ?_
  rintro e w4 ⟨v2, rfl, -, hb4⟩
  have C4 := hb3.trans (hb4.mono hb3.size)
  have hs4 := hs1.below hb4 hb4.size
  clear hb3 hs1 h2 hb4
  go_wp2_with fail
  with_reducible refine (h3 _).mono ?_
  rintro e w5 ⟨rfl, hb5⟩
  have C5 := C4.trans (hb5.mono C4.size)
  have hs5 := hs4.below hb5 hb5.size
  clear hs4 h3 hb5 C4
  go_wp2_with fail
  with_reducible refine (h4 _).mono ?_
  rintro e w6 ⟨rfl, hb6⟩
  have e6 : Ext w5 w6 := Ext.tr ((Below.refl _ _).alloc (Nat.le_refl _) _) hb6
  have C6 := C5.trans (e6.mono C5.size)
  obtain ⟨b, o, rfl, hbb, hc⟩ := (hs5.below e6 e6.size) (by decide)
  obtain ⟨t0, -⟩ := hc 0 (by decide)
  obtain ⟨-, t1⟩ := hc 1 (by decide)
  simp only [List.getElem_cons_succ, List.getElem_cons_zero, Nat.zero_mul, Nat.add_zero, Nat.one_mul] at t0 t1
  obtain ⟨t2, t3, -, -, t4, -⟩ := one_cells hb6
  have bz' : b < w6.heap.size + 1 := by omega
  have t4' : w5.heap.size < w6.heap.size + 1 := by omega
  obtain ⟨p6, q6, r6, s6, x6, y6, E6⟩ := cells2 C6
  have x6' : w.heap.size < w6.heap.size + 1 := by omega
  have y6' : w.heap.size + 1 < w6.heap.size + 1 := by omega
  clear hs5 h4 hb6 C5 hc
  go_wp2_with fail
  with_reducible refine (h5 _).mono ?_
  rintro e w7 ⟨rfl, hb7⟩
  have C7 := C6.trans ((Ext.tr ((Below.refl _ _).alloc (Nat.le_refl _) _) hb7 : Ext w6 w7).mono C6.size)
  obtain ⟨p7, q7, r7, s7, x7, y7, E7⟩ := cells2 C7
  have x7' : w.heap.size < w7.heap.size + 1 := by omega
  have y7' : w.heap.size + 1 < w7.heap.size + 1 := by omega
  clear h5 hb7 C6
  go_wp2_with fail
  have h6 := texts_any _ 2 2 exM false _ rfl (by decide) exM_mx (two_at w7 ⟨#[97]⟩ ⟨#[97]⟩ false true)
  rw [ex_texts] at h6
  with_reducible refine h6.mono ?_
  rintro e w8 ⟨rfl, hb8⟩
  have C8 := C7.trans ((Ext.tr ((Below.refl _ _).alloc (Nat.le_refl _) _) hb8 : Ext w7 w8).mono C7.size)
  obtain ⟨p8, q8, r8, s8, x8, y8, E8⟩ := cells2 C8
  have x8' : w.heap.size < w8.heap.size + 1 := by omega
  have y8' : w.heap.size + 1 < w8.heap.size + 1 := by omega
  clear h6 hb8 C7
  go_wp2_with fail
  with_reducible refine (h7 _).mono ?_
  rintro e w9 ⟨rfl, hb9⟩
  have C9 := C8.trans (hb9.mono C8.size)
  obtain ⟨p9, q9, r9, s9, x9, y9, E9⟩ := cells2 C9
  have x9' : w.heap.size < w9.heap.size + 1 := by omega
  have y9' : w.heap.size + 1 < w9.heap.size + 1 := by omega
  clear h7 hb9 C8
  go_wp2_with fail
  with_reducible refine (h8 _).mono ?_
  rintro e w10 ⟨rfl, hb10⟩
  have C10 := C9.trans (hb10.mono C9.size)
  obtain ⟨p10, q10, r10, s10, x10, y10, E10⟩ := cells2 C10
  have x10' : w.heap.size < w10.heap.size + 1 := by omega
  have y10' : w.heap.size + 1 < w10.heap.size + 1 := by omega
  clear h8 hb10 C9
  go_wp2_with fail
  with_reducible refine (h9 _).mono ?_
  rintro e w11 ⟨rfl, hb11⟩
  have C11 := C10.trans (hb11.mono C10.size)
  obtain ⟨p11, q11, r11, s11, x11, y11, E11⟩ := cells2 C11
  have x11' : w.heap.size < w11.heap.size + 1 := by omega
  have y11' : w.heap.size + 1 < w11.heap.size + 1 := by omega
  clear h9 hb11 C10
  go_wp2_with fail
  have h10 := in_any _ 2 2 exN ⟨#[97]⟩ false true _ rfl (by decide) exN_mx (by decide) (two_at w11 ⟨#[97]⟩ ⟨#[97]⟩ true false)
  rw [ex_in] at h10
  with_reducible refine h10.mono ?_
  rintro e w12 ⟨rfl, hb12⟩
  have C12 := C11.trans ((Ext.tr ((Below.refl _ _).alloc (Nat.le_refl _) _) hb12 : Ext w11 w12).mono C11.size)
  obtain ⟨p12, q12, r12, s12, x12, y12, E12⟩ := cells2 C12
  have x12' : w.heap.size < w12.heap.size + 1 := by omega
  have y12' : w.heap.size + 1 < w12.heap.size + 1 := by omega
  clear h10 hb12 C11
  go_wp2_with fail
  with_reducible refine (h11 _).mono ?_
  rintro e w13 ⟨rfl, hb13⟩
  have C13 := C12.trans (hb13.mono C12.size)
  obtain ⟨p13, q13, r13, s13, x13, y13, E13⟩ := cells2 C13
  have x13' : w.heap.size < w13.heap.size + 1 := by omega
  have y13' : w.heap.size + 1 < w13.heap.size + 1 := by omega
  clear h11 hb13 C12
  go_wp2_with fail
  with_reducible refine (h12 _).mono ?_
  rintro e w14 ⟨rfl, hb14⟩
  have E14 := Ext.tr E13 hb14
  go_wp2_with fail
  go_ret
  exact ⟨rfl, E14⟩
end Go.Proofs.YtfhodolenjeheaaDoor
