/-
  The walk of CondNone.
-/
import Derived.Test.YtomcoacndppkcaaDoorUD
import Derived.Test.YtomcoacndppkcaaDoorVB
namespace Go.Proofs.YtomcoacndppkcaaDoor
open Go Go.RowKit
open T (Tg TgAt inD stD)

theorem cm_gone (n m : Nat) (l1 l2 : List Tg) (am an : Bool) (s u : Int) (r t : Tg) (md ln : Int) (ns : Nat) (hm : Bool) (h : (decide (0 < n) || am) = hm) :
    cmD n m l1 l2 am an s u r t md ln ns false = if hm then 4 else 1 := by
  have h' : (am || decide (0 < n)) = hm := by rw [Bool.or_comm]; exact h
  unfold cmD checkD failD
  rw [h']
  cases hm <;> simp
theorem cm_none (t : Tg) (md ln : Int) (ns : Nat) (there : Bool) : cmD 0 0 [] [] false false (-1) (-1) (⟨#[]⟩, false) t md ln ns there = 1 := by
  have hr : someR ⟨#[]⟩ false = false := rfl
  unfold cmD checkD failD sameD
  simp only [hr]
  cases there
  · simp
  · have : ¬ (0 ≤ md ∧ md ≤ -1) := by omega
    simp; omega

set_option maxHeartbeats 16000000 in
set_option maxRecDepth 100000 in
theorem walk_CondNone (hd : Bool) (ob : ByteArray) (S : Option Addr) (ns sc : Nat) (A B : Option Addr) (n c m d : Nat) (am an : Bool) (s u : Int) (rt : ByteArray) (rw : Bool) (l1 l2 : List Tg) (tt : ByteArray) (tw : Bool) (md ln hv f1 f2 f3 : Int) (K : Option Addr) (kn kc : Nat) (tn : ByteArray) (kp : Bool) (there : Bool) (w : World) (h : TwoArg w A B n m l1 l2) (hr : rt.size ≤ T.szM) (ht : tt.size ≤ T.szM) :
    Calls Tryd.prog 3 #[rqV hd ob S ns sc A B n c m d am an s u rt rw, mdV tt tw md ln hv f1 f2 f3 K kn kc tn kp, .bool there] w fun e w' => e = .returned (.bool true) ∧ Below w.heap.size w w' := by
  have HH := Lib.hid h
  clear h
  have FB0 : Below w.heap.size w ((w.alloc (.cells #[.bool hd, .string ob, .slice S ns sc, .slice A n c, .slice B m d, .bool am, .bool an, .int .i64 s, .int .i64 u, .string rt, .bool rw] 29)).alloc (.cells #[.string tt, .bool tw, .int .i64 md, .int .i64 ln, .int .i64 hv, .int .i64 f1, .int .i64 f2, .int .i64 f3, .slice K kn kc, .string tn, .bool kp] 32)) := by go_grown
  have hFW : ∀ W, Below w.heap.size w W → Calls Tryd.prog 4 #[cdV A B n c m d am an s u rt rw] W fun e w' => e = .returned (.bool (fewD l1 l2 rt.size)) ∧ Below W.heap.size W w' :=
    fun W e => few_any A B n c m d am an s u rt rw l1 l2 W (HH.out.below e) hr
  cases hf : fewD l1 l2 rt.size with
  | false =>
    rw [hf] at hFW
    clear hf
    go_enter Tryd.func3, Tryd.ntmps3
    go_wp2_with (first
      | (go_at_call 4; with_reducible refine (hFW _ FB0).mono ?_; rintro e w1 ⟨rfl, hb1⟩; obtain ⟨x0, x1, x2, x3, x4, x5, x6, x7, x8, x9, x10, y0, y1, y2, y3, y4, y5, y6, y7, y8, y9, y10, z1, z2, B1⟩ := rq_md hb1)
      | (go_at_call 5; with_reducible refine (awake_any _).mono ?_; rintro e w2 ⟨rfl, hb2⟩))
    go_ret
    exact ⟨rfl, B1.trans (hb2.mono B1.size)⟩
  | true =>
  rw [hf] at hFW
  by_cases h70 : ns > 70
  · clear hf
    go_enter Tryd.func3, Tryd.ntmps3
    go_wp2_with (first
      | (go_at_call 4; with_reducible refine (hFW _ FB0).mono ?_; rintro e w1 ⟨rfl, hb1⟩; obtain ⟨x0, x1, x2, x3, x4, x5, x6, x7, x8, x9, x10, y0, y1, y2, y3, y4, y5, y6, y7, y8, y9, y10, z1, z2, B1⟩ := rq_md hb1)
      | (go_at_call 5; with_reducible refine (awake_any _).mono ?_; rintro e w2 ⟨rfl, hb2⟩))
    go_ret
    exact ⟨rfl, B1.trans (hb2.mono B1.size)⟩
  have HT := Lib.hid (HH.out.two hf)
  clear hf
  obtain ⟨hm, HM⟩ : ∃ hm, Hid ((decide (0 < n) || am) = hm) := ⟨_, rfl⟩
  have hA : ∀ W, Below w.heap.size w W → Calls Tryd.prog 6 #[rqV hd ob S ns sc A B n c m d am an s u rt rw, mdV tt tw md ln hv f1 f2 f3 K kn kc tn kp, .bool false] W fun e w' => e = .returned (.int .i64 (if hm then 4 else 1)) ∧ Below W.heap.size W w' := fun W e => by
    have := check_any hd ob S ns sc A B n c m d am an s u rt rw tt tw md ln hv f1 f2 f3 K kn kc tn kp false l1 l2 W (HT.out.below e) (T.szM_max ht) (T.szM_max hr)
    rw [cm_gone _ _ _ _ _ _ _ _ _ _ _ _ _ hm HM.out] at this
    exact this
  have hB : ∀ W, Calls Tryd.prog 6 #[rqV hd ob S ns sc none none 0 0 0 0 false false (-1) (-1) ⟨#[]⟩ false, mdV tt tw md ln hv f1 f2 f3 K kn kc tn kp, .bool there] W fun e w' => e = .returned (.int .i64 1) ∧ Below W.heap.size W w' := fun W => by
    have := check_any hd ob S ns sc none none 0 0 0 0 false false (-1) (-1) ⟨#[]⟩ false tt tw md ln hv f1 f2 f3 K kn kc tn kp there [] [] W (two_nil W) (T.szM_max ht) (by decide)
    rw [cm_none] at this
    exact this
  clear HT HH hr ht
  go_enter Tryd.func3, Tryd.ntmps3
  go_upto_region 3 with (go_at_call 4; with_reducible refine (hFW _ FB0).mono ?_; rintro e w1 ⟨rfl, hb1⟩; obtain ⟨x0, x1, x2, x3, x4, x5, x6, x7, x8, x9, x10, y0, y1, y2, y3, y4, y5, y6, y7, y8, y9, y10, z1, z2, B1⟩ := rq_md hb1)
  go_cut [7] (fun q7 wx => q7 = .bool hm ∧ wx = w1)
  case first =>
    by_cases h0 : 0 < n
    · go_wp2_with fail
      go_meet
      exact ⟨by rw [← HM.out]; simp [h0], rfl⟩
    · cases am with
      | true =>
        go_wp2_with fail
        go_meet
        exact ⟨by rw [← HM.out]; simp, rfl⟩
      | false =>
        go_wp2_with fail
        go_meet
        exact ⟨by rw [← HM.out]; simp [h0], rfl⟩
  case rest =>
  obtain ⟨rfl, rfl⟩ := hcut
  generalize hwc : wc = w1 at *
  clear hwc HM
  have hfz1 : ∀ i, w1.frozen? ⟨w.heap.size, i, none⟩ = false := fun i => by rw [hb1.frozen (p := ⟨w.heap.size, i, none⟩) (by simp only [World.size_alloc]; omega)]; simp
  cases hm
  all_goals
    simp only [Bool.false_eq_true, if_false, if_true] at hA
    go_wp2_with (go_at_call 6; with_reducible refine (hA _ B1).mono ?_; rintro e w2 ⟨rfl, hb2⟩)
    with_reducible refine (cNone_any _).mono ?_
    rintro e w3 ⟨rfl, hb3⟩
    have e3 : Ext w1 w3 := Ext.tr hb2 hb3
    have C3 := hb1.trans (e3.mono hb1.size)
    clear x0 x1 x2 x3 x4 x5 x6 x7 x8 x9 x10 y0 y1 y2 y3 y4 y5 y6 y7 y8 y9 y10
    obtain ⟨x0, x1, x2, x3, x4, x5, x6, x7, x8, x9, x10, y0, y1, y2, y3, y4, y5, y6, y7, y8, y9, y10, k1, k2, B3⟩ := rq_md C3
    have hfz : ∀ i, w3.frozen? ⟨w.heap.size, i, none⟩ = false := fun i => by rw [e3.frozen (p := ⟨w.heap.size, i, none⟩) z1]; exact hfz1 i
    clear hb1 hb2 hb3 hfz1 C3 e3 B1 hA
    go_wp2_with fail
    with_reducible refine (hB _).mono ?_
    rintro e w4 ⟨rfl, hb4⟩
    have B4 : Ext w w4 := Ext.tr ((((((((B3.setCell (Nat.le_refl _) _).setCell (Nat.le_refl _) _).setCell (Nat.le_refl _) _).setCell (Nat.le_refl _) _).setCell (Nat.le_refl _) _).setCell (Nat.le_refl _) _).setCell (Nat.le_refl _) _).setCell (Nat.le_refl _) _) hb4
    clear x0 x1 x2 x3 x4 x5 x6 x7 x8 x9 x10 y0 y1 y2 y3 y4 y5 y6 y7 y8 y9 y10 hfz hb4 B3 hB
    go_wp2_with fail
    with_reducible refine (cNone_any _).mono ?_
    rintro e w5 ⟨rfl, hb5⟩
    go_wp2_with fail
    with_reducible refine (rightNone_any _).mono ?_
    rintro e w6 ⟨rfl, hb6⟩
    go_wp2_with fail
    with_reducible refine (awake_any _).mono ?_
    rintro e w7 ⟨rfl, hb7⟩
    go_wp2_with fail
    go_ret
    exact ⟨rfl, Ext.tr (Ext.tr (Ext.tr B4 hb5) hb6) hb7⟩
end Go.Proofs.YtomcoacndppkcaaDoor
