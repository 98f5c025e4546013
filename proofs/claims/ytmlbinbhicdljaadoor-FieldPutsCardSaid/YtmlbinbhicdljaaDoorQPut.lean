/-
  The walk of FieldPuts.
-/
import Derived.Test.YtmlbinbhicdljaaDoorEP
import Derived.Test.YtmlbinbhicdljaaDoorEFR
namespace Go.Proofs.YtmlbinbhicdljaaDoor
open Go Go.RowKit

set_option maxHeartbeats 8000000 in
set_option maxRecDepth 100000 in
theorem walk_FieldPuts (A : Option Addr) (n c : Nat) (l : List Fd) (w : World) (hmx : MxAt w) (hn : l.length = n) (hm : n ≤ maxLen) (hM : Mx l) (hs : FdAt w w.heap.size A l) :
    Calls Tryd.prog 7 #[.slice A n c] w fun e w' => e = .returned (.bool true) ∧ Below w.heap.size w w' := by
  have HS := Lib.hid hs
  have HL := Lib.hid hn
  have HM := Lib.hid hM
  clear hs hn hM
  cases hg : greatD l with
  | true =>
    go_enter Tryd.func7, Tryd.ntmps7
    go_wp2_with fail
    with_reducible refine (alive_any _ hmx).mono ?_
    rintro e w1 ⟨rfl, hb1⟩
    go_wp2_with (go_at_call 12; with_reducible refine (great_any A n c l _ HL.out hm HM.out (HS.out.below hb1 hb1.size)).mono ?_; rintro e w2 ⟨rfl, hb2⟩; rw [hg])
    go_ret
    exact ⟨rfl, Ext.tr hb1 hb2⟩
  | false =>
    have HN := Lib.hid (not_great hg)
    have hP := fun W (h : FdAt W W.heap.size A l) => put_any A n c l W HL.out (by have := HN.out; have := HL.out; omega) HN.out.2 h
    have hR := fun W (h : FdAt W W.heap.size A l) => rput_any A n c l W HL.out (by have := HN.out; have := HL.out; omega) HN.out.2 h
    unfold putV at hP hR
    generalize (putD l).1 = s at *
    generalize (putD l).2 = E at *
    have q1 : (s.toList == s.toList) = true := by simp
    have q2 : (E == E) = true := by simp
    go_enter Tryd.func7, Tryd.ntmps7
    go_wp2_with fail
    with_reducible refine (alive_any _ hmx).mono ?_
    rintro e w1 ⟨rfl, hb1⟩
    go_wp2_with (first
      | (go_at_call 12; with_reducible refine (great_any A n c l _ HL.out hm HM.out (HS.out.below hb1 hb1.size)).mono ?_; rintro e w2 ⟨rfl, hb2⟩; rw [hg]; have B2 := Ext.tr hb1 hb2)
      | (go_at_call 30; with_reducible refine (hP _ (HS.out.below B2 B2.size)).mono ?_; rintro e w3 ⟨rfl, hb3⟩; have B3 := Ext.tr B2 hb3)
      | (go_at_call 31; with_reducible refine (hR _ (HS.out.below B3 B3.size)).mono ?_; rintro e w4 ⟨rfl, hb4⟩; have B4 := Ext.tr B3 hb4))
    go_ret
    exact ⟨rfl, B4⟩
end Go.Proofs.YtmlbinbhicdljaaDoor
