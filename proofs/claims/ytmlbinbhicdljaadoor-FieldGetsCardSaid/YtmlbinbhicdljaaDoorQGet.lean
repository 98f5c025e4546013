/-
  The walk of FieldGets.
-/
import Derived.Test.YtmlbinbhicdljaaDoorEP
namespace Go.Proofs.YtmlbinbhicdljaaDoor
open Go Go.RowKit

set_option maxHeartbeats 8000000 in
set_option maxRecDepth 100000 in
theorem walk_FieldGets (A : Option Addr) (n c : Nat) (l : List Fd) (name : ByteArray) (w : World) (hmx : MxAt w) (hn : l.length = n) (hm : n ≤ maxLen) (hM : Mx l) (hs : FdAt w w.heap.size A l) (hname : name.size ≤ szM) :
    Calls Tryd.prog 3 #[.slice A n c, .string name] w fun e w' => e = .returned (.bool true) ∧ Below w.heap.size w w' := by
  have HS := Lib.hid hs
  have HL := Lib.hid hn
  have HM := Lib.hid hM
  clear hs hn hM
  cases hg : greatD l with
  | true =>
    go_enter Tryd.func3, Tryd.ntmps3
    go_wp2_with fail
    with_reducible refine (alive_any _ hmx).mono ?_
    rintro e w1 ⟨rfl, hb1⟩
    go_wp2_with (go_at_call 12; with_reducible refine (great_any A n c l _ HL.out hm HM.out (HS.out.below hb1 hb1.size)).mono ?_; rintro e w2 ⟨rfl, hb2⟩; rw [hg])
    go_ret
    exact ⟨rfl, Ext.tr hb1 hb2⟩
  | false =>
    have HN := Lib.hid (not_great hg)
    have hX := fun W => xgreat_any (some ⟨W.heap.size, 0, none⟩) 1 1 [name] (W.alloc (.cells #[.string name] 9)) rfl (by unfold maxLen; omega) (by intro x hx; simp at hx; subst hx; exact hname) (one_at W name)
    cases hg2 : xgreatD [name] with
    | true =>
      rw [hg2] at hX
      go_enter Tryd.func3, Tryd.ntmps3
      go_wp2_with fail
      with_reducible refine (alive_any _ hmx).mono ?_
      rintro e w1 ⟨rfl, hb1⟩
      go_wp2_with (first
        | (go_at_call 12; with_reducible refine (great_any A n c l _ HL.out hm HM.out (HS.out.below hb1 hb1.size)).mono ?_; rintro e w2 ⟨rfl, hb2⟩; rw [hg])
        | (go_at_call 13; with_reducible refine (hX _).mono ?_; rintro e w3 ⟨rfl, rfl⟩))
      go_ret
      exact ⟨rfl, (Ext.tr hb1 hb2).alloc (Ext.tr hb1 hb2).size _⟩
    | false =>
      rw [hg2] at hX
      have hnl : n ≤ 1000000 := by have := HN.out; have := HL.out; omega
      have hG := fun W (h : FdAt W W.heap.size A l) => get_any A n c l name W HL.out hnl HM.out hname h
      have hGr := fun W (h : FdAt W W.heap.size A l) => rget_any A n c l name W HL.out hnl HM.out hname h
      have hO := fun W (h : FdAt W W.heap.size A l) => of_any A n c l name W HL.out hnl HM.out hname h
      have hOr := fun W (h : FdAt W W.heap.size A l) => rof_any A n c l name W HL.out hnl HM.out hname h
      have hol : (ofD l name).length ≤ 1000000 := by have := ofD_len l name; have := HL.out; omega
      generalize (getD l name).1 = s at *
      generalize (getD l name).2 = b at *
      generalize ofD l name = L at *
      have q1 : (s.toList == s.toList) = true := by simp
      have q2 : (b == b) = true := by simp
      go_enter Tryd.func3, Tryd.ntmps3
      go_wp2_with fail
      with_reducible refine (alive_any _ hmx).mono ?_
      rintro e w1 ⟨rfl, hb1⟩
      go_wp2_with (first
        | (go_at_call 12; with_reducible refine (great_any A n c l _ HL.out hm HM.out (HS.out.below hb1 hb1.size)).mono ?_; rintro e w2 ⟨rfl, hb2⟩; rw [hg]; have B2 := (Ext.tr hb1 hb2).alloc (Ext.tr hb1 hb2).size (.cells #[.string name] 9))
        | (go_at_call 13; with_reducible refine (hX _).mono ?_; rintro e w2' ⟨rfl, rfl⟩)
        | (go_at_call 14; with_reducible refine (hG _ (HS.out.below B2 B2.size)).mono ?_; rintro e w3 ⟨rfl, hb3⟩; have B3 := Ext.tr B2 hb3)
        | (go_at_call 15; with_reducible refine (hGr _ (HS.out.below B3 B3.size)).mono ?_; rintro e w4 ⟨rfl, hb4⟩; have B4 := Ext.tr B3 hb4)
        | (go_at_call 17; with_reducible refine (hO _ (HS.out.below B4 B4.size)).mono ?_; rintro e w5 ⟨v5, rfl, hown5, hb5⟩; have B5 := Ext.tr B4 hb5)
        | (go_at_call 18; with_reducible refine (hOr _ (HS.out.below B5 B5.size)).mono ?_; rintro e w6 ⟨v6, rfl, hown6, hb6⟩; have B6 := Ext.tr B5 hb6; have is5 := (IsTx.own hown5).below hb6; have hS := rtexts_is is5 (IsTx.own hown6) hol; rw [sameX_t rfl] at hS)
        | (go_at_call 16; with_reducible refine hS.mono ?_; rintro e w7 ⟨rfl, hb7⟩))
      go_ret
      exact ⟨rfl, Ext.tr B6 hb7⟩
end Go.Proofs.YtmlbinbhicdljaaDoor
