/-
  The walk of FieldSets.
-/
import Derived.Test.YtmlbinbhicdljaaDoorEP
namespace Go.Proofs.YtmlbinbhicdljaaDoor
open Go Go.RowKit

set_option maxHeartbeats 8000000 in
set_option maxRecDepth 100000 in
theorem walk_FieldSets (A : Option Addr) (n c : Nat) (l : List Fd) (name value : ByteArray) (w : World) (hmx : MxAt w) (hn : l.length = n) (hm : n ≤ maxLen) (hM : Mx l) (hs : FdAt w w.heap.size A l) (hname : name.size ≤ szM) (hvalue : value.size ≤ szM) :
    Calls Tryd.prog 4 #[.slice A n c, .string name, .string value] w fun e w' => e = .returned (.bool true) ∧ Below w.heap.size w w' := by
  have HS := Lib.hid hs
  have HL := Lib.hid hn
  have HM := Lib.hid hM
  clear hs hn hM
  cases hg : greatD l with
  | true =>
    go_enter Tryd.func4, Tryd.ntmps4
    go_wp2_with fail
    with_reducible refine (alive_any _ hmx).mono ?_
    rintro e w1 ⟨rfl, hb1⟩
    go_wp2_with (go_at_call 12; with_reducible refine (great_any A n c l _ HL.out hm HM.out (HS.out.below hb1 hb1.size)).mono ?_; rintro e w2 ⟨rfl, hb2⟩; rw [hg])
    go_ret
    exact ⟨rfl, Ext.tr hb1 hb2⟩
  | false =>
    have HN := Lib.hid (not_great hg)
    have hX := fun W => xgreat_any (some ⟨W.heap.size, 0, none⟩) 2 2 [name, value] (W.alloc (.cells #[.string name, .string value] 9)) rfl (by unfold maxLen; omega) (by intro x hx; simp at hx; rcases hx with rfl | rfl <;> assumption) (two_at W name value)
    cases hg2 : xgreatD [name, value] with
    | true =>
      rw [hg2] at hX
      go_enter Tryd.func4, Tryd.ntmps4
      go_wp2_with fail
      with_reducible refine (alive_any _ hmx).mono ?_
      rintro e w1 ⟨rfl, hb1⟩
      go_wp2_with (first
        | (go_at_call 12; with_reducible refine (great_any A n c l _ HL.out hm HM.out (HS.out.below hb1 hb1.size)).mono ?_; rintro e w2 ⟨rfl, hb2⟩; rw [hg])
        | (go_at_call 13; with_reducible refine (hX _).mono ?_; rintro e w3 ⟨rfl, rfl⟩))
      go_ret
      exact ⟨rfl, (Ext.tr hb1 hb2).alloc (Ext.tr hb1 hb2).size _⟩
    | false =>
      rw [hg2] at hX
      have hnl : n ≤ 130 := by have := HN.out; have := HL.out; omega
      have hS1 := fun W (h : FdAt W W.heap.size A l) => set_any A n c l name value W HL.out (by omega) HM.out hname hvalue h
      have hS2 := fun W (h : FdAt W W.heap.size A l) => rset_any A n c l name value W HL.out (by omega) HM.out hname hvalue h
      have hW1 := fun W (h : FdAt W W.heap.size A l) => wo_any A n c l name W HL.out (by omega) HM.out hname h
      have hW2 := fun W (h : FdAt W W.heap.size A l) => rwo_any A n c l name W HL.out (by omega) HM.out hname h
      have hl1 : (setD l name value).length ≤ 1000000 := by have := setG_len name value false l; have := HL.out; unfold setD; omega
      have hl2 : (woD l name).length ≤ 1000000 := by have := woD_len l name; have := HL.out; omega
      generalize setD l name value = L at *
      generalize woD l name = M at *
      go_enter Tryd.func4, Tryd.ntmps4
      go_wp2_with fail
      with_reducible refine (alive_any _ hmx).mono ?_
      rintro e w1 ⟨rfl, hb1⟩
      go_wp2_with (first
        | (go_at_call 12; with_reducible refine (great_any A n c l _ HL.out hm HM.out (HS.out.below hb1 hb1.size)).mono ?_; rintro e w2 ⟨rfl, hb2⟩; rw [hg]; have B2 := (Ext.tr hb1 hb2).alloc (Ext.tr hb1 hb2).size (.cells #[.string name, .string value] 9))
        | (go_at_call 13; with_reducible refine (hX _).mono ?_; rintro e w2' ⟨rfl, rfl⟩)
        | (go_at_call 20; with_reducible refine (hS1 _ (HS.out.below B2 B2.size)).mono ?_; rintro e w3 ⟨v3, rfl, hown3, hb3⟩; have B3 := Ext.tr B2 hb3)
        | (go_at_call 21; with_reducible refine (hS2 _ (HS.out.below B3 B3.size)).mono ?_; rintro e w4 ⟨v4, rfl, hown4, hb4⟩; have B4 := Ext.tr B3 hb4; have is3 := (IsFd.own hown3).below hb4; have hQ := rsame_is is3 (IsFd.own hown4) hl1; rw [sameF_t rfl] at hQ)
        | (go_at_call 19; with_reducible refine hQ.mono ?_; rintro e w5 ⟨rfl, hb5⟩; have B5 := Ext.tr B4 hb5)
        | (go_at_call 22; with_reducible refine (hW1 _ (HS.out.below B5 B5.size)).mono ?_; rintro e w6 ⟨v6, rfl, hown6, hb6⟩; have B6 := Ext.tr B5 hb6)
        | (go_at_call 23; with_reducible refine (hW2 _ (HS.out.below B6 B6.size)).mono ?_; rintro e w7 ⟨v7, rfl, hown7, hb7⟩; have B7 := Ext.tr B6 hb7; have is6 := (IsFd.own hown6).below hb7; have hQ2 := rsame_is is6 (IsFd.own hown7) hl2; rw [sameF_t rfl] at hQ2)
        | (go_at_call 19; with_reducible refine hQ2.mono ?_; rintro e w8 ⟨rfl, hb8⟩))
      go_ret
      exact ⟨rfl, Ext.tr B7 hb8⟩
end Go.Proofs.YtmlbinbhicdljaaDoor
