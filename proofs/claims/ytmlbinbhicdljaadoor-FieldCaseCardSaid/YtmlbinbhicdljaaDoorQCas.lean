/-
  The walk of FieldCase.
-/
import Derived.Test.YtmlbinbhicdljaaDoorEP
namespace Go.Proofs.YtmlbinbhicdljaaDoor
open Go Go.RowKit

theorem mx_setG {l : List Fd} {name value : ByteArray} (h1 : name.size ≤ szM) (h2 : value.size ≤ szM) : ∀ (p : Bool) (m : List Fd), (∀ x ∈ m, x.1.size ≤ szM ∧ x.2.size ≤ szM) → ∀ x ∈ setG name value p m, x.1.size ≤ szM ∧ x.2.size ≤ szM
  | p, [], _, x, hx => by
    cases p
    · simp [setG] at hx; subst hx; exact ⟨h1, h2⟩
    · simp [setG] at hx
  | p, f :: r, hm, x, hx => by
    have hr : ∀ x ∈ r, x.1.size ≤ szM ∧ x.2.size ≤ szM := fun x hx => hm x (List.mem_cons_of_mem _ hx)
    have i1 := mx_setG (l := l) h1 h2 true r hr x
    have i2 := mx_setG (l := l) h1 h2 p r hr x
    simp only [setG] at hx
    split at hx
    · split at hx
      · exact i1 hx
      · rcases List.mem_cons.1 hx with rfl | hx
        · exact ⟨h1, h2⟩
        · exact i1 hx
    · rcases List.mem_cons.1 hx with rfl | hx
      · exact hm _ List.mem_cons_self
      · exact i2 hx
theorem mx_set {l : List Fd} {name value : ByteArray} (h : Mx l) (h1 : name.size ≤ szM) (h2 : value.size ≤ szM) : Mx (setD l name value) := mx_setG (l := l) h1 h2 false l h

set_option maxHeartbeats 8000000 in
set_option maxRecDepth 100000 in
theorem walk_FieldCase (A : Option Addr) (n c : Nat) (l : List Fd) (name value : ByteArray) (w : World) (hmx : MxAt w) (hn : l.length = n) (hm : n ≤ maxLen) (hM : Mx l) (hs : FdAt w w.heap.size A l) (hname : name.size ≤ szM) (hvalue : value.size ≤ szM) :
    Calls Tryd.prog 10 #[.slice A n c, .string name, .string value] w fun e w' => e = .returned (.bool true) ∧ Below w.heap.size w w' := by
  have HS := Lib.hid hs
  have HL := Lib.hid hn
  have HM := Lib.hid hM
  clear hs hn hM
  cases hg : greatD l with
  | true =>
    go_enter Tryd.func10, Tryd.ntmps10
    go_wp2_with fail
    with_reducible refine (alive_any _ hmx).mono ?_
    rintro e w1 ⟨rfl, hb1⟩
    go_wp2_with (go_at_call 12; with_reducible refine (great_any A n c l _ HL.out hm HM.out (HS.out.below hb1 hb1.size)).mono ?_; rintro e w2 ⟨rfl, hb2⟩; rw [hg])
    go_ret
    exact ⟨rfl, Ext.tr hb1 hb2⟩
  | false =>
    have HN := Lib.hid (not_great hg)
    have hX := fun W => xgreat_any (some ⟨W.heap.size, 0, none⟩) 2 2 [name, value] (W.alloc (.cells #[.string name, .string value] 9)) rfl (by unfold maxLen; omega) (by intro x hx; simp at hx; rcases hx with rfl | rfl <;> assumption) (two_at W name value)
    cases hg2 : xgreatD [name, value] with
    | true =>
      rw [hg2] at hX
      go_enter Tryd.func10, Tryd.ntmps10
      go_wp2_with fail
      with_reducible refine (alive_any _ hmx).mono ?_
      rintro e w1 ⟨rfl, hb1⟩
      go_wp2_with (first
        | (go_at_call 12; with_reducible refine (great_any A n c l _ HL.out hm HM.out (HS.out.below hb1 hb1.size)).mono ?_; rintro e w2 ⟨rfl, hb2⟩; rw [hg])
        | (go_at_call 13; with_reducible refine (hX _).mono ?_; rintro e w3 ⟨rfl, rfl⟩))
      go_ret
      exact ⟨rfl, (Ext.tr hb1 hb2).alloc (Ext.tr hb1 hb2).size _⟩
    | false =>
      rw [hg2] at hX
      have hnl : n ≤ 130 := by have := HN.out; have := HL.out; omega
      have hlz : (lowS name).size ≤ szM := by rw [lowS_size]; exact hname
      have hLow := fun W => low_any name W hname
      have hG1 := fun W (h : FdAt W W.heap.size A l) => get_any A n c l name W HL.out (by omega) HM.out hname h
      have hG2 := fun W (h : FdAt W W.heap.size A l) => get_any A n c l (lowS name) W HL.out (by omega) HM.out hlz h
      rw [getD_low] at hG2
      have hS1 := fun W (h : FdAt W W.heap.size A l) => set_any A n c l (lowS name) value W HL.out (by omega) HM.out hlz hvalue h
      have hl1 : (setD l (lowS name) value).length ≤ 1000000 := by have := setG_len (lowS name) value false l; have := HL.out; unfold setD; omega
      have hMs : Mx (setD l (lowS name) value) := mx_set HM.out hlz hvalue
      have hof : ofD (setD l (lowS name) value) name = [value] := ofD_setG name value false l
      have hwo : woD (setD l (lowS name) value) name = woD l (lowS name) := woD_setG name value false l
      have hge : getD (setD l (lowS name) value) name = (value, true) := by unfold getD; rw [hof]
      have hl2 : (woD l (lowS name)).length ≤ 1000000 := by have := woD_len l (lowS name); have := HL.out; omega
      have hG3 := fun W A2 n2 c2 (h2 : (setD l (lowS name) value).length = n2) (h : FdAt W W.heap.size A2 (setD l (lowS name) value)) => get_any A2 n2 c2 (setD l (lowS name) value) name W h2 (by omega) hMs hname h
      rw [hge] at hG3
      have hO3 := fun W A2 n2 c2 (h2 : (setD l (lowS name) value).length = n2) (h : FdAt W W.heap.size A2 (setD l (lowS name) value)) => of_any A2 n2 c2 (setD l (lowS name) value) name W h2 (by omega) hMs hname h
      rw [hof] at hO3
      have hW3 := fun W A2 n2 c2 (h2 : (setD l (lowS name) value).length = n2) (h : FdAt W W.heap.size A2 (setD l (lowS name) value)) => wo_any A2 n2 c2 (setD l (lowS name) value) name W h2 (by omega) hMs hname h
      rw [hwo] at hW3
      have hW4 := fun W (h : FdAt W W.heap.size A l) => wo_any A n c l (lowS name) W HL.out (by omega) HM.out hlz h
      generalize lowS name = low at *
      generalize setD l low value = L at *
      generalize woD l low = M at *
      generalize (getD l name).1 = g at *
      generalize (getD l name).2 = gb at *
      have q1 : (g.toList == g.toList) = true := by simp
      have q2 : (gb == gb) = true := by simp
      have q3 : (value.toList == value.toList) = true := by simp
      clear hof hwo hge hMs
      go_enter Tryd.func10, Tryd.ntmps10
      go_wp2_with fail
      with_reducible refine (alive_any _ hmx).mono ?_
      rintro e w1 ⟨rfl, hb1⟩
      go_wp2_with (first
        | (go_at_call 12; with_reducible refine (great_any A n c l _ HL.out hm HM.out (HS.out.below hb1 hb1.size)).mono ?_; rintro e w2 ⟨rfl, hb2⟩; rw [hg]; have B2 := (Ext.tr hb1 hb2).alloc (Ext.tr hb1 hb2).size (.cells #[.string name, .string value] 9))
        | (go_at_call 13; with_reducible refine (hX _).mono ?_; rintro e w2' ⟨rfl, rfl⟩)
        | (go_at_call 34; with_reducible refine (hLow _).mono ?_; rintro e w3 ⟨rfl, hb3⟩; have B3 := Ext.tr B2 hb3; clear hb3 hLow)
        | (go_at_call 14; with_reducible refine (hG1 _ (HS.out.below B3 B3.size)).mono ?_; rintro e w4 ⟨rfl, hb4⟩; have B4 := Ext.tr B3 hb4; clear hb4 hG1)
        | (go_at_call 14; with_reducible refine (hG2 _ (HS.out.below B4 B4.size)).mono ?_; rintro e w5 ⟨rfl, hb5⟩; have B5 := Ext.tr B4 hb5; clear hb5 hG2)
        | (go_at_call 20; with_reducible refine (hS1 _ (HS.out.below B5 B5.size)).mono ?_; rintro e w6 ⟨v6, rfl, hown6, hb6⟩; have B6 := Ext.tr B5 hb6; obtain ⟨A2, n2, c2, hv6, HN2, hc2, hf6⟩ := (IsFd.own hown6).split; subst hv6; have HF6 := Lib.hid hf6; clear hb6 hS1 hown6 hf6)
        | (go_at_call 14; with_reducible refine (hG3 _ A2 n2 c2 HN2.out HF6.out).mono ?_; rintro e w7 ⟨rfl, hb7⟩; have B7 := Ext.tr B6 hb7; have HF7 := Lib.hid (HF6.out.below hb7 hb7.size); clear hG3 hb7)
        | (go_at_call 17; with_reducible refine (hO3 _ A2 n2 c2 HN2.out HF7.out).mono ?_; rintro e w8 ⟨v8, rfl, hown8, hb8⟩; have B8 := Ext.tr B7 hb8; have HF8 := Lib.hid (HF7.out.below hb8 hb8.size); obtain ⟨A3, n3, c3, hv8, HN3, hc3, -⟩ := (IsTx.own hown8).split; subst hv8; have hn3 : n3 = 1 := (by have := HN3.out; simpa using this.symm); subst hn3; clear hO3 hb8 hown8)
        | (go_at_call 22; with_reducible refine (hW3 _ A2 n2 c2 HN2.out HF8.out).mono ?_; rintro e w9 ⟨v9, rfl, hown9, hb9⟩; have B9 := Ext.tr B8 hb9; clear hW3)
        | (go_at_call 22; with_reducible refine (hW4 _ (HS.out.below B9 B9.size)).mono ?_; rintro e w10 ⟨v10, rfl, hown10, hb10⟩; have B10 := Ext.tr B9 hb10; have is9 := (IsFd.own hown9).below hb10; have hQ2 := rsame_is is9 (IsFd.own hown10) hl2; rw [sameF_t rfl] at hQ2)
        | (go_at_call 19; with_reducible refine hQ2.mono ?_; rintro e w11 ⟨rfl, hb11⟩))
      go_ret
      exact ⟨rfl, Ext.tr B10 hb11⟩
end Go.Proofs.YtmlbinbhicdljaaDoor
