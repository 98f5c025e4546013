/-
  The conditions of fields, by the reference: a name's tags, a name's date.
-/
import Derived.Test.YtomcoacndppkcaaGreatDoorWE
namespace Go.Proofs.YtomcoacndppkcaaGreatDoor
open Go Go.RowKit
open T (Tg TgAt IsTg)
open F (FdAt OwnX IsTx TxAt)

set_option maxHeartbeats 4000000 in
set_option maxRecDepth 20000 in
theorem rlist8_any (A : Option Addr) (n c : Nat) (l : List F.Fd) (name : ByteArray) (w : World) (h : FdIn w A n l) (hname : name.size ≤ F.szM) :
    Calls Tryz.prog 22 #[.slice A n c, .string name] w fun e w' => ∃ v, e = .returned (.tuple #[v, .bool (tgD (F.ofD l name)).2.1, .int .i64 (tgD (F.ofD l name)).2.2]) ∧ IsTg w' v (tgD (F.ofD l name)).1 ∧ Below w.heap.size w w' := by
  have hO := fun W (e : Below w.heap.size w W) => joined_any A n c l name W (h.below e) hname
  have hJ := joinL_of h name
  clear h hname
  generalize F.ofD l name = vs at *
  by_cases hv : vs = []
  · have HF : Hid (tgD vs = ([], false, 0)) := by unfold Hid; rw [hv]; rfl
    rw [show decide (vs ≠ []) = false by simp [hv]] at hO
    clear hv hJ
    go_enter Tryz.func22, Tryz.ntmps22
    go_wp2_with fail
    with_reducible refine (hO _ (Below.refl _ _)).mono ?_
    rintro e w1 ⟨rfl, hb1⟩
    go_wp2_with fail
    go_ret3
    exact ⟨_, by rw [HF.out]; rfl, by rw [HF.out]; exact IsTg.nil _, hb1⟩
  · rw [show decide (vs ≠ []) = true by simp [hv]] at hO
    have hT : ∀ W, Calls Tryz.prog 54 #[.string ⟨(joinL vs).toArray⟩] W fun e w' => T.ListPost (joinL vs) W w' e := fun W => T.rlist_any _ W (by rw [T.ba_size]; omega)
    have HB := Lib.hid (fun h => tgD_big hv h)
    have HE := Lib.hid (fun h => tgD_else hv h)
    have HZ := Lib.hid (fun h => tgD_bad hv h)
    have hE := listD_err (joinL vs)
    clear hv hJ
    unfold T.ListPost at hT
    generalize hX : T.listD (joinL vs) = X at *
    clear hX
    obtain ⟨tl, an, er⟩ := X
    simp only at hT HB HE HZ hE
    by_cases he : er = 0
    · subst he
      clear HZ hE
      go_enter Tryz.func22, Tryz.ntmps22
      go_wp2_with fail
      with_reducible refine (hO _ (Below.refl _ _)).mono ?_
      rintro e w1 ⟨rfl, hb1⟩
      go_wp2_with fail
      with_reducible refine (hT _).mono ?_
      rintro e w2 ⟨v2, rfl, hi2, hb2⟩
      obtain ⟨A3, n3, c3, rfl, HN3, hc3, hs3⟩ := hi2.split
      by_cases h32 : n3 ≤ 32
      · have HF : Hid (tgD vs = (tl, an, 0)) := HE.out (by have := HN3.out; omega)
        clear HB HE
        go_wp2_with fail
        go_ret3
        exact ⟨_, by rw [HF.out]; rfl, by rw [HF.out]; exact IsTg.mk' HN3.out hc3 hs3, Ext.tr hb1 hb2⟩
      · have HF : Hid (tgD vs = ([], false, 4)) := HB.out (by have := HN3.out; omega)
        clear HB HE
        go_wp2_with fail
        go_ret3
        exact ⟨_, by rw [HF.out]; rfl, by rw [HF.out]; exact IsTg.nil _, Ext.tr hb1 hb2⟩
    · have HF : Hid (tgD vs = ([], false, er)) := HZ.out he
      have heb : (er != 0) = true := by simpa using he
      have hee : er = 2 ∨ er = 4 := by rcases hE with h | h | h <;> simp_all
      clear HB HE HZ hE
      rcases hee with rfl | rfl
      all_goals
        go_enter Tryz.func22, Tryz.ntmps22
        go_wp2_with fail
        with_reducible refine (hO _ (Below.refl _ _)).mono ?_
        rintro e w1 ⟨rfl, hb1⟩
        go_wp2_with fail
        with_reducible refine (hT _).mono ?_
        rintro e w2 ⟨v2, rfl, hi2, hb2⟩
        go_wp2_with fail
        go_ret3
        exact ⟨_, by rw [HF.out]; rfl, by rw [HF.out]; exact IsTg.nil _, Ext.tr hb1 hb2⟩

set_option maxHeartbeats 4000000 in
theorem rdate8_any (A : Option Addr) (n c : Nat) (l : List F.Fd) (name : ByteArray) (w : World) (h : FdIn w A n l) (hname : name.size ≤ F.szM) :
    Calls Tryz.prog 23 #[.slice A n c, .string name] w fun e w' => e = .returned (.int .i64 (tkD (F.ofD l name))) ∧ Below w.heap.size w w' := by
  have hO := fun W (e : Below w.heap.size w W) => F.rof_any A n c l name W h.n1 (by have := h.m1; omega) h.mx hname (h.below e).s1
  clear h hname
  generalize F.ofD l name = vs at *
  go_enter Tryz.func23, Tryz.ntmps23
  go_wp2_with fail
  with_reducible refine (hO _ (Below.refl _ _)).mono ?_
  rintro e w1 ⟨v1, rfl, ho1, hb1⟩
  clear hO
  obtain ⟨A1, n1, c1, rfl, HN1, hc1, hs1⟩ := (IsTx.own ho1).split
  clear ho1
  cases vs with
  | nil =>
    obtain rfl : n1 = 0 := by have := HN1.out; simpa using this.symm
    have HF : Hid (tkD [] = -1) := rfl
    clear hs1
    go_wp2_with fail
    go_ret
    exact ⟨ret_i HF.out.symm, hb1⟩
  | cons x r =>
    have hp : 0 < n1 := by have := HN1.out; simp at this; omega
    have hp0 : ((n1 : Int) == 0) = false := by simp; omega
    obtain ⟨b, o, rfl, hb, hc⟩ := hs1 (by simp)
    have c0 : w1.cell? ⟨b, o, none⟩ = some (.string x) := by have := hc 0 (by simp); rw [Nat.add_zero] at this; exact this
    clear hc HN1
    have HF : Hid (tkD (x :: r) = if D.parE x = 0 then D.parV x else -1) := rfl
    have hP := fun W => D.rparse_any x W
    by_cases he : D.parE x = 0
    · have HT : Hid (tkD (x :: r) = D.parV x) := by unfold Hid; rw [HF.out, if_pos he]
      rw [he] at hP
      clear HF he
      generalize D.parV x = v at *
      go_wp2_with fail
      with_reducible refine (hP _).mono ?_
      rintro e w2 ⟨rfl, hb2⟩
      go_wp2_with fail
      go_ret
      exact ⟨ret_i HT.out.symm, Ext.tr hb1 hb2⟩
    · have HT : Hid (tkD (x :: r) = -1) := by unfold Hid; rw [HF.out, if_neg he]
      have heb : (D.parE x != 0) = true := by simpa using he
      clear HF
      generalize D.parV x = v at *
      generalize D.parE x = f at *
      go_wp2_with fail
      with_reducible refine (hP _).mono ?_
      rintro e w2 ⟨rfl, hb2⟩
      go_wp2_with fail
      go_ret
      exact ⟨ret_i HT.out.symm, Ext.tr hb1 hb2⟩
end Go.Proofs.YtomcoacndppkcaaGreatDoor
