/-
  A set's spans as a copy; the first span from a byte on, whether a byte is in it; the reference's Of and First.
-/
import Derived.Test.YthbjhpfgfpkppaaGreatDoorRE
import Derived.Test.YthbjhpfgfpkppaaGreatDoorRG
namespace Go.Proofs.YthbjhpfgfpkppaaGreatDoor
open Go Go.RowKit
open Go.Sort (grow)

/- how many are still false -/
theorem cnt_spec (p : Nat → Bool) : ∀ n, (∀ a b, a ≤ b → b < n → p a = true → p b = true) →
    (List.range n).countP (fun i => !p i) ≤ n ∧ (∀ j, j < (List.range n).countP (fun i => !p i) → p j = false) ∧ (∀ j, (List.range n).countP (fun i => !p i) ≤ j → j < n → p j = true)
  | 0, _ => ⟨by simp, fun j h => by simp at h, fun j _ h => by omega⟩
  | n + 1, h => by
    obtain ⟨h1, h2, h3⟩ := cnt_spec p n (fun a b hab hb => h a b hab (by omega))
    rw [List.range_succ, List.countP_append]
    cases hp : p n with
    | true =>
      simp only [List.countP_cons, List.countP_nil, hp]
      refine ⟨by simp; omega, fun j hj => h2 j (by simpa using hj), fun j hj hn => ?_⟩
      by_cases e : j = n
      · subst e; exact hp
      · exact h3 j (by simpa using hj) (by omega)
    | false =>
      have all : ∀ j, j < n → p j = false := fun j hj => by
        cases hj' : p j with
        | false => rfl
        | true => rw [h j n (by omega) (by omega) hj'] at hp; cases hp
      have e : (List.range n).countP (fun i => !p i) = n := by
        refine Nat.le_antisymm h1 (Nat.le_of_not_lt fun hlt => ?_)
        have := h3 _ (Nat.le_refl _) hlt
        rw [all _ hlt] at this; cases this
      simp only [List.countP_cons, List.countP_nil, hp, e]
      refine ⟨by simp, fun j hj => ?_, fun j hj hn => ?_⟩
      · simp at hj
        by_cases e' : j = n
        · subst e'; exact hp
        · exact all j (by omega)
      · simp at hj; omega

def toOf (l : List Sp) (i : Nat) : Int := (l.getD i (0, 0)).2
theorem toOf_get {l : List Sp} {i : Nat} (h : i < l.length) : toOf l i = l[i].2 := by unfold toOf; rw [List.getD_eq_getElem?_getD, List.getElem?_eq_getElem h]; rfl
theorem Canon.rise {l : List Sp} (h : Canon l) {i j : Nat} (hij : i < j) (hj : j < l.length) : l[i].2 < l[j].1 := by
  have := List.pairwise_iff_getElem.1 h.2 i j (by omega) hj hij; omega
theorem Canon.at_ {l : List Sp} (h : Canon l) {i : Nat} (hi : i < l.length) : 0 ≤ l[i].1 ∧ l[i].1 < l[i].2 ∧ l[i].2 ≤ 4611686018427387904 := h.1 _ (List.getElem_mem hi)

set_option maxHeartbeats 4000000 in
theorem after_clo (b2 b3 n c i : Nat) (A : Option Addr) (l : List Sp) (p : Int) (W : World) (hn : l.length = n) (hi : i < n) (hbig : n ≤ 1000000) (hs : SpAt W W.heap.size A l) (h2 : W.cell? ⟨b2, 0, none⟩ = some (.slice A n c)) (h3 : W.cell? ⟨b3, 0, none⟩ = some (.int .i64 p)) :
    Calls Tryz.prog 51 #[.int .i64 i, .pointer (some ⟨b2, 0, none⟩), .pointer (some ⟨b3, 0, none⟩)] W fun e w' => e = .returned (.bool (decide (p < toOf l i))) ∧ ∃ q os', w' = grow (W.drewN q) os' := by
  have hil : i < l.length := by omega
  obtain ⟨b, o, rfl, hb, hc⟩ := hs (by omega)
  obtain ⟨-, c1⟩ := hc i hil
  clear hc hs
  have HT := Lib.hid (toOf_get hil)
  generalize l[i].2 = t at *
  have HN := Lib.hid hn
  clear hn
  have q1 : (i : Int) < (n : Int) := by omega
  by_cases h : p < t
  · have HF : Hid (decide (p < toOf l i) = true) := by unfold Hid; rw [HT.out]; simpa using h
    clear HT
    go_enter Tryz.func51, Tryz.ntmps51
    go_wp2
    go_quiet (fail)
    go_wp2
    go_ret
    exact ⟨ret_bool HF.out.symm, nq, #[], by rw [Go.Sort.grow_empty]⟩
  · have HF : Hid (decide (p < toOf l i) = false) := by unfold Hid; rw [HT.out]; simpa using h
    have hd : decide (p < t) = false := by simpa using h
    clear HT
    go_enter Tryz.func51, Tryz.ntmps51
    go_wp2
    go_quiet (fail)
    go_wp2
    go_ret
    exact ⟨ret_bool HF.out.symm, nq, #[], by rw [Go.Sort.grow_empty]⟩

/-- the place of the first span that has a byte from p on -/
def AfterPost (l : List Sp) (p : Int) (w w' : World) (e : Ending) : Prop :=
  ∃ i : Nat, e = .returned (.int .i64 i) ∧ i ≤ l.length ∧ (∀ j (h : j < l.length), j < i → l[j].2 ≤ p) ∧ (∀ j (h : j < l.length), i ≤ j → p < l[j].2) ∧ Below w.heap.size w w'

set_option maxHeartbeats 4000000 in
theorem after_any (A : Option Addr) (n c : Nat) (l : List Sp) (p : Int) (w : World) (hn : l.length = n) (hbig : n ≤ 1000000) (hca : Canon l) (hs : SpAt w w.heap.size A l) :
    Calls Tryz.prog 30 #[.agg #[.slice A n c], .int .i64 p] w fun e w' => AfterPost l p w w' e := by
  have e1 : Ext w ((w.alloc (.cells #[.slice A n c] 26)).alloc (.cells #[.int .i64 p] 2)) := ((Below.refl _ _).alloc (Nat.le_refl _) _).alloc (by simp) _
  have k2 : ((w.alloc (.cells #[.slice A n c] 26)).alloc (.cells #[.int .i64 p] 2)).cell? ⟨w.heap.size, 0, none⟩ = some (.slice A n c) := by simp
  have k3 : ((w.alloc (.cells #[.slice A n c] 26)).alloc (.cells #[.int .i64 p] 2)).cell? ⟨w.heap.size + 1, 0, none⟩ = some (.int .i64 p) := by simp
  have ks : w.heap.size + 1 < ((w.alloc (.cells #[.slice A n c] 26)).alloc (.cells #[.int .i64 p] 2)).heap.size := by simp
  have eg : ∀ args w, (callFunc 51 args).run Tryz.prog w = .ok (.enter 51 args) w := enters_of Tryz.func51 (by kernel_rfl) rfl
  have hcon : Calls Tryz.prog 50 #[.int .i64 n, .func (.func 51) #[] #[.pointer (some ⟨w.heap.size, 0, none⟩), .pointer (some ⟨w.heap.size + 1, 0, none⟩)]] ((w.alloc (.cells #[.slice A n c] 26)).alloc (.cells #[.int .i64 p] 2)) fun e w' => AfterPost l p w w' e := by
    generalize (w.alloc (.cells #[.slice A n c] 26)).alloc (.cells #[.int .i64 p] 2) = W at *
    have mono : ∀ a b, a ≤ b → b < n → decide (p < toOf l a) = true → decide (p < toOf l b) = true := fun a b hab hb h => by
      have ha : a < l.length := by omega
      have hb' : b < l.length := by omega
      rw [toOf_get ha] at h; rw [toOf_get hb']
      simp only [decide_eq_true_eq] at h ⊢
      rcases Nat.lt_or_ge a b with hlt | hge
      · have := hca.rise hlt hb'; have := hca.at_ hb'; omega
      · have : a = b := by omega
        subst this; exact h
    have h := Any.sort_Search Tryz.searchA 51 #[.pointer (some ⟨w.heap.size, 0, none⟩), .pointer (some ⟨w.heap.size + 1, 0, none⟩)] n (fun i => decide (p < toOf l i)) W eg (by omega) (fun m os i hi => by
        have eW : Ext W (grow (W.drewN m) os) := below_grown_sl _ W m os (Nat.le_refl _)
        exact after_clo w.heap.size (w.heap.size + 1) n c i A l p _ hn hi hbig (hs.below (e1.tr eW) (e1.tr eW).size) (by rw [eW.cell (p := ⟨w.heap.size, 0, none⟩) (by show w.heap.size < _; omega)]; exact k2) (by rw [eW.cell (p := ⟨w.heap.size + 1, 0, none⟩) ks]; exact k3)) mono
    change Calls Tryz.prog 50 _ _ _ at h
    refine h.mono fun e w' ⟨he, q, os, hw⟩ => ?_
    obtain ⟨s1, s2, s3⟩ := cnt_spec (fun i => decide (p < toOf l i)) n mono
    refine ⟨_, he, by omega, fun j hj hlt => ?_, fun j hj hge => ?_, ?_⟩
    · have := s2 j hlt
      simp only [decide_eq_false_iff_not] at this
      rw [toOf_get hj] at this; omega
    · have := s3 j hge (by omega)
      simp only [decide_eq_true_eq] at this
      rwa [toOf_get hj] at this
    · subst hw; exact e1.tr (below_grown_sl _ W q os (Nat.le_refl _))
  clear e1 k2 k3 ks hs
  have HC := Lib.hid hcon
  clear hcon
  go_enter Tryz.func30, Tryz.ntmps30
  go_wp2_with (go_at_call 50; refine (Hid.out HC).mono ?_; rintro e w' ⟨i, rfl, h1, h2, h3, h4⟩; have H2 := Lib.hid h2; have H3 := Lib.hid h3; clear h2 h3)
  go_ret
  exact ⟨i, rfl, h1, H2.out, H3.out, h4⟩
end Go.Proofs.YthbjhpfgfpkppaaGreatDoor
