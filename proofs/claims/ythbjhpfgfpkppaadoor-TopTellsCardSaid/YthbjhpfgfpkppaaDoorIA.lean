/-
  A map's list of runs; the place of the first run with a byte from a on; the places that meet a span.
-/
import Derived.Test.YthbjhpfgfpkppaaDoorShelf
import Derived.Test.YthbjhpfgfpkppaaDoorIB
namespace Go.Proofs.YthbjhpfgfpkppaaDoor
open Go Go.RowKit
open Go.Sort (grow)

set_option maxHeartbeats 1000000 in
theorem list_map (mb : Nat) (A : Option Addr) (n c : Nat) (w : World) (h : w.cell? ⟨mb, 0, none⟩ = some (.slice A n c)) :
    Calls Tryd.prog 31 #[.pointer (some ⟨mb, 0, none⟩)] w fun e w' => e = .returned (.slice A n c) ∧ w' = w := by
  go_enter Tryd.func31, Tryd.ntmps31
  go_wp2
  go_ret
  exact ⟨rfl, rfl⟩
set_option maxHeartbeats 1000000 in
theorem list_nil (w : World) : Calls Tryd.prog 31 #[.pointer none] w fun e w' => e = .returned (.slice none 0 0) ∧ w' = w := by
  go_enter Tryd.func31, Tryd.ntmps31
  go_wp2
  go_ret
  exact ⟨rfl, rfl⟩

/- how many are still false -/
theorem cnt_spec (p : Nat → Bool) : ∀ n, (∀ a b, a ≤ b → b < n → p a = true → p b = true) →
    (List.range n).countP (fun i => !p i) ≤ n ∧ (∀ j, j < (List.range n).countP (fun i => !p i) → p j = false) ∧ (∀ j, (List.range n).countP (fun i => !p i) ≤ j → j < n → p j = true)
  | 0, _ => ⟨by simp, fun j h => by simp at h, fun j _ h => by omega⟩
  | n + 1, h => by
    obtain ⟨h1, h2, h3⟩ := cnt_spec p n (fun a b hab hb => h a b hab (by omega))
    rw [List.range_succ, List.countP_append]
    cases hp : p n with
    | true =>
      simp only [List.countP_cons, List.countP_nil, hp]
      refine ⟨by simp; omega, fun j hj => h2 j (by simpa using hj), fun j hj hn => ?_⟩
      by_cases e : j = n
      · subst e; exact hp
      · exact h3 j (by simpa using hj) (by omega)
    | false =>
      have all : ∀ j, j < n → p j = false := fun j hj => by
        cases hj' : p j with
        | false => rfl
        | true => rw [h j n (by omega) (by omega) hj'] at hp; cases hp
      have e : (List.range n).countP (fun i => !p i) = n := by
        refine Nat.le_antisymm h1 (Nat.le_of_not_lt fun hlt => ?_)
        have := h3 _ (Nat.le_refl _) hlt
        rw [all _ hlt] at this; cases this
      simp only [List.countP_cons, List.countP_nil, hp, e]
      refine ⟨by simp, fun j hj => ?_, fun j hj hn => ?_⟩
      · simp at hj
        by_cases e' : j = n
        · subst e'; exact hp
        · exact all j (by omega)
      · simp at hj; omega

def tstA (l : List Rn) (a : Int) (i : Nat) : Bool := decide (a < (l.getD i (0, 0, 0)).2.1)
def tstB (l : List Rn) (b : Int) (i : Nat) : Bool := decide (b ≤ (l.getD i (0, 0, 0)).1)
theorem tstA_at {l : List Rn} {a : Int} {i : Nat} (h : i < l.length) : tstA l a i = decide (a < l[i].2.1) := by unfold tstA; rw [List.getD_eq_getElem?_getD, List.getElem?_eq_getElem h]; rfl
theorem tstB_at {l : List Rn} {b : Int} {i : Nat} (h : i < l.length) : tstB l b i = decide (b ≤ l[i].1) := by unfold tstB; rw [List.getD_eq_getElem?_getD, List.getElem?_eq_getElem h]; rfl
theorem good_at {l : List Rn} (h : Good 0 none l) {i j : Nat} (hij : i < j) (hj : j < l.length) : l[i].1 < l[j].1 ∧ l[i].2.1 < l[j].2.1 := List.pairwise_iff_getElem.1 (good_pair h) i j (by omega) hj hij

set_option maxHeartbeats 4000000 in
theorem after_clo (b2 b3 n c i : Nat) (A : Option Addr) (l : List Rn) (p : Int) (W : World) (hn : l.length = n) (hi : i < n) (hbig : n ≤ 1000000) (hs : RnAt W W.heap.size A l) (h2 : W.cell? ⟨b2, 0, none⟩ = some (.slice A n c)) (h3 : W.cell? ⟨b3, 0, none⟩ = some (.int .i64 p)) :
    Calls Tryd.prog 48 #[.int .i64 i, .pointer (some ⟨b2, 0, none⟩), .pointer (some ⟨b3, 0, none⟩)] W fun e w' => e = .returned (.bool (tstA l p i)) ∧ ∃ q os', w' = grow (W.drewN q) os' := by
  have hil : i < l.length := by omega
  obtain ⟨b, o, rfl, hb, hc⟩ := hs (by omega)
  obtain ⟨-, c1, -⟩ := hc i hil
  clear hc hs
  have HT := Lib.hid (tstA_at (a := p) hil)
  generalize l[i].2.1 = t at *
  have HN := Lib.hid hn
  clear hn
  have q1 : (i : Int) < (n : Int) := by omega
  by_cases h : p < t
  · have HF : Hid (tstA l p i = true) := by unfold Hid; rw [HT.out]; simpa using h
    clear HT
    go_enter Tryd.func48, Tryd.ntmps48
    go_wp2
    go_quiet (fail)
    go_wp2
    go_ret
    exact ⟨ret_bool HF.out.symm, nq, #[], by rw [Go.Sort.grow_empty]⟩
  · have HF : Hid (tstA l p i = false) := by unfold Hid; rw [HT.out]; simpa using h
    have hd : decide (p < t) = false := by simpa using h
    clear HT
    go_enter Tryd.func48, Tryd.ntmps48
    go_wp2
    go_quiet (fail)
    go_wp2
    go_ret
    exact ⟨ret_bool HF.out.symm, nq, #[], by rw [Go.Sort.grow_empty]⟩

set_option maxHeartbeats 4000000 in
theorem meeting_clo (b2 b3 n c i : Nat) (A : Option Addr) (l : List Rn) (x p : Int) (W : World) (hn : l.length = n) (hi : i < n) (hbig : n ≤ 1000000) (hs : RnAt W W.heap.size A l) (h2 : W.cell? ⟨b2, 0, none⟩ = some (.slice A n c)) (_h3 : W.cell? ⟨b3, 0, none⟩ = some (.int .i64 x)) (h4 : W.cell? ⟨b3, 1, none⟩ = some (.int .i64 p)) :
    Calls Tryd.prog 43 #[.int .i64 i, .pointer (some ⟨b2, 0, none⟩), .pointer (some ⟨b3, 0, none⟩)] W fun e w' => e = .returned (.bool (tstB l p i)) ∧ ∃ q os', w' = grow (W.drewN q) os' := by
  have hil : i < l.length := by omega
  obtain ⟨b, o, rfl, hb, hc⟩ := hs (by omega)
  obtain ⟨c1, -, -⟩ := hc i hil
  clear hc hs
  have HT := Lib.hid (tstB_at (b := p) hil)
  generalize l[i].1 = t at *
  have HN := Lib.hid hn
  clear hn
  have q1 : (i : Int) < (n : Int) := by omega
  by_cases h : p ≤ t
  · have HF : Hid (tstB l p i = true) := by unfold Hid; rw [HT.out]; simpa using h
    clear HT
    go_enter Tryd.func43, Tryd.ntmps43
    go_wp2
    go_quiet (fail)
    go_wp2
    go_ret
    exact ⟨ret_bool HF.out.symm, nq, #[], by rw [Go.Sort.grow_empty]⟩
  · have HF : Hid (tstB l p i = false) := by unfold Hid; rw [HT.out]; simpa using h
    have hd : decide (p ≤ t) = false := by simpa using h
    clear HT
    go_enter Tryd.func43, Tryd.ntmps43
    go_wp2
    go_quiet (fail)
    go_wp2
    go_ret
    exact ⟨ret_bool HF.out.symm, nq, #[], by rw [Go.Sort.grow_empty]⟩

/-- a search over runs by a closure of two captured variables -/
theorem search_runs (f : Nat) (tst : Nat → Bool) (p : Rn → Bool) (n : Nat) (lb : Array Value) (l : List Rn) (W : World) (hn : l.length = n) (hbig : n ≤ 1000000) (htst : ∀ i (h : i < l.length), tst i = p l[i]) (hmono : ∀ a b (hb : b < l.length) (hab : a < b), p (l[a]'(by omega)) = true → p l[b] = true)
    (eg : ∀ args w, (callFunc f args).run Tryd.prog w = .ok (.enter f args) w)
    (hclo : ∀ m os i, i < n → Calls Tryd.prog f (#[.int .i64 i] ++ lb) (grow (W.drewN m) os) fun e w' => e = .returned (.bool (tst i)) ∧ ∃ q os', w' = grow ((grow (W.drewN m) os).drewN q) os') :
    Calls Tryd.prog 42 #[.int .i64 n, .func (.func f) #[] lb] W fun e w' => e = .returned (.int .i64 (idxR p l : Nat)) ∧ Ext W w' := by
  have mono : ∀ a b, a ≤ b → b < n → tst a = true → tst b = true := fun a b hab hb h => by
    rcases Nat.lt_or_ge a b with hlt | hge
    · rw [htst a (by omega)] at h; rw [htst b (by omega)]; exact hmono a b (by omega) hlt h
    · have : a = b := by omega
      subst this; exact h
  have h := Any.sort_Search Tryd.searchA f lb n tst W eg (by omega) hclo mono
  change Calls Tryd.prog 42 _ _ _ at h
  refine h.mono fun e w' ⟨he, q, os, hw⟩ => ?_
  obtain ⟨s1, s2, s3⟩ := cnt_spec tst n mono
  have e2 := idxR_is (p := p) (l := l) (i := (List.range n).countP (fun i => !tst i)) (by omega) (fun j hj hlt => by rw [← htst j hj]; exact s2 j hlt) (fun j hj hle => by rw [← htst j hj]; exact s3 j hle (by omega))
  rw [← e2]
  refine ⟨he, ?_⟩
  subst hw
  exact below_grown_sl _ W q os (Nat.le_refl _)
end Go.Proofs.YthbjhpfgfpkppaaDoor
