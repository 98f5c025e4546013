/-
  The example that every statement of layer 2 asks beside its own: true in every start.
-/
import Derived.Test.YthbjhpfgfpkppaaGreatDoorRW
import Derived.Test.YthbjhpfgfpkppaaGreatDoorRI
namespace Go.Proofs.YthbjhpfgfpkppaaGreatDoor
open Go Go.RowKit

/-- a set as a value: its spans' slice, what it reads as -/
def IsSet (W : World) (v : Value) (out : List Sp) : Prop := ∃ s, v = .agg #[s] ∧ IsSp W s out ∧ Canon out
theorem IsSet.st {out : List Sp} : ∀ v W W', IsSet W v out → Ext W W' → IsSet W' v out := fun _ _ _ ⟨s, e, h, c⟩ hb => ⟨s, e, h.below hb, c⟩
theorem IsSet.split {W : World} {v : Value} {l : List Sp} (h : IsSet W v l) : ∃ (A : Option Addr) (n c : Nat), v = .agg #[.slice A n c] ∧ Hid (l.length = n) ∧ n ≤ c ∧ Hid (SpAt W W.heap.size A l) ∧ Hid (Canon l) := by
  obtain ⟨s, rfl, ⟨A, c, rfl, hc, hs⟩, hca⟩ := h
  exact ⟨A, _, c, rfl, rfl, hc, hs, hca⟩
/-- the spans of a list's bytes -/
def Norm (l out : List Sp) : Prop := Canon out ∧ ∀ p, InL out p ↔ InL l p
theorem Norm.eq {l out out' : List Sp} (h : Norm l out) (h' : Norm l out') : out = out' := canon_unique h.1 h'.1 fun p => (h.2 p).trans (h'.2 p).symm

theorem OfS (A : Option Addr) (n c : Nat) (l : List Sp) (w : World) (hn : l.length = n) (hm : n ≤ 1000000) (hs : SpAt w w.heap.size A l) :
    Calls Tryz.prog 6 #[.slice A n c] w fun e w' => ∃ v, e = .returned v ∧ (∃ out, IsSet w' v out ∧ Norm l out ∧ out.length ≤ n) ∧ Below w.heap.size w w' := by
  subst hn
  exact (Of_any A c l w hm hs).mono fun e w' ⟨v, out, he, h1, h2, h3, h4, h5⟩ => ⟨_, he, ⟨out, ⟨v, rfl, h1, h2⟩, ⟨h2, h3⟩, h4⟩, h5⟩
/-- what is known of the list of spans that a set of numbers stands for: unique, so it can be named ahead -/
noncomputable def normL (l : List Sp) : List Sp := closeL 0 ((solidL l).mergeSort fun x y => decide (x.1 ≤ y.1))
theorem normL_norm (l : List Sp) : Norm l (normL l) := by
  have hp := List.mergeSort_perm (solidL l) (fun x y => decide (x.1 ≤ y.1))
  have hs := List.pairwise_mergeSort (le := fun x y : Sp => decide (x.1 ≤ y.1)) (by intro a b c h1 h2; simp at *; omega) (by intro a b; simp; omega) (solidL l)
  obtain ⟨h1, h2, _⟩ := of_ok hp (hs.imp (by simp))
  exact ⟨h1, h2⟩
theorem normL_len (l : List Sp) : (normL l).length ≤ l.length := by
  have h1 := closeL_len 0 ((solidL l).mergeSort fun x y => decide (x.1 ≤ y.1))
  have h2 := (List.mergeSort_perm (solidL l) (fun x y => decide (x.1 ≤ y.1))).length_eq
  have h3 := solidL_len l
  unfold normL; omega
theorem Norm.is {l out : List Sp} (h : Norm l out) : out = normL l := h.eq (normL_norm l)

theorem Of_set (A : Option Addr) (n c : Nat) (l : List Sp) (w : World) (hn : l.length = n) (hm : n ≤ 1000000) (hs : SpAt w w.heap.size A l) :
    Calls Tryz.prog 6 #[.slice A n c] w fun e w' => ∃ v, e = .returned v ∧ IsSet w' v (normL l) ∧ Below w.heap.size w w' :=
  (OfS A n c l w hn hm hs).mono fun _ _ ⟨v, he, ⟨_, h1, h2, _⟩, h4⟩ => ⟨v, he, h2.is ▸ h1, h4⟩
theorem rOf_set (A : Option Addr) (n c : Nat) (l : List Sp) (w : World) (hn : l.length = n) (hm : n ≤ 100000) (hs : SpAt w w.heap.size A l) :
    Calls Tryz.prog 10 #[.slice A n c] w fun e w' => ∃ v, e = .returned v ∧ IsSp w' v (normL l) ∧ Below w.heap.size w w' :=
  (rOf_any A n c l w hn hm hs).mono fun _ _ ⟨v, _, he, h1, h2, h3, _, h5⟩ => ⟨v, he, (Norm.is (l := l) ⟨h2, h3⟩) ▸ h1, h5⟩
theorem Spans_set {W : World} {v : Value} {l : List Sp} (h : IsSet W v l) (hm : l.length ≤ 1000000) :
    Calls Tryz.prog 14 #[v] W fun e w' => ∃ v', e = .returned v' ∧ IsSp w' v' l ∧ Below W.heap.size W w' := by
  obtain ⟨A, n, c, rfl, HN, _, HS, _⟩ := h.split
  exact Spans_any A n c l W HN.out (by have := HN.out; omega) HS.out
theorem First_set {W : World} {v : Value} {l : List Sp} (p : Int) (h : IsSet W v l) (hm : l.length ≤ 1000000) :
    Calls Tryz.prog 15 #[v, .int .i64 p] W fun e w' => e = .returned (.tuple #[.agg #[.int .i64 (firstL p l).1.1, .int .i64 (firstL p l).1.2], .bool (firstL p l).2]) ∧ Below W.heap.size W w' := by
  obtain ⟨A, n, c, rfl, HN, _, HS, HC⟩ := h.split
  exact First_any A n c l p W HN.out (by have := HN.out; omega) HC.out HS.out
theorem list_sp {W : World} {v u : Value} {l m : List Sp} (h : IsSp W v l) (k : IsSp W u m) (hm : l.length ≤ 1000000) :
    Calls Tryz.prog 13 #[v, u] W fun e w' => e = .returned (.bool (decide (l = m))) ∧ Below W.heap.size W w' := by
  obtain ⟨A, c, rfl, _, hs⟩ := h
  obtain ⟨A', c', rfl, _, hs'⟩ := k
  exact list_any A A' c c' l m W hm hs hs'
theorem wake_norm : normL [(9, 4611686018427387904), (0, 4), (4, 6)] = [(0, 6), (9, 4611686018427387904)] := by
  refine (Norm.is ⟨⟨?_, ?_⟩, fun p => ?_⟩).symm
  · intro x hx; simp at hx; rcases hx with rfl | rfl <;> (unfold Solid; simp)
  · simp [Gapped]
  · simp only [InL_cons, InL_nil, or_false]; unfold InS; simp only; omega

set_option maxHeartbeats 8000000 in
set_option maxRecDepth 100000 in
theorem wakes_any (w : World) : Calls Tryz.prog 4 #[] w fun e w' => e = .returned (.bool true) ∧ Below w.heap.size w w' := by
  have e1 : Ext w (w.alloc (.cells #[.int .i64 9, .int .i64 4611686018427387904, .int .i64 0, .int .i64 4, .int .i64 4, .int .i64 6] 41)) := (Below.refl _ _).alloc (Nat.le_refl _) _
  have hA : SpAt (w.alloc (.cells #[.int .i64 9, .int .i64 4611686018427387904, .int .i64 0, .int .i64 4, .int .i64 4, .int .i64 6] 41)) (w.alloc (.cells #[.int .i64 9, .int .i64 4611686018427387904, .int .i64 0, .int .i64 4, .int .i64 4, .int .i64 6] 41)).heap.size (some ⟨w.heap.size, 0, none⟩) [(9, 4611686018427387904), (0, 4), (4, 6)] := fun _ => ⟨w.heap.size, 0, rfl, by simp, fun j hj => by
    match j, hj with
    | 0, _ => simp
    | 1, _ => simp
    | 2, _ => simp
    | j + 3, hj => exact absurd hj (by simp)⟩
  have HO := Lib.hid (Of_set (some ⟨w.heap.size, 0, none⟩) 3 3 _ _ rfl (by decide) hA)
  clear hA
  rw [wake_norm] at HO
  go_enter Tryz.func4, Tryz.ntmps4
  go_wp2_with (go_at_call 6; refine (Hid.out HO).mono ?_; rintro e w1 ⟨v, rfl, hset, hb1⟩; obtain ⟨A1, n1, c1, rfl, HN, hcc, HS, HC⟩ := hset.split; have hz1 : w.heap.size < w1.heap.size := (by have := hb1.size; simp at this; omega); have B1 := bel (w := w) e1 hb1; have hset1 := Lib.hid hset; clear hset hb1)
  have hb1 : Ext w1 (w1.alloc (.cells #[.slice A1 n1 c1] 26)) := (Below.refl _ _).alloc (Nat.le_refl _) _
  have hF := First_set 7 (IsSet.st _ _ _ hset1.out hb1) (by decide)
  rw [show firstL 7 [(0, 6), (9, 4611686018427387904)] = ((9, 4611686018427387904), true) from by decide] at hF
  with_reducible refine hF.mono ?_
  rintro e w2 ⟨rfl, hb2⟩
  clear hF
  obtain ⟨hc2, hf2⟩ := bcell hb2
  have e2 : Ext w1 w2 := hb1.tr hb2
  have B2 : Ext w w2 := Ext.tr B1 e2
  have hz2 : w1.heap.size < w2.heap.size ∧ w1.heap.size < w2.heap.size + 1 := (by have := hb2.size; simp at this; omega)
  clear hb1 hb2
  go_wp2_with fail
  have e3 : Ext w2 (w2.alloc (.cells #[.int .i64 9, .int .i64 4611686018427387904] 41)) := (Below.refl _ _).alloc (Nat.le_refl _) _
  have hS := Spans_set (IsSet.st _ _ _ hset1.out (e2.tr e3)) (by decide)
  with_reducible refine hS.mono ?_
  rintro e w3 ⟨v3, rfl, hsp3, hb3⟩
  clear hS
  obtain ⟨hc3, hf3⟩ := bcell hb3
  have e3' : Ext w2 w3 := e3.tr hb3
  have hz3 : w1.heap.size < w3.heap.size ∧ w2.heap.size < w3.heap.size ∧ w1.heap.size < w3.heap.size + 1 ∧ w2.heap.size < w3.heap.size + 1 := (by have := hb3.size; simp at this; omega)
  have B3 : Ext w w3 := B2.tr e3'
  have hsp := Lib.hid hsp3
  clear hb3 hsp3 e3
  go_wp2_with fail
  have e4 : Ext w3 (w3.alloc (.cells #[.int .i64 0, .int .i64 6, .int .i64 9, .int .i64 4611686018427387904] 41)) := (Below.refl _ _).alloc (Nat.le_refl _) _
  have hA4 : IsSp (w3.alloc (.cells #[.int .i64 0, .int .i64 6, .int .i64 9, .int .i64 4611686018427387904] 41)) (.slice (some ⟨w3.heap.size, 0, none⟩) 2 2) [(0, 6), (9, 4611686018427387904)] := ⟨_, 2, rfl, by simp, fun _ => ⟨w3.heap.size, 0, rfl, by simp, fun j hj => by
    match j, hj with
    | 0, _ => simp
    | 1, _ => simp
    | j + 2, hj => exact absurd hj (by simp)⟩⟩
  have hL := list_sp (hsp.out.below e4) hA4 (by decide)
  rw [show decide ([(0, 6), (9, 4611686018427387904)] = ([(0, 6), (9, 4611686018427387904)] : List Sp)) = true from by decide] at hL
  with_reducible refine hL.mono ?_
  rintro e w4 ⟨rfl, hb4⟩
  clear hL hA4
  obtain ⟨hc4, hf4⟩ := bcell hb4
  have e4' : Ext w3 w4 := e4.tr hb4
  have hz4 : w1.heap.size < w4.heap.size ∧ w2.heap.size < w4.heap.size := (by have := e4'.size; omega)
  have B4 : Ext w w4 := B3.tr e4'
  have HT := Lib.hid (Text_w A1 c1 w4 (by have h := HS.out.below ((e2.tr e3').tr e4') ((e2.tr e3').tr e4').size; exact h))
  have hn1 : n1 = 2 := by have := HN.out; simpa using this.symm
  subst hn1
  clear hb4 e4 e4' e3' e2
  go_wp2_with (go_at_call 8; refine (Hid.out HT).mono ?_; rintro e w5 ⟨rfl, hb5⟩)
  go_ret
  exact ⟨rfl, B4.tr hb5⟩
end Go.Proofs.YthbjhpfgfpkppaaGreatDoor
