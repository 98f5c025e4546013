/-
  RangesHolds: the reference's Holds, and the walk.
-/
import Derived.Test.YtoimoalkihjcfaaDoorRHo
import Derived.Test.YtoimoalkihjcfaaDoorRY
namespace Go.Proofs.YtoimoalkihjcfaaDoor
open Go Go.RowKit

open Classical in
/-- the spans of the bytes that an operation keeps: there is one such list at most -/
noncomputable def keepL (op : Int) (a b : List Sp) : List Sp := if h : ∃ out, Canon out ∧ ∀ p, InL out p ↔ keepB op a b p = true then Classical.choose h else []
theorem keepL_is {op : Int} {a b out : List Sp} (h1 : Canon out) (h2 : ∀ p, InL out p ↔ keepB op a b p = true) : out = keepL op a b := by
  have h : ∃ out, Canon out ∧ ∀ p, InL out p ↔ keepB op a b p = true := ⟨out, h1, h2⟩
  unfold keepL
  rw [dif_pos h]
  have hs := Classical.choose_spec h
  exact canon_unique h1 hs.1 fun p => (h2 p).trans (hs.2 p).symm

set_option maxHeartbeats 2000000 in
theorem rOr_set {W : World} {v u : Value} {a b : List Sp} (h : IsSp W v a) (k : IsSp W u b) (hm : a.length ≤ 100000) (hm' : b.length ≤ 100000) :
    Calls Tryd.prog 23 #[v, u] W fun e w' => ∃ v', e = .returned v' ∧ (IsSp w' v' (keepL 1 a b) ∧ (keepL 1 a b).length ≤ 2 * (a.length + b.length) ∧ Canon (keepL 1 a b) ∧ ∀ p, InL (keepL 1 a b) p ↔ keepB 1 a b p = true) ∧ Below W.heap.size W w' := by
  obtain ⟨A, c, rfl, _, hs⟩ := h
  obtain ⟨A', c', rfl, _, hs'⟩ := k
  have HC := Lib.hid (of_any 1 (by omega) A A' c c' a b W hm hm' hs hs')
  clear hs hs'
  go_enter Tryd.func23, Tryd.ntmps23
  go_wp2_with (go_at_call 44; refine (Hid.out HC).mono ?_; rintro e w1 ⟨v, out, rfl, h1, h2, h3, h4, h5⟩; have HK := Lib.hid (keepL_is h2 h3); have H2 := Lib.hid h2; have H3 := Lib.hid h3; have H1 := Lib.hid h1; have H4 := Lib.hid h4; clear h1 h2 h3 h4)
  go_ret
  exact ⟨v, rfl, ⟨by rw [← HK.out]; exact H1.out, by rw [← HK.out]; exact H4.out, by rw [← HK.out]; exact H2.out, by rw [← HK.out]; exact H3.out⟩, h5⟩

set_option maxHeartbeats 2000000 in
theorem rAnd_set {W : World} {v u : Value} {a b : List Sp} (h : IsSp W v a) (k : IsSp W u b) (hm : a.length ≤ 100000) (hm' : b.length ≤ 100000) :
    Calls Tryd.prog 25 #[v, u] W fun e w' => ∃ v', e = .returned v' ∧ (IsSp w' v' (keepL 2 a b) ∧ (keepL 2 a b).length ≤ 2 * (a.length + b.length) ∧ Canon (keepL 2 a b) ∧ ∀ p, InL (keepL 2 a b) p ↔ keepB 2 a b p = true) ∧ Below W.heap.size W w' := by
  obtain ⟨A, c, rfl, _, hs⟩ := h
  obtain ⟨A', c', rfl, _, hs'⟩ := k
  have HC := Lib.hid (of_any 2 (by omega) A A' c c' a b W hm hm' hs hs')
  clear hs hs'
  go_enter Tryd.func25, Tryd.ntmps25
  go_wp2_with (go_at_call 44; refine (Hid.out HC).mono ?_; rintro e w1 ⟨v, out, rfl, h1, h2, h3, h4, h5⟩; have HK := Lib.hid (keepL_is h2 h3); have H2 := Lib.hid h2; have H3 := Lib.hid h3; have H1 := Lib.hid h1; have H4 := Lib.hid h4; clear h1 h2 h3 h4)
  go_ret
  exact ⟨v, rfl, ⟨by rw [← HK.out]; exact H1.out, by rw [← HK.out]; exact H4.out, by rw [← HK.out]; exact H2.out, by rw [← HK.out]; exact H3.out⟩, h5⟩

set_option maxHeartbeats 2000000 in
theorem rLess_set {W : World} {v u : Value} {a b : List Sp} (h : IsSp W v a) (k : IsSp W u b) (hm : a.length ≤ 100000) (hm' : b.length ≤ 100000) :
    Calls Tryd.prog 27 #[v, u] W fun e w' => ∃ v', e = .returned v' ∧ (IsSp w' v' (keepL 3 a b) ∧ (keepL 3 a b).length ≤ 2 * (a.length + b.length) ∧ Canon (keepL 3 a b) ∧ ∀ p, InL (keepL 3 a b) p ↔ keepB 3 a b p = true) ∧ Below W.heap.size W w' := by
  obtain ⟨A, c, rfl, _, hs⟩ := h
  obtain ⟨A', c', rfl, _, hs'⟩ := k
  have HC := Lib.hid (of_any 3 (by omega) A A' c c' a b W hm hm' hs hs')
  clear hs hs'
  go_enter Tryd.func27, Tryd.ntmps27
  go_wp2_with (go_at_call 44; refine (Hid.out HC).mono ?_; rintro e w1 ⟨v, out, rfl, h1, h2, h3, h4, h5⟩; have HK := Lib.hid (keepL_is h2 h3); have H2 := Lib.hid h2; have H3 := Lib.hid h3; have H1 := Lib.hid h1; have H4 := Lib.hid h4; clear h1 h2 h3 h4)
  go_ret
  exact ⟨v, rfl, ⟨by rw [← HK.out]; exact H1.out, by rw [← HK.out]; exact H4.out, by rw [← HK.out]; exact H2.out, by rw [← HK.out]; exact H3.out⟩, h5⟩

theorem keep3_none {a b : Int} {l out : List Sp} (hc : Canon l) (hr : rtB a b = true) (h1 : Canon out) (h2 : ∀ p, InL out p ↔ keepB 3 [(a, b)] l p = true) : (out = [] ↔ holdsB l a b = true) := by
  have hk : ∀ p, keepB 3 [(a, b)] l p = true ↔ InS (a, b) p ∧ ¬ InL l p := fun p => by
    have e1 : anyHas [(a, b)] p = true ↔ InS (a, b) p := by rw [anyHas_iff, InL_one]
    unfold keepB bopB
    rw [← e1, ← anyHas_iff]
    cases anyHas [(a, b)] p <;> cases anyHas l p <;> simp
  rw [holds_iff hc hr]
  constructor
  · rintro rfl p hp
    refine Classical.byContradiction fun hn => ?_
    exact InL_nil p ((h2 p).2 ((hk p).2 ⟨hp, hn⟩))
  · intro h
    cases out with
    | nil => rfl
    | cons x r =>
      have sx := h1.head
      have := (hk x.1).1 ((h2 x.1).1 (InL_cons.2 (.inl (by unfold Solid at sx; unfold InS; omega))))
      exact absurd (h _ this.1) this.2

set_option maxHeartbeats 8000000 in
set_option maxRecDepth 100000 in
theorem rHolds_set {W : World} {v : Value} {l : List Sp} (a b : Int) (hca : Canon l) (h : IsSp W v l) (hm : l.length ≤ 100000) :
    Calls Tryd.prog 37 #[v, .agg #[.int .i64 a, .int .i64 b]] W fun e w' => e = .returned (.bool (holdsB l a b)) ∧ Below W.heap.size W w' := by
  have HI := Lib.hid h
  clear h
  have HCa := Lib.hid hca
  clear hca
  have a0 : Ext W (W.alloc (.cells #[.int .i64 a, .int .i64 b] 33)) := (Below.refl _ _).alloc (Nat.le_refl _) _
  cases hr : rtB a b with
  | false =>
    have HF : Hid (holdsB l a b = false) := by unfold Hid; simp [holdsB, hr]
    go_enter Tryd.func37, Tryd.ntmps37
    go_wp2_with fail
    with_reducible refine (rright_any a b _).mono ?_
    rintro e w1 ⟨rfl, hb1⟩
    have E1 := a0.tr hb1
    clear hb1
    go_wp2
    go_ret
    exact ⟨ret_bool HF.out.symm, E1⟩
  | true =>
    have HR := Lib.hid hr
    go_enter Tryd.func37, Tryd.ntmps37
    go_wp2_with fail
    with_reducible refine (rright_any a b _).mono ?_
    rintro e w1 ⟨rfl, hb1⟩
    obtain ⟨hc1, hf1⟩ := bcell hb1
    have hz1 : W.heap.size < w1.heap.size := (by have := hb1.size; simp at this; omega)
    have E1 := a0.tr hb1
    clear hb1 a0
    go_wp2_with fail
    have e2 : Ext w1 (w1.alloc (.cells #[.int .i64 a, .int .i64 b] 33)) := (Below.refl _ _).alloc (Nat.le_refl _) _
    have hA : IsSp (w1.alloc (.cells #[.int .i64 a, .int .i64 b] 33)) (.slice (some ⟨w1.heap.size, 0, none⟩) 1 1) [(a, b)] := ⟨_, 1, rfl, by simp, fun _ => ⟨w1.heap.size, 0, rfl, by simp, fun j hj => by
      obtain rfl : j = 0 := by simpa using hj
      simp⟩⟩
    have hL := rLess_set hA (HI.out.below (E1.tr e2)) (by simp) hm
    with_reducible refine hL.mono ?_
    rintro e w2 ⟨v2, rfl, ⟨hsp, hlen, hcan⟩, hb2⟩
    clear hL hA
    have E2 := (Ext.tr E1 e2).tr hb2
    have hkk : keepL 3 [(a, b)] l = [] ↔ holdsB l a b = true := keep3_none HCa.out HR.out hcan.1 hcan.2
    obtain ⟨A2, n2, c2, rfl, HN2, hcc2, -⟩ := hsp.split
    have HKK : Hid (((n2 : Int) == 0) = holdsB l a b) := by
      unfold Hid
      have hn := HN2.out
      cases hh : holdsB l a b with
      | true => have := hkk.2 hh; rw [this] at hn; simp at hn; subst hn; rfl
      | false =>
        have hne : n2 ≠ 0 := fun e => by
          have : keepL 3 [(a, b)] l = [] := List.eq_nil_of_length_eq_zero (by omega)
          rw [hkk.1 this] at hh; cases hh
        simpa using (by omega : ¬ (n2 : Int) = 0)
    clear hsp hb2 e2 hkk hlen hcan
    go_wp2
    go_ret
    exact ⟨ret_bool HKK.out, E2⟩
end Go.Proofs.YtoimoalkihjcfaaDoor
