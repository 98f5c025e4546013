/-
  A set's spans as a copy; its first span from a byte on; whether a byte is in it; the reference's Of and First.
-/
import Derived.Test.YthbjhpfgfpkppaaGreatDoorRH
namespace Go.Proofs.YthbjhpfgfpkppaaGreatDoor
open Go Go.RowKit
open Go.Sort (grow)

/-- the first span from a byte on -/
def firstL (p : Int) : List Sp → Sp × Bool
  | [] => ((0, 0), false)
  | x :: r => if p < x.2 then ((if x.1 < p then p else x.1, x.2), true) else firstL p r
theorem firstL_skip {p : Int} : ∀ {l : List Sp} {i : Nat}, i ≤ l.length → (∀ j (h : j < l.length), j < i → l[j].2 ≤ p) → firstL p l = firstL p (l.drop i)
  | l, 0, _, _ => rfl
  | x :: r, i + 1, hi, h => by
    have h0 := h 0 (by simp) (by omega)
    simp only [List.getElem_cons_zero] at h0
    rw [List.drop_succ_cons, ← firstL_skip (l := r) (i := i) (by simpa using hi) fun j hj hlt => by have := h (j + 1) (by simpa using hj) (by omega); rwa [List.getElem_cons_succ] at this]
    simp only [firstL]
    rw [if_neg (by omega)]
theorem firstL_none {p : Int} {l : List Sp} (h : ∀ j (h : j < l.length), j < l.length → l[j].2 ≤ p) : firstL p l = ((0, 0), false) := by
  rw [firstL_skip (Nat.le_refl _) h]; simp [firstL]
theorem firstL_some {p : Int} {l : List Sp} {i : Nat} (hi : i < l.length) (h : ∀ j (h : j < l.length), j < i → l[j].2 ≤ p) (hp : p < l[i].2) : firstL p l = ((if l[i].1 < p then p else l[i].1, l[i].2), true) := by
  rw [firstL_skip (by omega) h, List.drop_eq_getElem_cons hi]
  simp only [firstL]
  rw [if_pos hp]

set_option maxHeartbeats 4000000 in
theorem First_any (A : Option Addr) (n c : Nat) (l : List Sp) (p : Int) (w : World) (hn : l.length = n) (hbig : n ≤ 1000000) (hca : Canon l) (hs : SpAt w w.heap.size A l) :
    Calls Tryz.prog 15 #[.agg #[.slice A n c], .int .i64 p] w fun e w' => e = .returned (.tuple #[.agg #[.int .i64 (firstL p l).1.1, .int .i64 (firstL p l).1.2], .bool (firstL p l).2]) ∧ Below w.heap.size w w' := by
  have e1 : Ext w ((w.alloc (.cells #[.slice A n c] 26)).alloc (.cells #[.int .i64 0, .int .i64 0] 41)) := ((Below.refl _ _).alloc (Nat.le_refl _) _).alloc (by simp) _
  have HAF := fun W (hW : Ext w W) => after_any A n c l p W hn hbig hca (hs.below hW hW.size)
  have HS := Lib.hid hs
  clear hs
  have HN := Lib.hid hn
  clear hn
  have HCa := Lib.hid hca
  clear hca
  go_enter Tryz.func15, Tryz.ntmps15
  go_wp2_with fail
  with_reducible refine (HAF _ (by go_grown)).mono ?_
  rintro e w1 ⟨i, rfl, hi, h2, h3, hb1⟩
  obtain ⟨hc1, hf1⟩ := bcell hb1
  have hz1 : w.heap.size < w1.heap.size ∧ w.heap.size + 1 < w1.heap.size := (by have := hb1.size; simp only [World.size_alloc] at this; omega)
  have B1 := bel (w := w) (by go_grown) hb1
  have H2 := Lib.hid h2; have H3 := Lib.hid h3
  clear h2 h3 hb1 HAF
  by_cases hlt : i = n
  · subst hlt
    have HF : Hid (firstL p l = ((0, 0), false)) := firstL_none fun j hj _ => H2.out j hj (by have := HN.out; omega)
    go_wp2
    refine bodyPost_ret (v := .tuple #[.agg #[.int .i64 0, .int .i64 0], .bool false]) (by simp [results, Tryz.results15, go_sem, hc1]) rfl ⟨by rw [HF.out], by go_grown⟩
  · have hin : i < n := by have := HN.out; omega
    have hil : i < l.length := by have := HN.out; omega
    have hne : ((i : Int) == (n : Int)) = false := by simpa using (by omega : ¬ (i : Int) = n)
    obtain ⟨b, o, rfl, hbb, hc⟩ := (HS.out.below B1 (Nat.le_refl _)) (by omega)
    obtain ⟨c0, c1⟩ := hc i hil
    clear hc
    have hp := H3.out i hil (Nat.le_refl _)
    have hx := HCa.out.at_ hil
    have HF0 := Lib.hid (firstL_some hil (fun j hj hlt => H2.out j hj hlt) hp)
    generalize l[i] = X at *
    obtain ⟨x, y⟩ := X
    simp only at hp hx c0 c1 HF0
    have hbz : b < w1.heap.size := Nat.lt_of_lt_of_le hbb B1.size
    have HM : Hid (cutA x y = x ∧ cutM x y p = (if x < p then p else x) ∧ cutZ x y = y) := by
      have hr : rtB x y = true := rtB_mk (by omega)
      refine ⟨by simp [cutA, hr], ?_, by simp [cutZ, hr]⟩
      simp only [cutM, hr, if_true]
      split <;> (try split) <;> (try split) <;> omega
    have hcut := fun W => cut_any x y p W
    rw [HM.out.1, HM.out.2.1, HM.out.2.2] at hcut
    generalize hmm : (if x < p then p else x) = m at *
    have HMM := Lib.hid hmm
    clear hmm
    go_wp2_with fail
    with_reducible refine (hcut _).mono ?_
    rintro e w2 ⟨rfl, hb2⟩
    obtain ⟨hc2, hf2⟩ := bcell hb2
    have hz2 : w.heap.size < w2.heap.size ∧ w.heap.size + 1 < w2.heap.size ∧ w.heap.size + 1 < w2.heap.size + 1 ∧ w.heap.size + 1 < w2.heap.size + 1 + 1 ∧ w2.heap.size < w2.heap.size + 1 + 1 := (by have := hb2.size; omega)
    have B2 := bel (w := w) (by go_grown) hb2
    clear hb2 hcut
    go_wp2
    refine bodyPost_ret (v := .tuple #[.agg #[.int .i64 m, .int .i64 y], .bool true]) (by simp [results, Tryz.results15, go_sem, hc1, hz1, hc2, hz2]) rfl ⟨by rw [HF0.out], by go_grown⟩

set_option maxHeartbeats 2000000 in
/-- the reference's Of: the same set -/
theorem rOf_any (A : Option Addr) (n c : Nat) (l : List Sp) (w : World) (hn : l.length = n) (hm : n ≤ 100000) (hs : SpAt w w.heap.size A l) :
    Calls Tryz.prog 10 #[.slice A n c] w fun e w' => ∃ v out, e = .returned v ∧ IsSp w' v out ∧ Canon out ∧ (∀ p, InL out p ↔ InL l p) ∧ out.length ≤ 2 * n ∧ Below w.heap.size w w' := by
  subst hn
  have hcon := of_any 1 (.inl rfl) A none c 0 l [] w hm (by simp) hs (fun h => absurd h (by simp))
  have HC := Lib.hid hcon
  clear hcon hs
  have hk : ∀ p, keepB 1 l [] p = true ↔ InL l p := fun p => by simp [keepB, bopB, anyHas_iff.symm, anyHas]
  have HK := Lib.hid hk
  clear hk
  go_enter Tryz.func10, Tryz.ntmps10
  go_wp2_with (go_at_call 26; refine (Hid.out HC).mono ?_; rintro e w1 ⟨v, out, rfl, h1, h2, h3, h4, h5⟩; have H1 := Lib.hid h1; have H2 := Lib.hid h2; have H3 := Lib.hid h3; have H4 := Lib.hid h4; clear h1 h2 h3 h4)
  go_ret
  exact ⟨v, out, rfl, H1.out, H2.out, fun p => (H3.out p).trans (HK.out p), by have := H4.out; simp at this; omega, h5⟩

set_option maxHeartbeats 2000000 in
theorem clone_any (A : Option Addr) (n c : Nat) (l : List Sp) (w : World) (hn : l.length = n) (hm : n ≤ 1000000) (hs : SpAt w w.heap.size A l) :
    Calls Tryz.prog 29 #[.slice A n c] w fun e w' => ∃ v, e = .returned v ∧ OwnS w' w.heap.size v l ∧ Below w.heap.size w w' := by
  subst hn
  have q : ∀ (w : World) (a : Option Addr) (n c n' c' : Nat), (binOp .eql 22 (.slice a n c) (.slice none n' c')).run Tryz.prog w = .ok (.bool a.isNone) w := fun w a n c n' c' => Lib.run_eql_slice_nil w _ _ a n c n' c' Tryz.underlying22
  have HS := Lib.hid hs
  clear hs
  cases A with
  | none =>
    have hl : l = [] := by
      rcases Nat.eq_zero_or_pos l.length with h0 | h0
      · exact List.eq_nil_of_length_eq_zero h0
      · obtain ⟨_, _, e, _⟩ := HS.out h0; cases e
    subst hl
    go_enter Tryz.func29, Tryz.ntmps29
    go_wp2
    go_ret
    exact ⟨_, rfl, World.ownsRow_nil _ _ _ _, Below.refl _ _⟩
  | some ad =>
    go_enter Tryz.func29, Tryz.ntmps29
    go_wp2_with (at_builtin; refine app_spans _ (by rfl) _ _ (by rfl) w.heap.size _ [] l (by rfl) (OwnS.nil_at w _ (Nat.le_refl _)) w.heap.size (some ad) c (by rfl) (HS.out.below (by go_grown) (Nat.le_refl _)) (by simp; omega) (by simp) ?_; intro v1 w1 hown1 hgrow; have B1 : Below w.heap.size w w1 := below_app_same (by go_grown) (by simp) (OwnS.nil_at w _ (Nat.le_refl _)) hgrow; clear hgrow)
    go_ret
    exact ⟨_, rfl, by simpa using hown1, B1⟩

set_option maxHeartbeats 2000000 in
/-- a copy of a set's spans -/
theorem Spans_any (A : Option Addr) (n c : Nat) (l : List Sp) (w : World) (hn : l.length = n) (hm : n ≤ 1000000) (hs : SpAt w w.heap.size A l) :
    Calls Tryz.prog 14 #[.agg #[.slice A n c]] w fun e w' => ∃ v, e = .returned v ∧ IsSp w' v l ∧ Below w.heap.size w w' := by
  have HC := fun W (hW : Ext w W) => clone_any A n c l W hn hm (hs.below hW hW.size)
  clear hs hn
  go_enter Tryz.func14, Tryz.ntmps14
  go_wp2_with (go_at_call 29; refine (HC _ (by go_grown)).mono ?_; rintro e w1 ⟨v, rfl, hown, hb1⟩; have B1 := bel (w := w) (by go_grown) hb1; have HO := Lib.hid (IsSp.own hown); clear hb1 hown HC)
  go_ret
  exact ⟨_, rfl, HO.out, B1⟩

end Go.Proofs.YthbjhpfgfpkppaaGreatDoor
