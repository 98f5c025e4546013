/-
  A set's spans as a copy; its first span from a byte on; whether a byte is in it; the reference's Of and First.
-/
import Derived.Test.YthbjhpfgfpkppaaDoorRH
namespace Go.Proofs.YthbjhpfgfpkppaaDoor.Rg
open Go Go.RowKit
open Go.Sort (grow)

/-- the first span from a byte on -/
def firstL (p : Int) : List Sp → Sp × Bool
  | [] => ((0, 0), false)
  | x :: r => if p < x.2 then ((if x.1 < p then p else x.1, x.2), true) else firstL p r
theorem firstL_skip {p : Int} : ∀ {l : List Sp} {i : Nat}, i ≤ l.length → (∀ j (h : j < l.length), j < i → l[j].2 ≤ p) → firstL p l = firstL p (l.drop i)
  | l, 0, _, _ => rfl
  | x :: r, i + 1, hi, h => by
    have h0 := h 0 (by simp) (by omega)
    simp only [List.getElem_cons_zero] at h0
    rw [List.drop_succ_cons, ← firstL_skip (l := r) (i := i) (by simpa using hi) fun j hj hlt => by have := h (j + 1) (by simpa using hj) (by omega); rwa [List.getElem_cons_succ] at this]
    simp only [firstL]
    rw [if_neg (by omega)]
theorem firstL_none {p : Int} {l : List Sp} (h : ∀ j (h : j < l.length), j < l.length → l[j].2 ≤ p) : firstL p l = ((0, 0), false) := by
  rw [firstL_skip (Nat.le_refl _) h]; simp [firstL]
theorem firstL_some {p : Int} {l : List Sp} {i : Nat} (hi : i < l.length) (h : ∀ j (h : j < l.length), j < i → l[j].2 ≤ p) (hp : p < l[i].2) : firstL p l = ((if l[i].1 < p then p else l[i].1, l[i].2), true) := by
  rw [firstL_skip (by omega) h, List.drop_eq_getElem_cons hi]
  simp only [firstL]
  rw [if_pos hp]

set_option maxHeartbeats 2000000 in
theorem clone_any (A : Option Addr) (n c : Nat) (l : List Sp) (w : World) (hn : l.length = n) (hm : n ≤ 1000000) (hs : SpAt w w.heap.size A l) :
    Calls Tryd.prog 33 #[.slice A n c] w fun e w' => ∃ v, e = .returned v ∧ OwnS w' w.heap.size v l ∧ Below w.heap.size w w' := by
  subst hn
  have q : ∀ (w : World) (a : Option Addr) (n c n' c' : Nat), (binOp .eql 26 (.slice a n c) (.slice none n' c')).run Tryd.prog w = .ok (.bool a.isNone) w := fun w a n c n' c' => Lib.run_eql_slice_nil w _ _ a n c n' c' Tryd.underlying26
  have HS := Lib.hid hs
  clear hs
  cases A with
  | none =>
    have hl : l = [] := by
      rcases Nat.eq_zero_or_pos l.length with h0 | h0
      · exact List.eq_nil_of_length_eq_zero h0
      · obtain ⟨_, _, e, _⟩ := HS.out h0; cases e
    subst hl
    go_enter Tryd.func33, Tryd.ntmps33
    go_wp2
    go_ret
    exact ⟨_, rfl, World.ownsRow_nil _ _ _ _, Below.refl _ _⟩
  | some ad =>
    go_enter Tryd.func33, Tryd.ntmps33
    go_wp2_with (at_builtin; refine app_spans _ (by rfl) _ _ (by rfl) w.heap.size _ [] l (by rfl) (OwnS.nil_at w _ (Nat.le_refl _)) w.heap.size (some ad) c (by rfl) (HS.out.below (by go_grown) (Nat.le_refl _)) (by simp; omega) (by simp) ?_; intro v1 w1 hown1 hgrow; have B1 : Below w.heap.size w w1 := below_app_same (by go_grown) (by simp) (OwnS.nil_at w _ (Nat.le_refl _)) hgrow; clear hgrow)
    go_ret
    exact ⟨_, rfl, by simpa using hown1, B1⟩

set_option maxHeartbeats 2000000 in
/-- a copy of a set's spans -/
theorem Spans_any (A : Option Addr) (n c : Nat) (l : List Sp) (w : World) (hn : l.length = n) (hm : n ≤ 1000000) (hs : SpAt w w.heap.size A l) :
    Calls Tryd.prog 13 #[.agg #[.slice A n c]] w fun e w' => ∃ v, e = .returned v ∧ IsSp w' v l ∧ Below w.heap.size w w' := by
  have HC := fun W (hW : Ext w W) => clone_any A n c l W hn hm (hs.below hW hW.size)
  clear hs hn
  go_enter Tryd.func13, Tryd.ntmps13
  go_wp2_with (go_at_call 33; refine (HC _ (by go_grown)).mono ?_; rintro e w1 ⟨v, rfl, hown, hb1⟩; have B1 := bel (w := w) (by go_grown) hb1; have HO := Lib.hid (IsSp.own hown); clear hb1 hown HC)
  go_ret
  exact ⟨_, rfl, HO.out, B1⟩

end Go.Proofs.YthbjhpfgfpkppaaDoor.Rg
