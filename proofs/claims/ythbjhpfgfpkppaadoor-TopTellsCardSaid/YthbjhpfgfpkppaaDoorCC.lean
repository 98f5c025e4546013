/-
  Set.Or, Set.And, Set.Less.
-/
import Derived.Test.YthbjhpfgfpkppaaDoorCB
import Derived.Test.YthbjhpfgfpkppaaDoorCBL
namespace Go.Proofs.YthbjhpfgfpkppaaDoor.Rg
open Go Go.RowKit

/-- a row above a base stands above a lower one -/
theorem own_box {w : World} {base p : Nat} {t : TypeId} {u v x : Value} {l : List Sp} (h : OwnS w base v l) (hb : Box w p t u) (ht : t ≠ 31 := by decide) : OwnS (w.setCell ⟨p, 0, none⟩ x) base v l :=
  World.ownsRow.kept (row := some p) h (But.set p w x) (by
    rcases h.2 with ⟨rfl, _⟩ | ⟨g, cap, cur, rfl, _, hg, _⟩
    · exact .inl rfl
    · refine .inr fun e => ?_
      have e : g = p := (by simpa [Value.ownBlock] using e.symm : p = g).symm
      subst e
      have := (show w.heap[g]? = _ from hb).symm.trans hg
      simp at this
      exact ht this.2)

set_option maxHeartbeats 4000000 in
theorem Or_any (A A' : Option Addr) (n n' c c' : Nat) (S T : List Sp) (w : World) (hn : S.length = n) (hn' : T.length = n') (hm : n ≤ 100000) (hm' : n' ≤ 100000) (hS : Canon S) (hT : Canon T) (hs : SpAt w w.heap.size A S) (hs' : SpAt w w.heap.size A' T) :
    Calls Tryd.prog 10 #[.agg #[.slice A n c], .agg #[.slice A' n' c']] w fun e w' => ∃ v, e = .returned (.agg #[v]) ∧ OwnS w' w.heap.size v (keepL 1 S T) ∧ Canon (keepL 1 S T) ∧ (keepL 1 S T).length ≤ 2 * (n + n') ∧ Below w.heap.size w w' := by
  have E0 : Ext w (((w.alloc (.cells #[.slice A n c] 28)).alloc (.cells #[.slice A' n' c'] 28)).alloc (.cells #[.slice none 0 0] 28)) := (((Below.refl _ _).alloc (Nat.le_refl _) _).alloc (by simp) _).alloc (by simp; omega) _
  have b2 : Box (((w.alloc (.cells #[.slice A n c] 28)).alloc (.cells #[.slice A' n' c'] 28)).alloc (.cells #[.slice none 0 0] 28)) (w.heap.size + 1 + 1) 28 (.slice none 0 0) := by
    have h := Box.new ((w.alloc (.cells #[.slice A n c] 28)).alloc (.cells #[.slice A' n' c'] 28)) 28 (.slice none 0 0)
    rw [World.size_alloc, World.size_alloc] at h; exact h
  have HC := combine_or A A' n n' c c' S T _ hn hn' hm hm' hS hT (hs.below E0 E0.size) (hs'.below E0 E0.size)
  clear hs hs' hn hn' hS hT
  go_enter Tryd.func10, Tryd.ntmps10
  go_wp2_with fail
  with_reducible refine HC.mono ?_
  rintro e w1 ⟨v1, rfl, hsp, hca, hle, hb1⟩
  clear HC
  have b2' := b2.ext hb1
  have cz := b2'.cell
  have fz := b2'.free
  have hz := b2'.lt
  obtain ⟨A3, n3, c3, rfl, HL3, hcc3, hs3⟩ := (IsSp.own hsp).split
  have HS3 := Lib.hid (ownsRow_lower (own_box (x := .slice A3 n3 c3) hsp b2') (by have := E0.size; omega : w.heap.size ≤ _))
  have HB2 : Hid (Below w.heap.size w (w1.setCell ⟨w.heap.size + 1 + 1, 0, none⟩ (.slice A3 n3 c3))) := (Ext.tr E0 hb1).setCell (by show w.heap.size ≤ w.heap.size + 1 + 1; omega) _
  clear hs3 hsp b2 b2' E0 hb1
  go_wp2_with fail
  exact bodyPost_ret (v := .agg #[.slice A3 n3 c3]) (by simp [results, Tryd.results10, go_sem, cz]) rfl ⟨.slice A3 n3 c3, rfl, HS3.out, hca, hle, HB2.out⟩
theorem Or_set {W : World} {v u : Value} {a b : List Sp} (h : IsSet W v a) (k : IsSet W u b) (hm : a.length ≤ 100000) (hm' : b.length ≤ 100000) :
    Calls Tryd.prog 10 #[v, u] W fun e w' => ∃ v', e = .returned v' ∧ (∃ s, v' = .agg #[s] ∧ OwnS w' W.heap.size s (keepL 1 a b)) ∧ Canon (keepL 1 a b) ∧ (keepL 1 a b).length ≤ 2 * (a.length + b.length) ∧ Below W.heap.size W w' := by
  obtain ⟨A, n, c, rfl, HN, _, HS, HC⟩ := h.split
  obtain ⟨A', n', c', rfl, HN', _, HS', HC'⟩ := k.split
  refine (Or_any A A' n n' c c' a b W HN.out HN'.out (by have := HN.out; omega) (by have := HN'.out; omega) HC.out HC'.out HS.out HS'.out).mono fun _ _ ⟨v, he, h1, h2, h3, h4⟩ => ⟨_, he, ⟨v, rfl, h1⟩, h2, by rw [HN.out, HN'.out]; exact h3, h4⟩

set_option maxHeartbeats 4000000 in
theorem Less_any (A A' : Option Addr) (n n' c c' : Nat) (S T : List Sp) (w : World) (hn : S.length = n) (hn' : T.length = n') (hm : n ≤ 100000) (hm' : n' ≤ 100000) (hS : Canon S) (hT : Canon T) (hs : SpAt w w.heap.size A S) (hs' : SpAt w w.heap.size A' T) :
    Calls Tryd.prog 7 #[.agg #[.slice A n c], .agg #[.slice A' n' c']] w fun e w' => ∃ v, e = .returned (.agg #[v]) ∧ OwnS w' w.heap.size v (keepL 3 S T) ∧ Canon (keepL 3 S T) ∧ (keepL 3 S T).length ≤ 2 * (n + n') ∧ Below w.heap.size w w' := by
  have E0 : Ext w (((w.alloc (.cells #[.slice A n c] 28)).alloc (.cells #[.slice A' n' c'] 28)).alloc (.cells #[.slice none 0 0] 28)) := (((Below.refl _ _).alloc (Nat.le_refl _) _).alloc (by simp) _).alloc (by simp; omega) _
  have b2 : Box (((w.alloc (.cells #[.slice A n c] 28)).alloc (.cells #[.slice A' n' c'] 28)).alloc (.cells #[.slice none 0 0] 28)) (w.heap.size + 1 + 1) 28 (.slice none 0 0) := by
    have h := Box.new ((w.alloc (.cells #[.slice A n c] 28)).alloc (.cells #[.slice A' n' c'] 28)) 28 (.slice none 0 0)
    rw [World.size_alloc, World.size_alloc] at h; exact h
  have HC := combine_less A A' n n' c c' S T _ hn hn' hm hm' hS hT (hs.below E0 E0.size) (hs'.below E0 E0.size)
  clear hs hs' hn hn' hS hT
  go_enter Tryd.func7, Tryd.ntmps7
  go_wp2_with fail
  with_reducible refine HC.mono ?_
  rintro e w1 ⟨v1, rfl, hsp, hca, hle, hb1⟩
  clear HC
  have b2' := b2.ext hb1
  have cz := b2'.cell
  have fz := b2'.free
  have hz := b2'.lt
  obtain ⟨A3, n3, c3, rfl, HL3, hcc3, hs3⟩ := (IsSp.own hsp).split
  have HS3 := Lib.hid (ownsRow_lower (own_box (x := .slice A3 n3 c3) hsp b2') (by have := E0.size; omega : w.heap.size ≤ _))
  have HB2 : Hid (Below w.heap.size w (w1.setCell ⟨w.heap.size + 1 + 1, 0, none⟩ (.slice A3 n3 c3))) := (Ext.tr E0 hb1).setCell (by show w.heap.size ≤ w.heap.size + 1 + 1; omega) _
  clear hs3 hsp b2 b2' E0 hb1
  go_wp2_with fail
  exact bodyPost_ret (v := .agg #[.slice A3 n3 c3]) (by simp [results, Tryd.results7, go_sem, cz]) rfl ⟨.slice A3 n3 c3, rfl, HS3.out, hca, hle, HB2.out⟩
theorem Less_set {W : World} {v u : Value} {a b : List Sp} (h : IsSet W v a) (k : IsSet W u b) (hm : a.length ≤ 100000) (hm' : b.length ≤ 100000) :
    Calls Tryd.prog 7 #[v, u] W fun e w' => ∃ v', e = .returned v' ∧ (∃ s, v' = .agg #[s] ∧ OwnS w' W.heap.size s (keepL 3 a b)) ∧ Canon (keepL 3 a b) ∧ (keepL 3 a b).length ≤ 2 * (a.length + b.length) ∧ Below W.heap.size W w' := by
  obtain ⟨A, n, c, rfl, HN, _, HS, HC⟩ := h.split
  obtain ⟨A', n', c', rfl, HN', _, HS', HC'⟩ := k.split
  refine (Less_any A A' n n' c c' a b W HN.out HN'.out (by have := HN.out; omega) (by have := HN'.out; omega) HC.out HC'.out HS.out HS'.out).mono fun _ _ ⟨v, he, h1, h2, h3, h4⟩ => ⟨_, he, ⟨v, rfl, h1⟩, h2, by rw [HN.out, HN'.out]; exact h3, h4⟩
end Go.Proofs.YthbjhpfgfpkppaaDoor.Rg
