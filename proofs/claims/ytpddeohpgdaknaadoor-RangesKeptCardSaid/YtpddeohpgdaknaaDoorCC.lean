/-
  Set.Or, Set.And, Set.Less.
-/
import Derived.Test.YtpddeohpgdaknaaDoorCB
namespace Go.Proofs.YtpddeohpgdaknaaDoor
open Go Go.RowKit

set_option maxHeartbeats 4000000 in
theorem Or_any (A A' : Option Addr) (n n' c c' : Nat) (S T : List Sp) (w : World) (hn : S.length = n) (hn' : T.length = n') (hm : n ≤ 100000) (hm' : n' ≤ 100000) (hS : Canon S) (hT : Canon T) (hs : SpAt w w.heap.size A S) (hs' : SpAt w w.heap.size A' T) :
    Calls Tryd.prog 8 #[.agg #[.slice A n c], .agg #[.slice A' n' c']] w fun e w' => ∃ v, e = .returned (.agg #[v]) ∧ IsSp w' v (keepL 1 S T) ∧ Canon (keepL 1 S T) ∧ (keepL 1 S T).length ≤ 2 * (n + n') ∧ Below w.heap.size w w' := by
  have E0 : Ext w (((w.alloc (.cells #[.slice A n c] 26)).alloc (.cells #[.slice A' n' c'] 26)).alloc (.cells #[.slice none 0 0] 26)) := (((Below.refl _ _).alloc (Nat.le_refl _) _).alloc (by simp) _).alloc (by simp; omega) _
  have b2 : Box (((w.alloc (.cells #[.slice A n c] 26)).alloc (.cells #[.slice A' n' c'] 26)).alloc (.cells #[.slice none 0 0] 26)) (w.heap.size + 1 + 1) 26 (.slice none 0 0) := by
    have h := Box.new ((w.alloc (.cells #[.slice A n c] 26)).alloc (.cells #[.slice A' n' c'] 26)) 26 (.slice none 0 0)
    rw [World.size_alloc, World.size_alloc] at h; exact h
  have HC := combine_or A A' n n' c c' S T _ hn hn' hm hm' hS hT (hs.below E0 E0.size) (hs'.below E0 E0.size)
  clear hs hs' hn hn' hS hT
  go_enter Tryd.func8, Tryd.ntmps8
  go_wp2_with fail
  with_reducible refine HC.mono ?_
  rintro e w1 ⟨v1, rfl, hsp, hca, hle, hb1⟩
  clear HC
  have b2' := b2.ext hb1
  have cz := b2'.cell
  have fz := b2'.free
  have hz := b2'.lt
  obtain ⟨A3, n3, c3, rfl, HL3, hcc3, hs3⟩ := hsp.split
  have HS3 := Lib.hid (hs3.but b2' (But.set (w.heap.size + 1 + 1) w1 (.slice A3 n3 c3)))
  have HB2 : Hid (Below w.heap.size w (w1.setCell ⟨w.heap.size + 1 + 1, 0, none⟩ (.slice A3 n3 c3))) := (Ext.tr E0 hb1).setCell (by show w.heap.size ≤ w.heap.size + 1 + 1; omega) _
  clear hs3 hsp b2 b2' E0 hb1
  go_wp2_with fail
  exact bodyPost_ret (v := .agg #[.slice A3 n3 c3]) (by simp [results, Tryd.results8, go_sem, cz]) rfl ⟨.slice A3 n3 c3, rfl, IsSp.mk' HL3.out hcc3 HS3.out, hca, hle, HB2.out⟩
theorem Or_set {W : World} {v u : Value} {a b : List Sp} (h : IsSet W v a) (k : IsSet W u b) (hm : a.length ≤ 100000) (hm' : b.length ≤ 100000) :
    Calls Tryd.prog 8 #[v, u] W fun e w' => ∃ v', e = .returned v' ∧ (IsSet w' v' (keepL 1 a b) ∧ (keepL 1 a b).length ≤ 2 * (a.length + b.length)) ∧ Below W.heap.size W w' := by
  obtain ⟨A, n, c, rfl, HN, _, HS, HC⟩ := h.split
  obtain ⟨A', n', c', rfl, HN', _, HS', HC'⟩ := k.split
  refine (Or_any A A' n n' c c' a b W HN.out HN'.out (by have := HN.out; omega) (by have := HN'.out; omega) HC.out HC'.out HS.out HS'.out).mono fun _ _ ⟨v, he, h1, h2, h3, h4⟩ => ⟨_, he, ⟨⟨v, rfl, h1, h2⟩, by rw [HN.out, HN'.out]; exact h3⟩, h4⟩

end Go.Proofs.YtpddeohpgdaknaaDoor
