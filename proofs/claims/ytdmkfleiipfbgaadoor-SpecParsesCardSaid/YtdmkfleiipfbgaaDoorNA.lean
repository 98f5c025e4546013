/-
  slices.Equal of two lists of spans; Set.Same, Set.Near.
-/
import Derived.Test.YtdmkfleiipfbgaaDoorRX
namespace Go.Proofs.YtdmkfleiipfbgaaDoor
open Go Go.RowKit
set_option maxHeartbeats 4000000 in
theorem Near_any (g : Int) (A : Option Addr) (n c : Nat) (l : List Sp) (w : World) (hn : l.length = n) (hm : n ≤ 1000000) (hca : Canon l) (hs : SpAt w w.heap.size A l) :
    Calls Tryd.prog 51 #[.agg #[.slice A n c], .int .i64 g] w fun e w' => ∃ v, e = .returned (.agg #[v]) ∧ IsSp w' v (closeL g l) ∧ Below w.heap.size w w' := by
  have e0 : Ext w ((w.alloc (.cells #[.slice A n c] 48)).alloc (.cells #[.slice none 0 0] 48)) := ((Below.refl _ _).alloc (Nat.le_refl _) _).alloc (by simp) _
  have HC := closed_n hn g A c _ (by omega) hca.bnd (hs.below e0 e0.size)
  clear hs hn hca
  go_enter Tryd.func51, Tryd.ntmps51
  go_wp2_with fail
  with_reducible refine HC.mono ?_
  rintro e w1 ⟨v1, rfl, hown, hb1⟩
  clear HC
  have cz : w1.cell? ⟨w.heap.size + 1, 0, none⟩ = some (.slice none 0 0) := by rw [hb1.cell (p := ⟨w.heap.size + 1, 0, none⟩) (by simp)]; simp
  have fz : w1.frozen? ⟨w.heap.size + 1, 0, none⟩ = false := by rw [hb1.frozen (p := ⟨w.heap.size + 1, 0, none⟩) (by simp)]; simp
  have hz1 : w.heap.size + 1 < w1.heap.size := (by have := hb1.size; simp only [World.size_alloc] at this; omega)
  obtain ⟨A3, n3, c3, rfl, HN3, hc3, -⟩ := (IsSp.own hown).split
  have B1 : Ext w w1 := e0.tr hb1
  have hsp2 := Lib.hid (IsSp.own (ownsRow_setCell_below hown (a := ⟨w.heap.size + 1, 0, none⟩) (by simp) (.slice A3 n3 c3)))
  have HB2 : Hid (Below w.heap.size w (w1.setCell ⟨w.heap.size + 1, 0, none⟩ (.slice A3 n3 c3))) := B1.setCell (Nat.le_succ _) _
  clear hb1 hown e0
  go_wp2_with fail
  exact bodyPost_ret (v := .agg #[.slice A3 n3 c3]) (by simp [results, Tryd.results51, go_sem, cz]) rfl ⟨.slice A3 n3 c3, rfl, hsp2.out, HB2.out⟩
theorem Near_set {W : World} {v : Value} {l : List Sp} (g : Int) (h : IsSet W v l) (hm : l.length ≤ 1000000) :
    Calls Tryd.prog 51 #[v, .int .i64 g] W fun e w' => ∃ v', e = .returned v' ∧ IsSet w' v' (closeL g l) ∧ Below W.heap.size W w' := by
  obtain ⟨A, n, c, rfl, HN, _, HS, HC⟩ := h.split
  exact (Near_any g A n c l W HN.out (by have := HN.out; omega) HC.out HS.out).mono fun _ _ ⟨v, he, h1, h2⟩ => ⟨_, he, ⟨v, rfl, h1, near_canon g HC.out⟩, h2⟩
end Go.Proofs.YtdmkfleiipfbgaaDoor
