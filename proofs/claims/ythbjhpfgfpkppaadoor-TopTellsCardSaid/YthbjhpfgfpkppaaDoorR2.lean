/-
  A box of two cells.
-/
import Derived.Test.YthbjhpfgfpkppaaDoorR1
namespace Go.Proofs.YthbjhpfgfpkppaaDoor
open Go Go.RowKit

/-- a block of two cells -/
def Twin (W : World) (B : Nat) (t : TypeId) (u v : Value) : Prop := W.heap[B]? = some (.cells #[u, v] t (0, 0))
theorem Twin.lt {W : World} {B : Nat} {t : TypeId} {u v : Value} (h : Twin W B t u v) : B < W.heap.size := (Array.getElem?_eq_some_iff.1 h).1
theorem Twin.c0 {W : World} {B : Nat} {t : TypeId} {u v : Value} (h : Twin W B t u v) : W.cell? ⟨B, 0, none⟩ = some u := by simp [World.cell?, show W.heap[B]? = _ from h]
theorem Twin.c1 {W : World} {B : Nat} {t : TypeId} {u v : Value} (h : Twin W B t u v) : W.cell? ⟨B, 1, none⟩ = some v := by simp [World.cell?, show W.heap[B]? = _ from h]
theorem Twin.ext {W W' : World} {B : Nat} {t : TypeId} {u v : Value} (h : Twin W B t u v) (e : Ext W W') : Twin W' B t u v := (e.block B h.lt).trans h
theorem Twin.kept {W W' : World} {row : Option Nat} {B : Nat} {t : TypeId} {u v : Value} (h : Twin W B t u v) (hg : W.grownBy W' row) (hne : some B ≠ row) : Twin W' B t u v := (hg.block B h.lt hne).trans h
theorem Twin.alloc {W : World} {B : Nat} {t : TypeId} {u v : Value} (h : Twin W B t u v) (o : Obj) : Twin (W.alloc o) B t u v := h.kept (World.grownBy_alloc W o none) (by simp)
theorem Twin.other {W : World} {B B' : Nat} {t : TypeId} {u v : Value} (h : Twin W B t u v) (hne : B ≠ B') (x : Value) : Twin (W.setCell ⟨B', 0, none⟩ x) B t u v := h.kept (grownBy_setCell' W B' x) (fun e => hne (by cases e; rfl))
theorem Twin.new (W : World) (t : TypeId) (u v : Value) : Twin (W.alloc (.cells #[u, v] t)) W.heap.size t u v := heap_alloc_new W _
theorem Twin.own {β : Type} (B : Nat) (t : TypeId) (f g : β → Value) : Own (fun s W => Twin W B t (f s) (g s)) := fun s X Y row hs hg hrow =>
  hs.kept hg (fun e' => by obtain ⟨o, ho, hc⟩ := hrow B e'.symm; rw [show X.heap[B]? = _ from hs] at ho; cases ho; cases hc)
theorem Twin.not_row {W : World} {B : Nat} {t e : TypeId} {u u' : Value} (h : Twin W B t u u') (hte : t ≠ e) {base size k : Nat} {v : Value} {xs : List Value} (hr : W.ownsRow base e size v k xs) : some B ≠ v.ownBlock := by
  rcases hr.2 with ⟨rfl, _⟩ | ⟨g, cap, cur, rfl, _, hgb, _⟩
  · simp [Value.ownBlock]
  · intro e'
    obtain rfl : B = g := by simpa [Value.ownBlock] using e'
    have := (show W.heap[B]? = _ from h).symm.trans hgb
    simp at this
    exact hte this.2
theorem keeps_ext {W W' : World} (h : Ext W W') : KeepsOthers W W' := ⟨h.size, fun k _ hk _ => (h.block k (Array.getElem?_eq_some_iff.1 hk).1).trans hk⟩
theorem heap_new' (w : World) (o : Obj) {k : Nat} (h : w.heap.size = k) : (w.alloc o).heap[k]? = some o := by subst h; exact heap_alloc_new w o
end Go.Proofs.YthbjhpfgfpkppaaDoor
