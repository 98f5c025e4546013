/-
  Variables of one cell; all blocks but one as before.
-/
import Derived.Test.YthbjhpfgfpkppaaDoorRC
import Derived.Test.YthbjhpfgfpkppaaDoorRegion
namespace Go.Proofs.YthbjhpfgfpkppaaDoor.Rg
open Go Go.RowKit

/- all blocks but one as before -/
abbrev But (p : Nat) (W W' : World) : Prop := W.grownBy W' (some p)
theorem But.tr {p : Nat} {a b c : World} (h : But p a b) (k : But p b c) : But p a c :=
  ⟨k.os.trans h.os, k.tape.trans h.tape, k.output.trans h.output, Nat.le_trans h.size k.size, fun i hi hne => (k.block i (Nat.lt_of_lt_of_le hi h.size) hne).trans (h.block i hi hne)⟩
theorem But.ext {p : Nat} {a b : World} (h : Ext a b) : But p a b := ⟨h.os, h.tape, h.output, h.size, fun i hi _ => h.block i hi⟩
theorem But.set (p : Nat) (W : World) (v : Value) : But p W (W.setCell ⟨p, 0, none⟩ v) := ⟨rfl, rfl, rfl, by simp, fun k _ hk => Below.heap_setCell _ _ _ k (fun e => hk (by rw [e]))⟩
theorem But.cell {p b o : Nat} {W W' : World} (h : But p W W') (hb : b < W.heap.size) (hne : b ≠ p) : W'.cell? ⟨b, o, none⟩ = W.cell? ⟨b, o, none⟩ :=
  World.cell?_of_block (h.block b hb (fun e => hne (Option.some.inj e)))
/-- a variable of one cell -/
def Box (W : World) (p : Nat) (t : TypeId) (v : Value) : Prop := W.heap[p]? = some (.cells #[v] t (0, 0))
theorem Box.lt {W : World} {p : Nat} {t : TypeId} {v : Value} (h : Box W p t v) : p < W.heap.size := (Array.getElem?_eq_some_iff.1 h).1
theorem Box.cell {W : World} {p : Nat} {t : TypeId} {v : Value} (h : Box W p t v) : W.cell? ⟨p, 0, none⟩ = some v := by simp [World.cell?, show W.heap[p]? = _ from h]
theorem Box.free {W : World} {p : Nat} {t : TypeId} {v : Value} (h : Box W p t v) : W.frozen? ⟨p, 0, none⟩ = false := by simp [World.frozen?, show W.heap[p]? = _ from h]
theorem Box.no {W : World} {p k : Nat} {t : TypeId} {v : Value} (h : Box W p t v) : W.cell? ⟨p, k + 1, none⟩ = none := by simp [World.cell?, show W.heap[p]? = _ from h]
theorem Box.ext {W W' : World} {p : Nat} {t : TypeId} {v : Value} (h : Box W p t v) (e : Ext W W') : Box W' p t v := (e.block p h.lt).trans h
theorem Box.new (W : World) (t : TypeId) (v : Value) : Box (W.alloc (.cells #[v] t)) W.heap.size t v := heap_alloc_new W _
theorem Box.set {W : World} {p : Nat} {t : TypeId} {v : Value} (v' : Value) (h : Box W p t v) : Box (W.setCell ⟨p, 0, none⟩ v') p t v' := by
  obtain ⟨hlt, hk⟩ := Array.getElem?_eq_some_iff.1 h
  show (W.heap.modify p _)[p]? = _
  rw [Array.getElem?_eq_getElem (by rw [Array.size_modify]; exact hlt), Array.getElem_modify_self, hk]
  rfl
theorem SpAt.but {p : Nat} {W W' : World} {t : TypeId} {v : Value} {A : Option Addr} {l : List Sp} (h : SpAt W W.heap.size A l) (hp : Box W p t v) (hb : But p W W') : SpAt W' W'.heap.size A l := fun h0 => by
  obtain ⟨b, o, e, hbb, hc⟩ := h h0
  have hne : b ≠ p := by
    rintro rfl
    have := (hc 0 h0).2
    rw [hp.no] at this; cases this
  exact ⟨b, o, e, Nat.lt_of_lt_of_le hbb hb.size, fun j hj => ⟨(hb.cell hbb hne).trans (hc j hj).1, (hb.cell hbb hne).trans (hc j hj).2⟩⟩

theorem ownsRow_lower {W : World} {base base' e size n : Nat} {v : Value} {xs : List Value} (h : W.ownsRow base' e size v n xs) (hb : base ≤ base') : W.ownsRow base e size v n xs :=
  ⟨h.1, h.2.imp id fun ⟨g, c, cur, e1, e2, r⟩ => ⟨g, c, cur, e1, Nat.le_trans hb e2, r⟩⟩
end Go.Proofs.YthbjhpfgfpkppaaDoor.Rg
