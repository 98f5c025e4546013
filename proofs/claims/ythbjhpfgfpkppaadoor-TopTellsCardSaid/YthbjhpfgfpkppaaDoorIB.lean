/-
  Variables of one cell; all blocks but some as before; runs in memory, read and owned.
-/
import Derived.Lib.Hide
import Derived.WalkSpells
import Derived.Deep.RegionHeld3
import Derived.Deep.AppendLies
import Derived.Deep.DeepCutAuto
import Derived.Laws.OwnMore
import Derived.Laws.StructEq
import Derived.KernelRfl
import Derived.Test.YthbjhpfgfpkppaaDoorRef01A
import Derived.Test.YthbjhpfgfpkppaaDoorRegion
import Derived.Test.YthbjhpfgfpkppaaDoorIM2
import Derived.Test.YthbjhpfgfpkppaaDoorIS3
namespace Go.Proofs.YthbjhpfgfpkppaaDoor
open Go Go.RowKit

abbrev But (p : Nat) (W W' : World) : Prop := W.grownBy W' (some p)
theorem But.tr {p : Nat} {a b c : World} (h : But p a b) (k : But p b c) : But p a c := grownBy.trans' h k
theorem But.ext {p : Nat} {a b : World} (h : Ext a b) : But p a b := ⟨h.os, h.tape, h.output, h.size, fun i hi _ => h.block i hi⟩
theorem But.setAt (p k : Nat) (W : World) (v : Value) : But p W (W.setCell ⟨p, k, none⟩ v) := ⟨rfl, rfl, rfl, by simp, fun j _ hj => Below.heap_setCell _ _ _ j (fun e => hj (by rw [e]))⟩
/-- a variable of one cell -/
def Box (W : World) (p : Nat) (t : TypeId) (v : Value) : Prop := W.heap[p]? = some (.cells #[v] t (0, 0))
theorem Box.lt {W : World} {p : Nat} {t : TypeId} {v : Value} (h : Box W p t v) : p < W.heap.size := (Array.getElem?_eq_some_iff.1 h).1
theorem Box.cell {W : World} {p : Nat} {t : TypeId} {v : Value} (h : Box W p t v) : W.cell? ⟨p, 0, none⟩ = some v := by simp [World.cell?, show W.heap[p]? = _ from h]
theorem Box.free {W : World} {p : Nat} {t : TypeId} {v : Value} (h : Box W p t v) : W.frozen? ⟨p, 0, none⟩ = false := by simp [World.frozen?, show W.heap[p]? = _ from h]
theorem Box.ext {W W' : World} {p : Nat} {t : TypeId} {v : Value} (h : Box W p t v) (e : Ext W W') : Box W' p t v := (e.block p h.lt).trans h
theorem Box.new (W : World) (t : TypeId) (v : Value) : Box (W.alloc (.cells #[v] t)) W.heap.size t v := heap_alloc_new W _
theorem Box.set {W : World} {p : Nat} {t : TypeId} {v : Value} (v' : Value) (h : Box W p t v) : Box (W.setCell ⟨p, 0, none⟩ v') p t v' := by
  obtain ⟨hlt, hk⟩ := Array.getElem?_eq_some_iff.1 h
  show (W.heap.modify p _)[p]? = _
  rw [Array.getElem?_eq_getElem (by rw [Array.size_modify]; exact hlt), Array.getElem_modify_self, hk]
  rfl
theorem Box.kept {W W' : World} {p : Nat} {r : Option Nat} {t : TypeId} {v : Value} (h : Box W p t v) (g : W.grownBy W' r) (hr : r ≠ some p) : Box W' p t v := (g.block p h.lt (fun e => hr e.symm)).trans h

/-- the cells of runs -/
def flatR (l : List Rn) : List Value := l.flatMap fun x => [.int .i64 x.1, .int .i64 x.2.1, .int .u8 x.2.2]
theorem flatR_cons (x : Rn) (l : List Rn) : flatR (x :: l) = .int .i64 x.1 :: .int .i64 x.2.1 :: .int .u8 x.2.2 :: flatR l := rfl
theorem flatR_append (l m : List Rn) : flatR (l ++ m) = flatR l ++ flatR m := by simp [flatR]
theorem flatR_len : ∀ l : List Rn, (flatR l).length = l.length * 3
  | [] => rfl
  | x :: l => by rw [flatR_cons]; have := flatR_len l; simp; omega
theorem flatR_take : ∀ (l : List Rn) (i : Nat), (flatR l).take (i * 3) = flatR (l.take i)
  | [], i => by simp [flatR]
  | x :: l, 0 => by simp [flatR]
  | x :: l, i + 1 => by
    rw [flatR_cons, show (i + 1) * 3 = i * 3 + 1 + 1 + 1 by omega, List.take_succ_cons, List.take_succ_cons, List.take_succ_cons, List.take_succ_cons, flatR_take l i]
    rfl
theorem flatR_drop : ∀ (l : List Rn) (i : Nat), (flatR l).drop (i * 3) = flatR (l.drop i)
  | [], i => by simp [flatR]
  | x :: l, 0 => by simp [flatR]
  | x :: l, i + 1 => by
    rw [flatR_cons, show (i + 1) * 3 = i * 3 + 1 + 1 + 1 by omega, List.drop_succ_cons, List.drop_succ_cons, List.drop_succ_cons, List.drop_succ_cons, flatR_drop l i]
theorem flatR_get : ∀ (l : List Rn) (j : Nat) (h : j < l.length), (flatR l)[j * 3]? = some (.int .i64 l[j].1) ∧ (flatR l)[j * 3 + 1]? = some (.int .i64 l[j].2.1) ∧ (flatR l)[j * 3 + 2]? = some (.int .u8 l[j].2.2)
  | x :: l, 0, _ => ⟨rfl, rfl, rfl⟩
  | x :: l, j + 1, h => by
    rw [flatR_cons, show (j + 1) * 3 = j * 3 + 1 + 1 + 1 by omega]
    have := flatR_get l j (by simpa using h)
    simpa using this
theorem flatR_one : ∀ (l : List Rn), ∀ u ∈ flatR l, u.oneCell' = true := fun l u hu => by
  obtain ⟨p, _, hp⟩ := List.mem_flatMap.1 hu
  simp at hp
  rcases hp with rfl | rfl | rfl <;> rfl

/-- the call's own runs -/
abbrev OwnR (w : World) (base : Nat) (v : Value) (l : List Rn) : Prop := w.ownsRow base 61 3 v l.length (flatR l)
/-- what a slice of runs reads as, below block B -/
def RnAt (w : World) (B : Nat) (A : Option Addr) (l : List Rn) : Prop :=
  0 < l.length → ∃ b o, A = some ⟨b, o, none⟩ ∧ b < B ∧ ∀ j (h : j < l.length), w.cell? ⟨b, o + j * 3, none⟩ = some (.int .i64 l[j].1) ∧ w.cell? ⟨b, o + j * 3 + 1, none⟩ = some (.int .i64 l[j].2.1) ∧ w.cell? ⟨b, o + j * 3 + 2, none⟩ = some (.int .u8 l[j].2.2)
theorem RnAt.below {w w' : World} {B B' : Nat} {A : Option Addr} {l : List Rn} (h : RnAt w B A l) (hb : Below B w w') (hB : B ≤ B') : RnAt w' B' A l := fun hl => by
  obtain ⟨b, o, e, hlt, hc⟩ := h hl
  refine ⟨b, o, e, by omega, fun j hj => ?_⟩
  rw [hb.cell (p := ⟨b, o + j * 3, none⟩) hlt, hb.cell (p := ⟨b, o + j * 3 + 1, none⟩) hlt, hb.cell (p := ⟨b, o + j * 3 + 2, none⟩) hlt]
  exact hc j hj
theorem RnAt.ext {w w' : World} {A : Option Addr} {l : List Rn} (h : RnAt w w.heap.size A l) (hb : Ext w w') : RnAt w' w'.heap.size A l := h.below hb hb.size
theorem RnAt.own {w : World} {base : Nat} {A : Option Addr} {n c : Nat} {l : List Rn} (h : OwnR w base (.slice A n c) l) : l.length = n ∧ n ≤ c ∧ RnAt w w.heap.size A l := by
  rcases h.2 with ⟨e, h0⟩ | ⟨g, cap, cur, e, _, hg, h1, _, h3, h4⟩
  · simp at e
    obtain ⟨rfl, rfl, rfl⟩ := e
    exact ⟨h0, Nat.le_refl _, fun hl => by omega⟩
  · simp only [Value.slice.injEq] at e
    obtain ⟨rfl, rfl, rfl⟩ := e
    refine ⟨rfl, h1, fun hl => ⟨g, 0, rfl, (Array.getElem?_eq_some_iff.1 hg).1, fun j hj => ?_⟩⟩
    have hc : ∀ k, k < l.length * 3 → w.cell? ⟨g, k, none⟩ = (flatR l)[k]? := fun k hk => by
      rw [cell_of_row w g k cur _ _ hg, ← h4, List.getElem?_take, if_pos hk]; simp
    obtain ⟨a, b, d⟩ := flatR_get l j hj
    rw [Nat.zero_add, hc _ (by omega), hc _ (by omega), hc _ (by omega)]
    exact ⟨a, b, d⟩
theorem OwnR.ext {w W : World} {base : Nat} {v : Value} {l : List Rn} (h : OwnR w base v l) (hb : Ext w W) : OwnR W base v l :=
  World.ownsRow.kept (row := none) h ⟨hb.os, hb.tape, hb.output, hb.size, fun k hk _ => hb.block k hk⟩ (by
    cases hv : v.ownBlock with
    | none => exact .inl rfl
    | some g => exact .inr (by simp))
theorem OwnR.kept' {w W : World} {base : Nat} {v : Value} {l : List Rn} {r : Option Nat} (h : OwnR w base v l) (hg : w.grownBy W r) (hne : ∀ k, v.ownBlock = some k → r ≠ some k) : OwnR W base v l :=
  World.ownsRow.kept h hg (by
    cases hv : v.ownBlock with
    | none => exact .inl rfl
    | some g => exact .inr (fun e => hne g hv e.symm))
/-- a map: its variable, the slice in it, and what that reads as -/
structure MapAt (W : World) (base mb : Nat) (A : Option Addr) (n c : Nat) (l : List Rn) : Prop where
  box : Box W mb 48 (.slice A n c)
  own : OwnR W base (.slice A n c) l
  ne : ∀ k, (Value.slice A n c).ownBlock = some k → k ≠ mb
theorem MapAt.ext {W W' : World} {base mb : Nat} {A : Option Addr} {n c : Nat} {l : List Rn} (h : MapAt W base mb A n c l) (e : Ext W W') : MapAt W' base mb A n c l := ⟨h.box.ext e, h.own.ext e, h.ne⟩
theorem MapAt.len {W : World} {base mb : Nat} {A : Option Addr} {n c : Nat} {l : List Rn} (h : MapAt W base mb A n c l) : l.length = n := (RnAt.own h.own).1
theorem MapAt.cap {W : World} {base mb : Nat} {A : Option Addr} {n c : Nat} {l : List Rn} (h : MapAt W base mb A n c l) : n ≤ c := (RnAt.own h.own).2.1
theorem MapAt.at_ {W : World} {base mb : Nat} {A : Option Addr} {n c : Nat} {l : List Rn} (h : MapAt W base mb A n c l) : RnAt W W.heap.size A l := (RnAt.own h.own).2.2
end Go.Proofs.YthbjhpfgfpkppaaDoor
