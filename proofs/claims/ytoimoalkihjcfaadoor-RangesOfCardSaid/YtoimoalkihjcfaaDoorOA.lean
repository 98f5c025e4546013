/-
  The yield of RangesOf: it gathers the spans that it is told.
-/
import Derived.Test.YtoimoalkihjcfaaDoorSA
import Derived.Test.YtoimoalkihjcfaaDoorLE
namespace Go.Proofs.YtoimoalkihjcfaaDoor
open Go Go.RowKit

/- below B all blocks but one as before -/
structure Low (p B : Nat) (W W' : World) : Prop where
  os : W'.os = W.os
  tape : W'.tape = W.tape
  output : W'.output = W.output
  size : W.heap.size ≤ W'.heap.size
  block : ∀ k, k < B → k ≠ p → W'.heap[k]? = W.heap[k]?
theorem Low.refl (p B : Nat) (W : World) : Low p B W W := ⟨rfl, rfl, rfl, Nat.le_refl _, fun _ _ _ => rfl⟩
theorem Low.tr {p B : Nat} {a b c : World} (h : Low p B a b) (k : Low p B b c) : Low p B a c :=
  ⟨k.os.trans h.os, k.tape.trans h.tape, k.output.trans h.output, Nat.le_trans h.size k.size, fun i hi hne => (k.block i hi hne).trans (h.block i hi hne)⟩
theorem Low.of {p B : Nat} {a b : World} (h : Below B a b) : Low p B a b := ⟨h.os, h.tape, h.output, h.size, fun i hi _ => h.block i hi⟩
theorem Low.set (p B : Nat) (W : World) (v : Value) : Low p B W (W.setCell ⟨p, 0, none⟩ v) := ⟨rfl, rfl, rfl, by simp, fun k _ hk => Below.heap_setCell _ _ _ k hk⟩
theorem Low.cell {p B b o : Nat} {W W' : World} (h : Low p B W W') (hb : b < B) (hne : b ≠ p) : W'.cell? ⟨b, o, none⟩ = W.cell? ⟨b, o, none⟩ := World.cell?_of_block (h.block b hb hne)
theorem Low.below {p B : Nat} {w W W' : World} (h : Below w.heap.size w W) (k : Low p B W W') (hp : w.heap.size ≤ p) (hB : w.heap.size ≤ B) : Below w.heap.size w W' :=
  ⟨k.os.trans h.os, k.tape.trans h.tape, k.output.trans h.output, Nat.le_trans h.size k.size, fun i hi => (k.block i (by omega) (by omega)).trans (h.block i hi)⟩
theorem SpAt.low {p : Nat} {W W' : World} {t : TypeId} {v : Value} {A : Option Addr} {l : List Sp} (h : SpAt W W.heap.size A l) (hp : Box W p t v) (hb : Low p W.heap.size W W') : SpAt W' W'.heap.size A l := fun h0 => by
  obtain ⟨b, o, e, hbb, hc⟩ := h h0
  have hne : b ≠ p := by
    rintro rfl
    have := (hc 0 h0).2
    rw [hp.no] at this; cases this
  exact ⟨b, o, e, Nat.lt_of_lt_of_le hbb hb.size, fun j hj => ⟨(hb.cell hbb hne).trans (hc j hj).1, (hb.cell hbb hne).trans (hc j hj).2⟩⟩
theorem Box.belowB {W W' : World} {p B : Nat} {t : TypeId} {v : Value} (h : Box W p t v) (hp : p < B) (e : Below B W W') : Box W' p t v := (e.block p hp).trans h

set_option maxHeartbeats 4000000 in
set_option maxRecDepth 100000 in
theorem of_clo (p q B : Nat) (x y : Int) (acc : List Sp) (v : Value) (A' : Option Addr) (n' c' : Nat) (W : World) (hB : B ≤ W.heap.size) (hpB : p < B) (hqB : q < B) (hpq : q ≠ p) (ha : acc.length ≤ 1000000)
    (hp : Box W p 22 v) (hown : OwnS W B v acc) (hq : W.cell? ⟨q, 0, none⟩ = some (.slice A' n' c')) :
    Calls Tryd.prog 16 #[.agg #[.int .i64 x, .int .i64 y], .pointer (some ⟨p, 0, none⟩), .pointer (some ⟨q, 0, none⟩)] W fun e w' =>
      e = .returned (.bool (decide ((acc.length : Int) + 1 ≤ (n' : Int)))) ∧ ∃ v', Box w' p 22 v' ∧ OwnS w' B v' (acc ++ [(x, y)]) ∧ Low p B W w' := by
  have hpz : p < W.heap.size := hp.lt
  have hqz : q < W.heap.size := by omega
  obtain ⟨Av, nv, cv, rfl, HLv, hcv, -⟩ := (IsSp.own hown).split
  have hnv : acc.length = nv := HLv.out
  have e1 : Ext W (W.alloc (.cells #[.int .i64 x, .int .i64 y] 33)) := (Below.refl _ _).alloc (Nat.le_refl _) _
  have own1 := Below.own hown e1
  have B1 : Below B W (W.alloc (.cells #[.int .i64 x, .int .i64 y] 33)) := (Below.refl _ _).alloc hB _
  have hp0 := hp.cell
  have HPB := Lib.hid hp
  have HQ := Lib.hid hq
  clear hp hown hq
  go_enter Tryd.func16, Tryd.ntmps16
  go_wp2_with (at_builtin; (refine app_span (W.alloc (.cells #[.int .i64 x, .int .i64 y] 33)) (by rfl) _ _ (by rfl) B _ acc x y (by rfl) own1 (by rw [World.size_alloc]; rfl) (by omega) (Nat.le_trans hB B1.size) ?_; intro v3 w3 hown3 hgrow; have B3 : Below B W w3 := below_app B1 (Nat.le_trans hB B1.size) own1 hgrow; have p3 := HPB.out.belowB hpB B3; have cp3 := p3.cell; have fp3 := p3.free; have cq3 := (B3.cell (p := ⟨q, 0, none⟩) hqB).trans HQ.out; obtain ⟨A3, n3, c3, rfl, HL3, hc3, -⟩ := (IsSp.own hown3).split; have hz3 : p < w3.heap.size ∧ q < w3.heap.size := (by have := B3.size; omega); have HP3 := Lib.hid (p3.set (.slice A3 n3 c3)); have HO3 := Lib.hid (ownsRow_setCell_below hown3 (a := ⟨p, 0, none⟩) hpB (.slice A3 n3 c3)); have HT3 := Lib.hid ((Low.of (p := p) B3).tr (Low.set p B w3 (.slice A3 n3 c3))); clear hgrow own1 p3 hown3))
  go_ret
  have hn3 : n3 = nv + 1 := by have := HL3.out; rw [List.length_append] at this; simp at this; omega
  exact ⟨ret_bool (by subst hn3; simp [hnv]; omega), _, HP3.out, HO3.out, HT3.out⟩
end Go.Proofs.YtoimoalkihjcfaaDoor
