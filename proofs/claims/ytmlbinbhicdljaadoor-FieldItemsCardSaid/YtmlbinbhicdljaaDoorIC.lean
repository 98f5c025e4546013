/-
  The statement's own lists of the program's items; a telling that is cut off.
-/
import Derived.Test.YtmlbinbhicdljaaDoorIB
namespace Go.Proofs.YtmlbinbhicdljaaDoor
open Go Go.RowKit

/-- all blocks ahead of B, but p, are as they were -/
structure ButB (B p : Nat) (W W' : World) : Prop where
  os : W'.os = W.os
  tape : W'.tape = W.tape
  output : W'.output = W.output
  size : W.heap.size ≤ W'.heap.size
  block : ∀ i, i < B → i ≠ p → W'.heap[i]? = W.heap[i]?
theorem ButB.rf (B p : Nat) (W : World) : ButB B p W W := ⟨rfl, rfl, rfl, Nat.le_refl _, fun _ _ _ => rfl⟩
theorem ButB.tr {B p : Nat} {a b c : World} (h : ButB B p a b) (k : ButB B p b c) : ButB B p a c :=
  ⟨k.os.trans h.os, k.tape.trans h.tape, k.output.trans h.output, Nat.le_trans h.size k.size, fun i hi hne => (k.block i hi hne).trans (h.block i hi hne)⟩
theorem ButB.of {B p : Nat} {a b : World} (h : Below B a b) : ButB B p a b := ⟨h.os, h.tape, h.output, h.size, fun i hi _ => h.block i hi⟩
theorem ButB.set (B p : Nat) (W : World) (v : Value) : ButB B p W (W.setCell ⟨p, 0, none⟩ v) := ⟨rfl, rfl, rfl, by simp, fun k _ hk => Below.heap_setCell _ _ _ k (fun e => hk (by rw [e]))⟩
/-- a variable of one cell -/
def Box (W : World) (p : Nat) (t : TypeId) (v : Value) : Prop := W.heap[p]? = some (.cells #[v] t (0, 0))
theorem Box.lt {W : World} {p : Nat} {t : TypeId} {v : Value} (h : Box W p t v) : p < W.heap.size := (Array.getElem?_eq_some_iff.1 h).1
theorem Box.cell {W : World} {p : Nat} {t : TypeId} {v : Value} (h : Box W p t v) : W.cell? ⟨p, 0, none⟩ = some v := by simp [World.cell?, show W.heap[p]? = _ from h]
theorem Box.free {W : World} {p : Nat} {t : TypeId} {v : Value} (h : Box W p t v) : W.frozen? ⟨p, 0, none⟩ = false := by simp [World.frozen?, show W.heap[p]? = _ from h]
theorem Box.ext {W W' : World} {p : Nat} {t : TypeId} {v : Value} (h : Box W p t v) (e : Ext W W') : Box W' p t v := (e.block p h.lt).trans h
theorem Box.new (W : World) (t : TypeId) (v : Value) : Box (W.alloc (.cells #[v] t)) W.heap.size t v := heap_alloc_new W _
theorem Box.set {W : World} {p : Nat} {t : TypeId} {v : Value} (v' : Value) (h : Box W p t v) : Box (W.setCell ⟨p, 0, none⟩ v') p t v' := by
  obtain ⟨hlt, hk⟩ := Array.getElem?_eq_some_iff.1 h
  show (W.heap.modify p _)[p]? = _
  rw [Array.getElem?_eq_getElem (by rw [Array.size_modify]; exact hlt), Array.getElem_modify_self, hk]
  rfl
/-- what a row of the call's own reads as, and where it lies -/
theorem OwnX.where_ {w : World} {base : Nat} {v : Value} {l : List ByteArray} (h : OwnX w base v l) : ∃ A c, v = .slice A l.length c ∧ (0 < l.length → ∃ g, A = some ⟨g, 0, none⟩ ∧ base ≤ g ∧ g < w.heap.size ∧ ∀ j (h : j < l.length), w.cell? ⟨g, 0 + j, none⟩ = some (.string l[j])) := by
  rcases Nat.eq_zero_or_pos l.length with h0 | h0
  · obtain ⟨A, c, e, _, _⟩ := IsTx.own h
    exact ⟨A, c, e, fun q => by omega⟩
  · obtain ⟨g, cap, rfl, hg, hlt⟩ := h.form h0
    refine ⟨_, cap, rfl, fun _ => ⟨g, rfl, hg, hlt, fun j hj => ?_⟩⟩
    rw [Nat.zero_add, h.cellAt j (by omega)]
    exact flatX_get l j hj

set_option maxHeartbeats 4000000 in
theorem items_clo (B p : Nat) (x : ByteArray) (acc : List ByteArray) (v : Value) (W : World) (hal : acc.length ≤ 20000) (hp : Box W p 29 v) (hpB : p < B) (hB : B ≤ W.heap.size) (hown : OwnX W B v acc) :
    Calls Tryd.prog 40 #[.string x, .pointer (some ⟨p, 0, none⟩)] W fun e w' => e = .returned (.bool true) ∧ ∃ v', Box w' p 29 v' ∧ OwnX w' B v' (acc ++ [x]) ∧ ButB B p W w' := by
  have hp0 := hp.cell
  have hpz := hp.lt
  obtain ⟨A1, n1, c1, hv, HN1, hc1, -⟩ := (IsTx.own hown).split
  subst hv
  have HP := Lib.hid hp
  have tok : True := trivial
  clear hp
  go_enter Tryd.func40, Tryd.ntmps40
  go_wp2_with (at_builtin; have _t := tok; refine app_tx_at W W.heap.size rfl (by rfl) _ _ (by rfl) B _ acc x (by rfl) hown (by rfl) (by omega) hB ?_; intro v6 w6 hown6 hgrow; have B6 : Below B W w6 := below_app (Below.refl _ _) hB hown hgrow; clear hgrow tok; obtain ⟨A6, n6, c6, hv6, HN6, hc6, -⟩ := (IsTx.own hown6).split; subst hv6; have q0 : w6.cell? ⟨p, 0, none⟩ = some (.slice A1 n1 c1) := (B6.cell (p := ⟨p, 0, none⟩) hpB).trans hp0; have q1 : w6.frozen? ⟨p, 0, none⟩ = false := (B6.frozen (p := ⟨p, 0, none⟩) hpB).trans HP.out.free; have q2 : p < w6.heap.size := Nat.lt_of_lt_of_le hpz B6.size; have hn6 : n6 ≤ 20001 := (by have := HN6.out; rw [List.length_append, List.length_singleton] at this; omega); have e6 : ((n6 : Int) < 100000) = True := eq_true (by omega); have HB6 : Hid (Box w6 p 29 (.slice A1 n1 c1)) := (B6.block p hpB).trans HP.out)
  go_ret
  exact ⟨rfl, .slice A6 n6 c6, HB6.out.set _, ownsRow_setCell_below hown6 (a := ⟨p, 0, Option.none⟩) hpB _, (ButB.of B6).tr (ButB.set B p _ _)⟩

set_option maxHeartbeats 4000000 in
theorem lawitems_any (A : Option Addr) (n c : Nat) (l : List ByteArray) (w : World) (hn : l.length = n) (hm : n ≤ 60) (hg : xsum l ≤ 10000) (hs : TxAt w w.heap.size A l) :
    Calls Tryd.prog 25 #[.slice A n c] w fun e w' => ∃ v, e = .returned v ∧ OwnX w' w.heap.size v (itemsD l) ∧ Below w.heap.size w w' := by
  have hmf : ∀ (fn : Fn) (first cap : Array Value) (w : World), (Instr.makeFunc fn first cap).run Tryd.prog w = .ok (.func fn first cap) w := fun _ _ _ _ => rfl
  have hb0 : Ext w (w.alloc (.cells #[.slice none 0 0] 29)) := (Below.refl _ _).alloc (Nat.le_refl _) _
  have hI := Items_any A n c l (w.alloc (.cells #[.slice none 0 0] 29)) hn hm hg (hs.below hb0 hb0.size)
  have hbx := Box.new w 29 (.slice none 0 0)
  have hlen : (itemsD l).length ≤ 10060 := by have := itemsD_len l; omega
  clear hs hn hg
  generalize itemsD l = L at *
  go_enter Tryd.func25, Tryd.ntmps25
  go_wp2_with fail
  with_reducible refine hI.mono ?_
  rintro e w1 ⟨b, A2, n2, c2, rfl, hbz, hblt, hbb, hown, hb1⟩
  have bx1 := hbx.ext hb1
  have hz1 : w.heap.size + 1 ≤ w1.heap.size := by have := hb1.size; simpa using this
  have hbz' : w.heap.size + 1 ≤ b := by simpa using hbz
  obtain ⟨A3, c3, he, hrow⟩ := hown.where_
  injection he with e1 e2 e3
  subst e1; subst e3
  have hrun := values_items (fun _ => true) (fun k W => ∃ v, Box W w.heap.size 29 v ∧ OwnX W w1.heap.size v (L.take k) ∧ ButB w1.heap.size w.heap.size w1 W) (.pointer (some ⟨w.heap.size, 0, none⟩)) b A2 n2 c2 L e2.symm (by omega)
    (fun W ⟨v, _, _, h⟩ => by
      have := h.block b hblt (by omega)
      simp only [World.cell?, this, hbb]; rfl)
    (fun k W ⟨v, _, _, h⟩ => fun h0 => by
      obtain ⟨g, rfl, hg1, hg2, hc⟩ := hrow h0
      refine ⟨g, 0, rfl, Nat.lt_of_lt_of_le hg2 h.size, fun j hj => ?_⟩
      have : w.heap.size + 1 ≤ g := by simpa using hg1
      rw [World.cell?_of_block (h.block g hg2 (by omega))]
      exact hc j hj)
    (fun k hk W ⟨v, h1, h2, h3⟩ => (items_clo w1.heap.size w.heap.size L[k] (L.take k) v W (by rw [List.length_take]; omega) h1 (by omega) h3.size h2).mono fun e w' ⟨he, v', k1, k2, k3⟩ => ⟨he, v', k1, by rw [List.take_succ_eq_append_getElem hk]; exact k2, h3.tr k3⟩)
    w1 ⟨_, bx1, World.ownsRow_nil _ _ _ _, ButB.rf _ _ _⟩
  clear hI
  go_wp2_with fail
  with_reducible refine hrun.mono ?_
  rintro e w2 ⟨rfl, r, hr, -, hor, v, h1, h2, h3⟩
  have hrn : r = n2 := by
    rcases hor with h | ⟨_, h⟩
    · exact h
    · cases h
  subst hrn
  have ht : L.take r = L := List.take_of_length_le (by omega)
  rw [ht] at h2
  obtain ⟨A5, n5, c5, hv5, -⟩ := (IsTx.own h2).split
  subst hv5
  have c0 := h1.cell
  have BF : Below w.heap.size w w2 := by
    refine ((hb0.trans (hb1.mono (by simp))).trans ⟨h3.os, h3.tape, h3.output, h3.size, fun i hi => h3.block i (by omega) (by omega)⟩)
  have own5 : OwnX w2 w.heap.size (.slice A5 n5 c5) L := Joins.ownsRow_le h2 (by omega)
  clear hrun hrow h1 h2 h3 hor
  go_wp2_with fail
  go_ret
  exact ⟨_, rfl, own5, BF⟩

set_option maxHeartbeats 2000000 in
theorem some_clo (p q : Nat) (x : ByteArray) (m : Int) (a : Nat) (W : World) (ha : a ≤ 1000000) (hp : Box W p 3 (.int .i64 a)) (hq : W.cell? ⟨q, 0, none⟩ = some (.int .i64 m)) (_hqz : q < W.heap.size) (hpq : q ≠ p) :
    Calls Tryd.prog 27 #[.string x, .pointer (some ⟨p, 0, none⟩), .pointer (some ⟨q, 0, none⟩)] W fun e w' =>
      e = .returned (.bool (decide ((a : Int) + 1 < m))) ∧ w' = W.setCell ⟨p, 0, none⟩ (.int .i64 ((a : Int) + 1)) := by
  have hp0 := hp.cell
  have hpf := hp.free
  have hpz := hp.lt
  clear hp
  go_enter Tryd.func27, Tryd.ntmps27
  go_wp2
  go_ret
  exact ⟨rfl, rfl⟩
end Go.Proofs.YtmlbinbhicdljaaDoor
