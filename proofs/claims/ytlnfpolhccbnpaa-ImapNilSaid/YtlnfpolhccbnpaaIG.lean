/-
  all, Same, made: a map out of acts.
-/
import Derived.Test.YtlnfpolhccbnpaaIF
namespace Go.Proofs.Ytlnfpolhccbnpaa
open Go Go.RowKit

/-- the reference's runs, the call's own -/
abbrev OwnQ (w : World) (base : Nat) (v : Value) (l : List Rn) : Prop := w.ownsRow base 39 3 v l.length (flatR l)
theorem infoQ : (Try.prog.info? 39).map (fun i => (i.zero, i.size, i.bytes)) = some (some (.agg #[.int .i64 0, .int .i64 0, .int .i64 0]), 3, 24) := by kernel_rfl
theorem RnAt.ownQ {w : World} {base : Nat} {A : Option Addr} {n c : Nat} {l : List Rn} (h : OwnQ w base (.slice A n c) l) : l.length = n ∧ RnAt w w.heap.size A l := by
  rcases h.2 with ⟨e, h0⟩ | ⟨g, cap, cur, e, _, hg, h1, _, h3, h4⟩
  · simp at e
    obtain ⟨rfl, rfl, rfl⟩ := e
    exact ⟨h0, fun hl => by omega⟩
  · simp only [Value.slice.injEq] at e
    obtain ⟨rfl, rfl, rfl⟩ := e
    refine ⟨rfl, fun hl => ⟨g, 0, rfl, (Array.getElem?_eq_some_iff.1 hg).1, fun j hj => ?_⟩⟩
    have hc : ∀ k, k < l.length * 3 → w.cell? ⟨g, k, none⟩ = (flatR l)[k]? := fun k hk => by
      rw [cell_of_row w g k cur _ _ hg, ← h4, List.getElem?_take, if_pos hk]; simp
    obtain ⟨a, b, d⟩ := flatR_get l j hj
    rw [Nat.zero_add, hc _ (by omega), hc _ (by omega), hc _ (by omega)]
    exact ⟨a, b, d⟩
/-- what all's closure keeps: below base all but the variable q as it was -/
structure Kept (w W : World) (q base : Nat) : Prop where
  os : W.os = w.os
  tape : W.tape = w.tape
  output : W.output = w.output
  size : w.heap.size ≤ W.heap.size
  block : ∀ k, k < base → k ≠ q → W.heap[k]? = w.heap[k]?
theorem Kept.rf (w : World) (q base : Nat) : Kept w w q base := ⟨rfl, rfl, rfl, Nat.le_refl _, fun _ _ _ => rfl⟩
theorem Kept.tr {a b c : World} {q base : Nat} (h : Kept a b q base) (k : Kept b c q base) : Kept a c q base :=
  ⟨k.os.trans h.os, k.tape.trans h.tape, k.output.trans h.output, Nat.le_trans h.size k.size, fun i hi hq => (k.block i hi hq).trans (h.block i hi hq)⟩
theorem Kept.ext {a b : World} {q base : Nat} (h : Ext a b) (hb : base ≤ a.heap.size) : Kept a b q base := ⟨h.os, h.tape, h.output, h.size, fun k hk _ => h.block k (by omega)⟩
theorem Kept.grown {a b : World} {q base : Nat} {r : Option Nat} (h : a.grownBy b r) (hb : base ≤ a.heap.size) (hr : ∀ k, r = some k → base ≤ k) : Kept a b q base := ⟨h.os, h.tape, h.output, h.size, fun k hk _ => h.block k (by omega) (fun e => by have := hr k e.symm; omega)⟩
theorem Kept.set {a : World} {q base : Nat} (k : Nat) (v : Value) : Kept a (a.setCell ⟨q, k, none⟩ v) q base := ⟨rfl, rfl, rfl, by simp, fun j _ hj => Below.heap_setCell _ _ _ j hj⟩
theorem RnAt.kept {w W : World} {q base : Nat} {A : Option Addr} {l : List Rn} (h : RnAt w base A l) (k : Kept w W q base) (hb : base ≤ w.heap.size) (hq : ∀ b o, A = some ⟨b, o, none⟩ → b ≠ q) : RnAt W W.heap.size A l := fun h0 => by
  obtain ⟨b, o, e, hlt, hc⟩ := h h0
  refine ⟨b, o, e, by have := k.size; omega, fun j hj => ?_⟩
  have hc' : ∀ off, W.cell? ⟨b, off, none⟩ = w.cell? ⟨b, off, none⟩ := fun off => World.cell?_of_block (k.block b hlt (hq b o e))
  rw [hc', hc', hc']
  exact hc j hj

/-- where all stands behind k runs -/
structure IAll (w w1 : World) (p q : Nat) (A : Option Addr) (n c : Nat) (l : List Rn) (k : Nat) (W : World) : Prop where
  kept : Kept w1 W q w1.heap.size
  row : ∃ A' n' c', Box W q 27 (.slice A' n' c') ∧ OwnQ W w1.heap.size (.slice A' n' c') (l.take k)
theorem IAll.alloc {w w1 : World} {p q : Nat} {A : Option Addr} {n c : Nat} {l : List Rn} {k : Nat} {W : World} (h : IAll w w1 p q A n c l k W) (o : Obj) : IAll w w1 p q A n c l k (W.alloc o) := by
  obtain ⟨hK, A', n', c', h1, h2⟩ := h
  exact ⟨hK.tr (Kept.ext ((Below.refl _ _).alloc (Nat.le_refl _) o) hK.size), A', n', c', h1.ext ((Below.refl _ _).alloc (Nat.le_refl _) o), World.ownsRow.alloc h2 o⟩
theorem ownQ_set {W : World} {base q : Nat} {v : Value} {l : List Rn} (h : OwnQ W base v l) (hq : q < base) (k : Nat) (u : Value) : OwnQ (W.setCell ⟨q, k, none⟩ u) base v l :=
  World.ownsRow.kept h (But.setAt q k W u) (by
    cases hv : v.ownBlock with
    | none => exact .inl rfl
    | some g => exact .inr (fun e => by have := (World.ownsRow.lt h g hv).1; injection e with e; omega))
set_option maxHeartbeats 4000000 in
set_option maxRecDepth 100000 in
theorem all_clo (q base : Nat) (x y z : Int) (A : Option Addr) (n c : Nat) (L : List Rn) (W : World) (hq : Box W q 27 (.slice A n c)) (hown : OwnQ W base (.slice A n c) L) (hqb : q < base) (hb : base ≤ W.heap.size) (hL : L.length ≤ 9000) :
    Calls Try.prog 38 #[.agg #[.int .i64 x, .int .i64 y], .int .i64 z, .pointer (some ⟨q, 0, none⟩)] W fun e w' => e = .returned (.bool true) ∧ ∃ A' n' c', Box w' q 27 (.slice A' n' c') ∧ OwnQ w' base (.slice A' n' c') (L ++ [(x, y, z)]) ∧ Kept W w' q base := by
  obtain ⟨i0, hi, hz0, hz1, hz2⟩ := info_parts infoQ
  have hn := (RnAt.ownQ hown).1
  have hq0 := hq.cell
  have hqf := hq.free
  have hqz := hq.lt
  have E1 : Ext W ((W.alloc (.cells #[.int .i64 x, .int .i64 y] 35)).alloc (.cells #[.int .i64 x, .int .i64 y, .int .i64 z] 39)) := ((Below.refl _ _).alloc (Nat.le_refl _) _).alloc (by simp) _
  have hown2 : OwnQ ((W.alloc (.cells #[.int .i64 x, .int .i64 y] 35)).alloc (.cells #[.int .i64 x, .int .i64 y, .int .i64 z] 39)) base (.slice A n c) L := World.ownsRow.alloc (World.ownsRow.alloc hown _) _
  have HQ := Lib.hid hq; have HW := Lib.hid hown
  obtain ⟨v', w', hr, ho, hgr, _⟩ := run_append_own (P := Try.prog) ((W.alloc (.cells #[.int .i64 x, .int .i64 y] 35)).alloc (.cells #[.int .i64 x, .int .i64 y, .int .i64 z] 39)) base 27 27 39 i0 _ 3 24 Try.underlying27 hi hz0 hz1 hz2 rfl (by omega) _ L.length (flatR L) hown2 ⟨W.heap.size + 1, 0, none⟩ 1 1 [.int .i64 x, .int .i64 y, .int .i64 z] rfl
    (by have h := World.news_of_block (cs := #[.int .i64 x, .int .i64 y, .int .i64 z]) (t := 39) (fr := (0, 0)) (heap_alloc_new (W.alloc (.cells #[.int .i64 x, .int .i64 y] 35)) _); rw [World.size_alloc] at h; exact h) (by simp [Value.oneCell']) (by unfold maxLen; omega) (by omega) (by have := E1.size; omega)
  have hown' : OwnQ w' base v' (L ++ [(x, y, z)]) := by unfold OwnQ; rw [flatR_append, List.length_append]; exact ho
  obtain ⟨A', c', rfl⟩ : ∃ A' c', v' = .slice A' (L.length + 1) c' := by
    rcases ho.2 with ⟨e, h0⟩ | ⟨g', c', _, e, _⟩
    · omega
    · exact ⟨_, c', e⟩
  have hrow : ∀ k, (Value.slice A n c).ownBlock = some k → base ≤ k := fun k hk => (World.ownsRow.lt hown k hk).1
  have K : Kept W w' q base := (Kept.ext E1 hb).tr (Kept.grown hgr (by have := E1.size; omega) hrow)
  have hq' : Box w' q 27 (.slice A n c) := (hq.ext E1).kept hgr (fun e => by have := hrow q e; omega)
  have b0 := hq'.cell
  have b1 := hq'.free
  have HQ' := Lib.hid hq'; have HO' := Lib.hid hown'; have HK := Lib.hid K
  clear hq hown hown2 ho hgr hq' hown' K E1
  subst hn
  have hlt : (L.length : Int) + 1 < 10000 := by omega
  go_enter Try.func38, Try.ntmps38
  go_wp2_with (at_builtin; refine Lib.wpList_append_run _ rfl _ _ _ _ rfl _ _ rfl rfl _ _ hr ?_)
  go_ret
  exact ⟨rfl, A', _, c', HQ'.out.set _, ownQ_set HO'.out hqb _ _, HK.out.tr (Kept.set 0 _)⟩

set_option maxHeartbeats 4000000 in
set_option maxRecDepth 100000 in
/-- all runs that are told, as a list -/
theorem all_any (M : Value) (A : Option Addr) (n c : Nat) (l : List Rn) (w : World) (hM : Lists M w A n c) (hn : l.length = n) (hm : n ≤ 9000) (hs : RnAt w w.heap.size A l) :
    Calls Try.prog 16 #[M] w fun e w' => ∃ A' n' c', e = .returned (.slice A' n' c') ∧ l.length = n' ∧ RnAt w' w'.heap.size A' l ∧ Ext w w' := by
  have hmf : ∀ (fn : Fn) (first cap : Array Value) (w : World), (Instr.makeFunc fn first cap).run Try.prog w = .ok (.func fn first cap) w := fun _ _ _ _ => rfl
  have e1 : Ext w (w.alloc (.cells #[.slice none 0 0] 27)) := (Below.refl _ _).alloc (Nat.le_refl _) _
  have HA := Lib.hid (All_map M A n c l _ (hM.ext e1) hn (by omega) (hs.ext e1))
  have B1 : Hid (Box (w.alloc (.cells #[.slice none 0 0] 27)) w.heap.size 27 (.slice none 0 0)) := Box.new w _ _
  clear hM hs
  go_enter Try.func16, Try.ntmps16
  go_wp2_with (go_at_call 27; refine (Hid.out HA).mono ?_; rintro e w1 ⟨A1, c1, p, rfl, hbox, hown, hp, E1⟩; have HB := Lib.hid hbox; have HO := Lib.hid hown; have BQ := Lib.hid (B1.out.ext E1); have hz1 : w.heap.size < w1.heap.size := (by have := E1.size; simp at this; omega); clear hbox hown)
  have hpl := HB.out.lt
  simp only [World.size_alloc] at hp
  have hrow : ∀ b o, A1 = some ⟨b, o, none⟩ → b ≠ w.heap.size := fun b o e hb => by
    subst e
    have := (World.ownsRow.lt HO.out b rfl).1
    simp at this; omega
  have hI0 : IAll w w1 p w.heap.size A1 n c1 l 0 w1 := ⟨Kept.rf _ _ _, _, _, _, BQ.out, World.ownsRow_nil _ _ _ _⟩
  have hthr := thr_all (fun _ => true) (fun k W => IAll w w1 p w.heap.size A1 n c1 l k W) #[.pointer (some ⟨w.heap.size, 0, none⟩)] p A1 n c1 l hn (by omega)
    (fun k W o h => IAll.alloc h o) (fun W h => by
      have := h.kept.block p hpl (by omega)
      exact (World.cell?_of_block (a := ⟨p, 0, none⟩) this).trans HB.out.cell)
    (fun k W h => (RnAt.own HO.out).2.2.kept h.kept (Nat.le_refl _) hrow) (fun k hk W h => by
      obtain ⟨hK, A2, n2, c2, h1, h2⟩ := h
      have hlk : (l.take k).length = k := by rw [List.length_take]; omega
      refine (all_clo w.heap.size w1.heap.size l[k].1 l[k].2.1 l[k].2.2 A2 n2 c2 (l.take k) W h1 h2 hz1 hK.size (by omega)).mono ?_
      rintro e w' ⟨rfl, A3, n3, c3, g1, g2, g3⟩
      refine ⟨rfl, hK.tr g3, A3, n3, c3, g1, ?_⟩
      rw [List.take_succ_eq_append_getElem hk]
      exact g2) w1 hI0
  have HT := Lib.hid hthr
  have HE := Lib.hid (Ext.tr e1 E1)
  clear hthr hI0 hrow e1 E1
  go_wp2_with (go_at_call 59; refine (Hid.out HT).mono ?_; rintro e w2 ⟨rfl, r, hr1, -, hr2, hI⟩; obtain rfl : r = n := (by rcases hr2 with h | ⟨_, h⟩; exact h; cases h); obtain ⟨hK, A2, n2, c2, h1, h2⟩ := hI; have k0 := h1.cell; have H2 := Lib.hid h2; have HK := Lib.hid hK; clear h1 h2 hK)
  go_ret
  have h2 := H2.out
  rw [List.take_of_length_le (by omega)] at h2
  have hK := HK.out
  have hE := HE.out
  exact ⟨A2, n2, c2, rfl, (RnAt.ownQ h2).1, (RnAt.ownQ h2).2, hK.os.trans hE.os, hK.tape.trans hE.tape, hK.output.trans hE.output, Nat.le_trans hE.size hK.size, fun k hk => (hK.block k (by have := hE.size; omega) (by omega)).trans (hE.block k hk)⟩
end Go.Proofs.Ytlnfpolhccbnpaa
