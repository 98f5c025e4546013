/-
  Map.Drop.
-/
import Derived.Test.YthbjhpfgfpkppaaDoorIA2
namespace Go.Proofs.YthbjhpfgfpkppaaDoor
open Go Go.RowKit

theorem mid_first {l : List Rn} {a b : Int} (h : idxA l a < idxB l b) (hn : idxA l a < l.length) : leftA a (midF l a b) = if l[idxA l a].1 < a then [(l[idxA l a].1, a, l[idxA l a].2.2)] else [] := by
  have e : midF l a b = l[idxA l a] :: (l.take (idxB l b)).drop (idxA l a + 1) := by
    unfold midF
    rw [List.drop_eq_getElem_cons (by rw [List.length_take]; omega)]
    rw [List.getElem_take]
  rw [e]; rfl
theorem mid_last {l : List Rn} {a b : Int} (h : idxA l a < idxB l b) (hn : idxB l b - 1 < l.length) : leftB b (midF l a b) = if b < l[idxB l b - 1].2.1 then [(b, l[idxB l b - 1].2.1, l[idxB l b - 1].2.2)] else [] := by
  have hle := idxB_le l b
  have e : (midF l a b).getLast? = some l[idxB l b - 1] := by
    unfold midF
    rw [List.getLast?_eq_getElem?]
    simp only [List.length_drop, List.length_take, List.getElem?_drop]
    rw [List.getElem?_take, if_pos (by omega), show idxA l a + (min (idxB l b) l.length - idxA l a - 1) = idxB l b - 1 by omega, List.getElem?_eq_getElem hn]
  unfold leftB; rw [e]
theorem len_pos {a b : Int} : 0 < lenI a b ↔ 0 ≤ a ∧ a < b ∧ b ≤ 4611686018427387904 := by
  unfold lenI opB rtB
  by_cases h0 : 0 ≤ a <;> by_cases h1 : a ≤ b <;> by_cases h2 : b ≤ 4611686018427387904 <;> by_cases h3 : b = 4611686018427387904 <;> by_cases h4 : a = 4611686018427387904 <;> simp [h0, h1, h2, h3, h4] <;> omega
theorem len_zero {a b : Int} (h : ¬ 0 < lenI a b) : lenI a b = 0 := by
  have : 0 ≤ lenI a b := by
    unfold lenI
    split
    · rename_i h1
      have := rtB_t h1
      split <;> omega
    · omega
  omega
/-- all that was there reads as it did, but a map's variable and its row -/
structure Two (w W : World) (p : Nat) (r : Option Nat) : Prop where
  os : W.os = w.os
  tape : W.tape = w.tape
  output : W.output = w.output
  size : w.heap.size ≤ W.heap.size
  block : ∀ k, k < w.heap.size → k ≠ p → some k ≠ r → W.heap[k]? = w.heap[k]?
theorem Two.ext {w W : World} {p : Nat} {r : Option Nat} (h : Ext w W) : Two w W p r := ⟨h.os, h.tape, h.output, h.size, fun k hk _ _ => h.block k hk⟩
theorem Two.grown {w W : World} {p : Nat} {r : Option Nat} (h : w.grownBy W r) : Two w W p r := ⟨h.os, h.tape, h.output, h.size, fun k hk _ hr => h.block k hk hr⟩
theorem Two.but {w W : World} {p : Nat} {r : Option Nat} (h : But p w W) : Two w W p r := ⟨h.os, h.tape, h.output, h.size, fun k hk hp _ => h.block k hk (fun e => hp (Option.some.inj e))⟩
theorem Two.tr {a b c : World} {p : Nat} {r s : Option Nat} (h : Two a b p r) (k : Two b c p s) (hs : s = r ∨ ∀ g, s = some g → a.heap.size ≤ g) : Two a c p r :=
  ⟨k.os.trans h.os, k.tape.trans h.tape, k.output.trans h.output, Nat.le_trans h.size k.size, fun i hi hp hr => (k.block i (Nat.lt_of_lt_of_le hi h.size) hp (fun e => by
    rcases hs with rfl | hs
    · exact hr e
    · have := hs i e.symm; omega)).trans (h.block i hi hp hr)⟩
theorem Two.below {w W : World} {p B : Nat} {r : Option Nat} (h : Two w W p r) (hB : B ≤ w.heap.size) (hp : B ≤ p) (hr : ∀ k, r = some k → B ≤ k) : Below B w W :=
  ⟨h.os, h.tape, h.output, h.size, fun k hk => h.block k (by omega) (by omega) (fun e => by have := hr k e.symm; omega)⟩
theorem Kin.own {w w0 : World} {r : Option Nat} {v : Value} (h : Kin w r v) (hs : w0.heap.size ≤ w.heap.size) : Kin w0 r v := h.imp id fun ⟨k, e, hk⟩ => ⟨k, e, Nat.le_trans hs hk⟩

/-- what Drop and Put leave -/
def MapPost (base mb : Nat) (A : Option Addr) (n c : Nat) (l : List Rn) (w w' : World) : Prop :=
  ∃ A' n' c', MapAt w' base mb A' n' c' l ∧ Two w w' mb (Value.slice A n c).ownBlock ∧ Kin w (Value.slice A n c).ownBlock (.slice A' n' c')
theorem MapPost.same {base mb : Nat} {A : Option Addr} {n c : Nat} {l : List Rn} {w w' : World} (h : MapAt w base mb A n c l) (e : Ext w w') : MapPost base mb A n c l w w' := ⟨A, n, c, h.ext e, Two.ext e, .inl rfl⟩

set_option maxHeartbeats 1000000 in
theorem drop_none (M : Value) (a b : Int) (w : World) (h : ¬ 0 < lenI a b) :
    Calls Tryd.prog 8 #[M, .agg #[.int .i64 a, .int .i64 b]] w fun e w' => e = .returned (.tuple #[]) ∧ Ext w w' := by
  have h0 := len_zero h
  go_enter Tryd.func8, Tryd.ntmps8
  go_wp2_with (go_at_call 17; with_reducible refine (len_any a b _).mono ?_; rw [h0]; rintro e w1 ⟨rfl, hb1⟩; have B1 : Ext w w1 := bel (by go_grown) hb1; clear hb1)
  exact bodyPost_ret (v := .tuple #[]) (by simp [results, Tryd.results8, go_sem]) rfl ⟨rfl, B1⟩
set_option maxHeartbeats 4000000 in
theorem drop_apart (M : Value) (A : Option Addr) (n c : Nat) (l : List Rn) (a b : Int) (w : World) (hM : Lists M w A n c) (hn : l.length = n) (hbig : n ≤ 1000000) (hg : Good 0 Option.none l) (hs : RnAt w w.heap.size A l) (hp : 0 < lenI a b) (he : idxA l a = idxB l b) :
    Calls Tryd.prog 8 #[M, .agg #[.int .i64 a, .int .i64 b]] w fun e w' => e = .returned (.tuple #[]) ∧ Ext w w' := by
  have hne : ¬ (lenI a b = 0) := by omega
  have e1 : Ext w (w.alloc (.cells #[.int .i64 a, .int .i64 b] 31)) := (Below.refl _ _).alloc (Nat.le_refl _) _
  have HM := Lib.hid (fun W (e : Ext w W) => meeting_any M A n c l a b W (hM.ext e) hn hbig hg (hs.ext e))
  rw [he] at HM
  generalize idxB l b = j at *
  clear hM hs
  have hlen := Lib.hid (fun W => len_any a b W)
  generalize lenI a b = L at *
  go_enter Tryd.func8, Tryd.ntmps8
  go_wp2_with (first
    | (go_at_call 17; with_reducible refine (hlen.out _).mono ?_; rintro e w1 ⟨rfl, hb1⟩; obtain ⟨hc1, hf1⟩ := bcell hb1; have B1 : Ext w w1 := e1.tr hb1; have hz1 : w.heap.size < w1.heap.size := (by have := hb1.size; simp at this; omega); clear hb1)
    | (go_at_call 24; with_reducible refine (HM.out _ B1).mono ?_; rintro e w2 ⟨rfl, hb2⟩; have B2 : Ext w w2 := B1.tr hb2; clear hb2))
  exact bodyPost_ret (v := .tuple #[]) (by simp [results, Tryd.results8, go_sem]) rfl ⟨rfl, B2⟩

theorem own_slice {w : World} {base e size n : Nat} {v : Value} {xs : List Value} (h : w.ownsRow base e size v n xs) : ∃ A m c, v = .slice A m c := by
  rcases h.2 with ⟨e, _⟩ | ⟨g, c, _, e, _⟩
  · exact ⟨_, _, _, e⟩
  · exact ⟨_, _, _, e⟩
theorem grown_ext_own {w0 w W : World} {o : Obj} {v : Value} (hD : Ext w0 w) (hv : ∀ k, v.ownBlock = some k → w0.heap.size ≤ k ∧ True) (h : ((w.alloc o).drew).grownBy W v.ownBlock) : Ext w0 W :=
  ((Ext.tr hD ((Below.refl _ _).alloc (Nat.le_refl _) o)).drew).grown h (by have := hD.size; simp; omega) (fun k hk => (hv k hk).1)
theorem grown_cells {w W : World} {r : Option Nat} {q : Nat} {x y : Value} (h : w.cell? ⟨q, 0, none⟩ = some x ∧ w.cell? ⟨q, 1, none⟩ = some y) (hg : w.grownBy W r) (hr : ∀ k, r = some k → k ≠ q) : W.cell? ⟨q, 0, none⟩ = some x ∧ W.cell? ⟨q, 1, none⟩ = some y :=
  ⟨hg.cell h.1 (fun e => hr q e.symm rfl), hg.cell h.2 (fun e => hr q e.symm rfl)⟩
theorem grown_ext_none {w W : World} {o : Obj} {v : Value} (hv : v.ownBlock = Option.none) (h : ((w.alloc o).drew).grownBy W v.ownBlock) : Ext w W :=
  Ext.tr ((Below.refl _ _).alloc (Nat.le_refl _) o) ⟨h.os, h.tape, h.output, h.size, fun k hk => h.block k hk (by rw [hv]; simp)⟩
theorem pair0 {W : World} {p : Nat} (X Y : Int) (h : (W.cell? ⟨p, 0, none⟩).isSome = true) : ((W.setCell ⟨p, 0, none⟩ (.int .i64 X)).setCell ⟨p, 1, none⟩ (.int .i64 Y)).cell? ⟨p, 0, none⟩ = some (.int .i64 X) := by
  rw [World.cell?_setCell_other _ _ _ _ (by simp)]
  obtain ⟨u, hu⟩ := Option.isSome_iff_exists.1 h
  exact World.cell?_setCell_same _ _ _ hu
theorem pair1 {W : World} {p : Nat} (X Y : Int) (h : (W.cell? ⟨p, 1, none⟩).isSome = true) : ((W.setCell ⟨p, 0, none⟩ (.int .i64 X)).setCell ⟨p, 1, none⟩ (.int .i64 Y)).cell? ⟨p, 1, none⟩ = some (.int .i64 Y) := by
  obtain ⟨u, hu⟩ := Option.isSome_iff_exists.1 h
  exact World.cell?_setCell_same _ _ _ (by rw [World.cell?_setCell_other _ _ _ _ (by simp)]; exact hu)

def Both (W : World) (q : Nat) (y z : Int) : Prop := W.cell? ⟨q, 0, none⟩ = some (.int .i64 y) ∧ W.cell? ⟨q, 1, none⟩ = some (.int .i64 z)
theorem two_new {W : World} {q : Nat} {y z : Int} {t : TypeId} (h : W.heap.size = q) : Both (W.alloc (.cells #[.int .i64 y, .int .i64 z] t)) q y z := by
  subst h
  exact ⟨by simp, by simp⟩
theorem two_old {W : World} {q : Nat} {y z : Int} {o : Obj} (h : Both W q y z) : Both (W.alloc o) q y z := ⟨Lib.cell?_alloc_some o h.1, Lib.cell?_alloc_some o h.2⟩
theorem two_set {W : World} {q : Nat} {y z : Int} (h0 : (W.cell? ⟨q, 0, none⟩).isSome = true) (h1 : (W.cell? ⟨q, 1, none⟩).isSome = true) : Both ((W.setCell ⟨q, 0, none⟩ (.int .i64 y)).setCell ⟨q, 1, none⟩ (.int .i64 z)) q y z := ⟨pair0 y z h0, pair1 y z h1⟩
theorem two_far {W : World} {q p : Nat} {y z : Int} {u v : Value} (hn : p ≠ q) (h : Both W q y z) : Both ((W.setCell ⟨p, 0, none⟩ u).setCell ⟨p, 1, none⟩ v) q y z :=
  ⟨by rw [World.cell?_setCell_far _ _ _ _ (show p ≠ q from hn), World.cell?_setCell_far _ _ _ _ (show p ≠ q from hn)]; exact h.1, by rw [World.cell?_setCell_far _ _ _ _ (show p ≠ q from hn), World.cell?_setCell_far _ _ _ _ (show p ≠ q from hn)]; exact h.2⟩
theorem some_far {W : World} {q p k : Nat} {u v : Value} (hn : p ≠ q) (h : (W.cell? ⟨q, k, none⟩).isSome = true) : (((W.setCell ⟨p, 0, none⟩ u).setCell ⟨p, 1, none⟩ v).cell? ⟨q, k, none⟩).isSome = true := by
  rw [World.cell?_setCell_far _ _ _ _ (show p ≠ q from hn), World.cell?_setCell_far _ _ _ _ (show p ≠ q from hn)]; exact h

set_option maxHeartbeats 16000000 in
set_option maxRecDepth 100000 in
theorem drop_cut (base mb : Nat) (A : Option Addr) (n c : Nat) (l : List Rn) (a b : Int) (w : World) (hm : MapAt w base mb A n c l) (hg : Good 0 Option.none l) (hbig : n ≤ 100000) (hbase : base ≤ w.heap.size) (hp : 0 < lenI a b) (hij : idxA l a < idxB l b) :
    Calls Tryd.prog 8 #[.pointer (some ⟨mb, 0, none⟩), .agg #[.int .i64 a, .int .i64 b]] w fun e w' => e = .returned (.tuple #[]) ∧ MapPost base mb A n c (dropF l a b) w w' := by
  have hab := len_pos.1 hp
  have hne : ¬ (lenI a b = 0) := by omega
  have hln := hm.len
  have hjn := idxB_le l b
  have e1 : Ext w (w.alloc (.cells #[.int .i64 a, .int .i64 b] 31)) := (Below.refl _ _).alloc (Nat.le_refl _) _
  have HM := Lib.hid (fun W (e : Ext w W) => meeting_any (.pointer (some ⟨mb, 0, Option.none⟩)) A n c l a b W ((Lists.map hm.box.cell hm.box.lt).ext e) hln (by omega) hg (hm.at_.ext e))
  have HML := Lib.hid (mid_first hij (by omega))
  have HMR := Lib.hid (mid_last (a := a) hij (by omega))
  have HMG := Lib.hid hm
  obtain ⟨g, o, hA, hgw, hc⟩ := hm.at_ (by omega)
  subst hA
  obtain ⟨x0, x1, x2⟩ := hc (idxA l a) (by omega)
  obtain ⟨y0, y1, y2⟩ := hc (idxB l b - 1) (by omega)
  have hF1 := idxA_behind (a := a) hg l[idxA l a] (by rw [List.mem_drop_iff_getElem]; exact ⟨0, by omega, by simp⟩)
  have hF2 := good_mem hg l[idxA l a] (List.getElem_mem _)
  have hG1 := idxB_ahead (l := l) (b := b) l[idxB l b - 1] (by rw [List.mem_take_iff_getElem]; exact ⟨idxB l b - 1, by omega, rfl⟩)
  have hG2 := good_mem hg l[idxB l b - 1] (List.getElem_mem _)
  have hbox := hm.box.cell
  have hboxl := hm.box.lt
  have HD : Hid (dropF l a b = l.take (idxA l a) ++ (leftA a (midF l a b) ++ leftB b (midF l a b)) ++ l.drop (idxB l b)) := by unfold Hid dropF; simp only [List.append_assoc]
  clear hc hg hm
  generalize dropF l a b = DF at *
  generalize midF l a b = M at *
  generalize l[idxA l a] = F at *
  generalize l[idxB l b - 1] = G at *
  generalize idxA l a = i at *
  generalize idxB l b = j at *
  obtain ⟨f1, f2, f3⟩ := F
  obtain ⟨g1, g2, g3⟩ := G
  simp only at *
  have hlen := Lib.hid (fun x y W => len_any x y W)
  have hij' : ¬ ((i : Int) = (j : Int)) := by omega
  have hiq : (i : Int) < (n : Int) := by omega
  have hjq : (j : Int) - 1 < (n : Int) := by omega
  have hj1 : (0 : Int) ≤ (j : Int) - 1 := by omega
  have hjw : IntKind.i64.wrap ((j : Int) - 1) = (j : Int) - 1 := by rw [IntKind.wrap_i64]; omega
  have hjt : ((j : Int) - 1).toNat = j - 1 := by omega
  have hj5 : (1 : Int) ≤ (j : Int) := by omega
  have hj6 : (j : Int) < (n : Int) + 1 := by omega
  have hj7 : (j : Int) ≤ (n : Int) := by omega
  have hlenab := Lib.hid (fun W => len_any a b W)
  generalize lenI a b = L at *
  go_enter Tryd.func8, Tryd.ntmps8
  go_upto_region 5 with (first
    | (go_at_call 17; with_reducible refine (hlenab.out _).mono ?_; rintro e w1 ⟨rfl, hb1⟩; obtain ⟨hc1, hf1⟩ := bcell hb1; have B1 : Ext w w1 := e1.tr hb1; have D1 := hb1; have S1 : w1.cell? ⟨w.heap.size, 0, none⟩ = some (.int .i64 a) ∧ w1.cell? ⟨w.heap.size, 1, none⟩ = some (.int .i64 b) ∧ w.heap.size < w1.heap.size := (by have := hb1.size; simp at this; refine ⟨?_, ?_, by omega⟩ <;> (rw [hc1 _ _ (by simp)]; simp)); clear hb1 hc1 hf1 hlenab; obtain ⟨s10, s11, s1z⟩ := S1)
    | (go_at_call 24; with_reducible refine (HM.out _ B1).mono ?_; rintro e w2 ⟨rfl, hb2⟩; have B2 : Ext w w2 := B1.tr hb2; have D2 := Ext.tr D1 hb2; have s20 : w2.cell? ⟨w.heap.size, 0, none⟩ = some (.int .i64 a) := (by rw [hb2.cell (p := ⟨w.heap.size, 0, none⟩) s1z]; exact s10); have s21 : w2.cell? ⟨w.heap.size, 1, none⟩ = some (.int .i64 b) := (by rw [hb2.cell (p := ⟨w.heap.size, 1, none⟩) s1z]; exact s11); have s2z : w.heap.size < w2.heap.size := (by have := hb2.size; omega); clear hb2 s10 s11 B1 D1 HM))
  obtain ⟨w0, hw0⟩ : ∃ w0, w0 = w.alloc (.cells #[.int .i64 a, .int .i64 b] 31) := ⟨_, rfl⟩
  have hz0 : w0.heap.size = w.heap.size + 1 := by rw [hw0]; simp
  have hs0 : ∀ W, Ext w0 W → W.cell? ⟨w.heap.size, 0, none⟩ = some (.int .i64 a) ∧ W.cell? ⟨w.heap.size, 1, none⟩ = some (.int .i64 b) := fun W e => by
    rw [e.cell (p := ⟨w.heap.size, 0, none⟩) (by show w.heap.size < _; omega), e.cell (p := ⟨w.heap.size, 1, none⟩) (by show w.heap.size < _; omega), hw0]
    simp
  rw [← hw0] at D2 e1
  have HS0 := Lib.hid hs0
  clear hw0 hs0
  have x20 : w2.cell? ⟨g, o + i * 3, none⟩ = some (.int .i64 f1) := (B2.cell (p := ⟨g, o + i * 3, none⟩) hgw).trans x0
  have x21 : w2.cell? ⟨g, o + i * 3 + 1, none⟩ = some (.int .i64 f2) := (B2.cell (p := ⟨g, o + i * 3 + 1, none⟩) hgw).trans x1
  have m20 : w2.cell? ⟨mb, 0, none⟩ = some (.slice (some ⟨g, o, none⟩) n c) := (B2.cell (p := ⟨mb, 0, none⟩) hboxl).trans hbox
  have hwz := B2.size
  have SK : ∀ W, Ext w2 W → (Ext w2 W ∧ W.cell? ⟨g, o + i * 3, none⟩ = some (.int .i64 f1) ∧ W.cell? ⟨g, o + i * 3 + 1, none⟩ = some (.int .i64 f2) ∧ W.cell? ⟨mb, 0, none⟩ = some (.slice (some ⟨g, o, none⟩) n c) ∧ W.cell? ⟨w.heap.size, 0, none⟩ = some (.int .i64 a)) := fun W e =>
    ⟨e, by rw [e.cell (p := ⟨g, o + i * 3, none⟩) (by show g < _; omega)]; exact x20, by rw [e.cell (p := ⟨g, o + i * 3 + 1, none⟩) (by show g < _; omega)]; exact x21, by rw [e.cell (p := ⟨mb, 0, none⟩) (by show mb < _; omega)]; exact m20, by rw [e.cell (p := ⟨w.heap.size, 0, none⟩) s2z]; exact s20⟩
  have hcut := fun W => cut_any f1 f2 a W
  obtain ⟨X, hX⟩ : ∃ X, X = cutA f1 f2 := ⟨_, rfl⟩
  obtain ⟨Y, hY⟩ : ∃ Y, Y = cutM f1 f2 a := ⟨_, rfl⟩
  obtain ⟨Z, hZ⟩ : ∃ Z, Z = cutZ f1 f2 := ⟨_, rfl⟩
  rw [← hX, ← hY, ← hZ] at hcut
  have HC := Lib.hid hcut
  have HX := Lib.hid hX; have HY := Lib.hid hY
  clear hcut hX hY hZ
  have hzz : ∀ q : Nat, q < q + 1 ∧ q < q + 1 + 1 ∧ q + 1 < q + 1 + 1 := fun q => by omega
  go_cut [6, 7] (fun s6 s7 wx => OwnR wx w0.heap.size s6 [] ∧ s6.ownBlock = Option.none ∧ ∃ p, s7 = .pointer (some ⟨p, 0, none⟩) ∧ p < wx.heap.size ∧ Both wx p X Y ∧ Ext w2 wx)
  case first =>
    --BEGIN a
    (try clear HMG); (try clear HML); (try clear HMR); (try clear HD); (try clear HX); (try clear HY); (try clear hF1); (try clear hF2); (try clear hG1); (try clear hG2); (try clear hlen); (try clear x0); (try clear x1); (try clear x2); (try clear y0); (try clear y1); (try clear y2); (try clear hbox); (try clear HS0); (try clear hbase); (try clear hbig); (try clear hln); (try clear hjn); (try clear hab); (try clear hij); (try clear hij'); (try clear x20); (try clear x21); (try clear m20); (try clear hgw); (try clear hboxl); (try clear B2); (try clear D2); (try clear e1); skip
    go_region_held3 (fun W => Ext w2 W ∧ W.cell? ⟨g, o + i * 3, none⟩ = some (.int .i64 f1) ∧ W.cell? ⟨g, o + i * 3 + 1, none⟩ = some (.int .i64 f2) ∧ W.cell? ⟨mb, 0, none⟩ = some (.slice (some ⟨g, o, none⟩) n c) ∧ W.cell? ⟨w.heap.size, 0, none⟩ = some (.int .i64 a))
      (exact SK _ (by go_grown <;> (first | (dsimp only; omega) | (simp; omega))))
      (first
        | (go_at_call 25; refine (HC.out _).mono ?_; rintro e w9 ⟨rfl, hb9⟩; have X9 : Ext w2 w9 := Ext.tr (by go_grown) hb9; obtain ⟨hc9, hf9⟩ := bcell hb9; (first | have hz9 : w2.heap.size < w9.heap.size ∧ w2.heap.size + 1 < w9.heap.size ∧ w2.heap.size ≠ w9.heap.size ∧ w2.heap.size + 1 ≠ w9.heap.size := (by have := hb9.size; (try simp at this); omega) | have hz9 : w2.heap.size < w9.heap.size ∧ w2.heap.size ≠ w9.heap.size := (by have := hb9.size; (try simp at this); omega) | have hz9 : w2.heap.size ≤ w9.heap.size := (by have := hb9.size; (try simp at this); omega)); clear hb9))
    all_goals
      go_wp2_with fail
      go_meet
      refine ⟨World.ownsRow_nil _ _ _ _, rfl, _, rfl, ?_, ?_, by go_grown <;> (first | (dsimp only; omega) | (simp; omega))⟩
      · first | (simp; done) | (simp; omega)
      · first
        | with_reducible exact two_new (by simp)
        | with_reducible exact two_old (two_new (by simp))
        | with_reducible exact two_set (by rw [hc9 _ _ (by first | (simp; done) | (simp; omega) | omega)]; simp) (by rw [hc9 _ _ (by first | (simp; done) | (simp; omega) | omega)]; simp)
        | with_reducible exact two_old (two_set (by rw [hc9 _ _ (by first | (simp; done) | (simp; omega) | omega)]; simp) (by rw [hc9 _ _ (by first | (simp; done) | (simp; omega) | omega)]; simp))
        | with_reducible exact two_set (some_far (by omega) (by rw [hc9 _ _ (by first | (simp; done) | (simp; omega) | omega)]; simp)) (some_far (by omega) (by rw [hc9 _ _ (by first | (simp; done) | (simp; omega) | omega)]; simp))
        | with_reducible exact two_far (by omega) (two_set (by rw [hc9 _ _ (by first | (simp; done) | (simp; omega) | omega)]; simp) (by rw [hc9 _ _ (by first | (simp; done) | (simp; omega) | omega)]; simp))
    --END a
  case rest =>
    obtain ⟨hs6, hs6n, p, rfl, hpz, ⟨hp0, hp1⟩, E3⟩ := hcut
    have HS6 := Lib.hid hs6; have HS6N := Lib.hid hs6n
    clear hs6 hs6n
    rename World => w3
    have B3 : Ext w w3 := Ext.tr B2 E3
    have m30 : w3.cell? ⟨mb, 0, none⟩ = some (.slice (some ⟨g, o, none⟩) n c) := (B3.cell (p := ⟨mb, 0, none⟩) hboxl).trans hbox
    have hwz3 := B3.size
    have hXY : Hid (0 < lenI X Y ↔ f1 < a) := by
      unfold Hid
      have hr : rtB f1 f2 = true := rtB_mk (by unfold opnI at hF2; omega)
      rw [len_pos, HX.out, HY.out]
      unfold cutA cutM
      rw [if_pos hr, if_pos hr]
      unfold opnI at hF2
      split
      · omega
      · split <;> omega
    have HXF : Hid (X = f1 ∧ (f1 < a → Y = a)) := by
      unfold Hid
      have hr : rtB f1 f2 = true := rtB_mk (by unfold opnI at hF2; omega)
      rw [HX.out, HY.out]
      unfold cutA cutM
      rw [if_pos hr, if_pos hr]
      refine ⟨rfl, fun h => ?_⟩
      rw [if_neg (by omega), if_neg (by omega)]
    clear SK x20 x21 m20 HX HY
    clear hzz
    go_upto_if 39 with (go_at_call 17; with_reducible refine (hlen.out X Y _).mono ?_; rintro e w4 ⟨rfl, hb4⟩; have B4 : Ext w3 w4 := hb4; clear hb4)
    have D3 : Ext w0 w3 := Ext.tr D2 E3
    go_cut [6] (fun s6 wx => OwnR wx w0.heap.size s6 (leftA a M) ∧ (s6.ownBlock = Option.none ↔ (leftA a M).length = 0) ∧ Ext w0 wx)
    case first =>
      --BEGIN b
      by_cases hfa : f1 < a
      · have hpos := hXY.out.2 hfa
        have HLA : Hid (flatR (leftA a M) = [] ++ [.int .i64 X, .int .i64 Y, .int .u8 f3]) := by
          unfold Hid
          rw [HML.out, if_pos hfa, HXF.out.1, HXF.out.2 hfa]
          rfl
        have HLL : Hid ((leftA a M).length = 0 + 1) := by unfold Hid; rw [HML.out, if_pos hfa]; rfl
        have B4' : Ext w w4 := Ext.tr B3 B4
        have D4 : Ext w0 w4 := Ext.tr D3 B4
        have hz4 := D4.size
        have hgt : decide (lenI X Y > 0) = true := by simpa using hpos
        generalize lenI X Y = L2 at *
        have SK : ∀ W, Ext w4 W → (Ext w4 W ∧ W.cell? ⟨p, 0, none⟩ = some (.int .i64 X) ∧ W.cell? ⟨p, 1, none⟩ = some (.int .i64 Y) ∧ W.cell? ⟨mb, 0, none⟩ = some (.slice (some ⟨g, o, none⟩) n c) ∧ W.cell? ⟨g, o + i * 3 + 2, none⟩ = some (.int .u8 f3)) := fun W e => by
          have e4 := Ext.tr B4 e
          have ew := Ext.tr B4' e
          refine ⟨e, ?_, ?_, ?_, ?_⟩
          · rw [e4.cell (p := ⟨p, 0, none⟩) hpz]; exact hp0
          · rw [e4.cell (p := ⟨p, 1, none⟩) hpz]; exact hp1
          · rw [ew.cell (p := ⟨mb, 0, none⟩) hboxl]; exact hbox
          · rw [ew.cell (p := ⟨g, o + i * 3 + 2, none⟩) hgw]; exact x2
        obtain ⟨i0, hi0, hiz, his, hib⟩ := info_parts infoRn
        have hnil : OwnR w4 w0.heap.size u6 [] := OwnR.ext HS6.out B4
        go_wp2
        go_region_held3 (fun W => Ext w4 W ∧ W.cell? ⟨p, 0, none⟩ = some (.int .i64 X) ∧ W.cell? ⟨p, 1, none⟩ = some (.int .i64 Y) ∧ W.cell? ⟨mb, 0, none⟩ = some (.slice (some ⟨g, o, none⟩) n c) ∧ W.cell? ⟨g, o + i * 3 + 2, none⟩ = some (.int .u8 f3))
          (first | exact SK _ (by go_grown) | (exact SK _ X5))
          ((refine step_append_lies _ (by rfl) _ _ _ (by rfl) w0.heap.size 61 i0 _ 3 24 Tryd.underlying46 hi0 hiz his hib rfl (by omega) u6 ([] : List Rn).length (flatR []) (by rfl) ((World.ownsRow.alloc hnil _).drew) ⟨w4.heap.size, 0, none⟩ 1 1 [.int .i64 X, .int .i64 Y, .int .u8 f3] (by rfl) (by rfl) (World.news_of_block (cs := #[.int .i64 X, .int .i64 Y, .int .u8 f3]) (t := 61) (fr := (0, 0)) (heap_alloc_new w4 _)) (by simp [Value.oneCell']) (by omega) (by simp; unfold maxLen; omega) (by simp) (by simp; omega) (w4.heap.size + 1) (by simp) ?_; intro g5 c5 w5 hown5 hgrow5 _ _; have X5 : Ext w4 w5 := grown_ext_none (v := u6) HS6N.out hgrow5; have O5 := Lib.hid hown5; clear hown5 hgrow5))
        go_wp2_with fail
        go_meet
        exact ⟨by unfold OwnR; rw [HLL.out, HLA.out]; exact O5.out, by rw [HLL.out]; simp [Value.ownBlock], Ext.tr D4 X5⟩
      · have hneg : ¬ (lenI X Y > 0) := fun h => hfa (hXY.out.1 h)
        have hgt : decide (lenI X Y > 0) = false := by simpa using hneg
        have HLA : Hid (leftA a M = []) := by unfold Hid; rw [HML.out, if_neg hfa]
        have D4 : Ext w0 w4 := Ext.tr D3 B4
        generalize lenI X Y = L2 at *
        go_wp2
        go_meet
        exact ⟨by rw [HLA.out]; exact OwnR.ext HS6.out B4, by rw [HLA.out, HS6N.out]; simp, D4⟩
      --END b
    case rest =>
      obtain ⟨hO6, hN6, D6⟩ := hcut
      have HO6 := Lib.hid hO6; have HN6 := Lib.hid hN6
      rename World => w6
      have B6 : Ext w w6 := Ext.tr e1 D6
      have y60 : w6.cell? ⟨g, o + (j - 1) * 3, none⟩ = some (.int .i64 g1) := (B6.cell (p := ⟨g, o + (j - 1) * 3, none⟩) hgw).trans y0
      have y61 : w6.cell? ⟨g, o + (j - 1) * 3 + 1, none⟩ = some (.int .i64 g2) := (B6.cell (p := ⟨g, o + (j - 1) * 3 + 1, none⟩) hgw).trans y1
      have m60 : w6.cell? ⟨mb, 0, none⟩ = some (.slice (some ⟨g, o, none⟩) n c) := (B6.cell (p := ⟨mb, 0, none⟩) hboxl).trans hbox
      have s61 : w6.cell? ⟨w.heap.size, 1, none⟩ = some (.int .i64 b) := (HS0.out w6 D6).2
      have hwz6 := B6.size
      have hz06 := D6.size
      have SK : ∀ W, Ext w6 W → (Ext w6 W ∧ W.cell? ⟨g, o + (j - 1) * 3, none⟩ = some (.int .i64 g1) ∧ W.cell? ⟨g, o + (j - 1) * 3 + 1, none⟩ = some (.int .i64 g2) ∧ W.cell? ⟨mb, 0, none⟩ = some (.slice (some ⟨g, o, none⟩) n c) ∧ W.cell? ⟨w.heap.size, 1, none⟩ = some (.int .i64 b)) := fun W e =>
        ⟨e, by rw [e.cell (p := ⟨g, o + (j - 1) * 3, none⟩) (by show g < _; omega)]; exact y60, by rw [e.cell (p := ⟨g, o + (j - 1) * 3 + 1, none⟩) (by show g < _; omega)]; exact y61, by rw [e.cell (p := ⟨mb, 0, none⟩) (by show mb < _; omega)]; exact m60, by rw [e.cell (p := ⟨w.heap.size, 1, none⟩) (by show w.heap.size < _; omega)]; exact s61⟩
      have hcut := fun W => cut_any g1 g2 b W
      obtain ⟨X6, hX⟩ : ∃ X, X = cutA g1 g2 := ⟨_, rfl⟩
      obtain ⟨Y6, hY⟩ : ∃ Y, Y = cutM g1 g2 b := ⟨_, rfl⟩
      obtain ⟨Z6, hZ⟩ : ∃ Z, Z = cutZ g1 g2 := ⟨_, rfl⟩
      rw [← hX, ← hY, ← hZ] at hcut
      have HC6 := Lib.hid hcut
      have hYZ : Hid ((0 < lenI Y6 Z6 ↔ b < g2) ∧ (b < g2 → Y6 = b) ∧ Z6 = g2) := by
        unfold Hid
        have hr : rtB g1 g2 = true := rtB_mk (by unfold opnI at hG2; omega)
        rw [len_pos, hY, hZ]
        unfold cutM cutZ
        rw [if_pos hr, if_pos hr]
        unfold opnI at hG2
        refine ⟨?_, fun h => ?_, rfl⟩
        · rw [if_neg (by omega)]; split <;> omega
        · rw [if_neg (by omega), if_neg (by omega)]
      clear hcut hX hY hZ hO6 hN6 HS6 HS6N HC hp0 hp1 m30 D3 B3 E3
      go_upto_region 8 with (fail)
      have hzz : ∀ q : Nat, q < q + 1 ∧ q < q + 1 + 1 ∧ q + 1 < q + 1 + 1 := fun q => by omega
      go_cut [10] (fun s10 wx => ∃ p, s10 = .pointer (some ⟨p, 0, none⟩) ∧ w6.heap.size ≤ p ∧ p < wx.heap.size ∧ Both wx p Y6 Z6 ∧ Ext w6 wx)
      case first =>
        --BEGIN c
        (try clear HMG); (try clear HML); (try clear HMR); (try clear HD); (try clear HO6); (try clear HN6); (try clear hF1); (try clear hF2); (try clear hG1); (try clear hG2); (try clear hlen); (try clear hYZ); (try clear hXY); (try clear HXF); (try clear x0); (try clear x1); (try clear x2); (try clear y0); (try clear y1); (try clear y2); (try clear hbox); (try clear HS0); (try clear hbase); (try clear hbig); (try clear hln); (try clear hjn); (try clear hab); (try clear hij); (try clear hij'); (try clear y60); (try clear y61); (try clear m60); (try clear s61); (try clear hgw); (try clear hboxl); (try clear B6); (try clear D6); (try clear hwz); (try clear hwz3); (try clear hpz); (try clear D2); (try clear B2); (try clear e1); skip
        go_region_held3 (fun W => Ext w6 W ∧ W.cell? ⟨g, o + (j - 1) * 3, none⟩ = some (.int .i64 g1) ∧ W.cell? ⟨g, o + (j - 1) * 3 + 1, none⟩ = some (.int .i64 g2) ∧ W.cell? ⟨mb, 0, none⟩ = some (.slice (some ⟨g, o, none⟩) n c) ∧ W.cell? ⟨w.heap.size, 1, none⟩ = some (.int .i64 b))
          (exact SK _ (by go_grown <;> (first | (dsimp only; omega) | (simp; omega))))
          (first
            | (go_at_call 25; refine (HC6.out _).mono ?_; rintro e w9 ⟨rfl, hb9⟩; have X9 : Ext w6 w9 := Ext.tr (by go_grown) hb9; obtain ⟨hc9, hf9⟩ := bcell hb9; (first | have hz9 : w6.heap.size < w9.heap.size ∧ w6.heap.size + 1 < w9.heap.size ∧ w6.heap.size ≠ w9.heap.size ∧ w6.heap.size + 1 ≠ w9.heap.size := (by have := hb9.size; (try simp at this); omega) | have hz9 : w6.heap.size < w9.heap.size ∧ w6.heap.size ≠ w9.heap.size := (by have := hb9.size; (try simp at this); omega) | have hz9 : w6.heap.size ≤ w9.heap.size := (by have := hb9.size; (try simp at this); omega)); clear hb9))
        all_goals
          go_wp2_with fail
          go_meet
          refine ⟨_, rfl, ?_, ?_, ?_, by go_grown <;> (first | (dsimp only; omega) | (simp; omega))⟩
          · first | omega | (simp; done) | (simp; omega)
          · first | (simp; done) | (simp; omega)
          · first
            | with_reducible exact two_new (by simp)
            | with_reducible exact two_old (two_new (by simp))
            | with_reducible exact two_set (by rw [hc9 _ _ (by first | (simp; done) | (simp; omega) | omega)]; simp) (by rw [hc9 _ _ (by first | (simp; done) | (simp; omega) | omega)]; simp)
            | with_reducible exact two_old (two_set (by rw [hc9 _ _ (by first | (simp; done) | (simp; omega) | omega)]; simp) (by rw [hc9 _ _ (by first | (simp; done) | (simp; omega) | omega)]; simp))
            | with_reducible exact two_set (some_far (by omega) (by rw [hc9 _ _ (by first | (simp; done) | (simp; omega) | omega)]; simp)) (some_far (by omega) (by rw [hc9 _ _ (by first | (simp; done) | (simp; omega) | omega)]; simp))
            | with_reducible exact two_far (by omega) (two_set (by rw [hc9 _ _ (by first | (simp; done) | (simp; omega) | omega)]; simp) (by rw [hc9 _ _ (by first | (simp; done) | (simp; omega) | omega)]; simp))
        --END c
      case rest =>
        obtain ⟨q, rfl, hq6, hqz, ⟨hq0, hq1⟩, E7⟩ := hcut
        rename World => w7
        have D7 : Ext w0 w7 := Ext.tr D6 E7
        have B7 : Ext w w7 := Ext.tr B6 E7
        clear hzz SK y60 y61 m60 s61 HC6
        go_upto_if 70 with (go_at_call 17; with_reducible refine (hlen.out Y6 Z6 _).mono ?_; rintro e w8 ⟨rfl, hb8⟩; have B8 : Ext w7 w8 := hb8; clear hb8)
        go_cut [6] (fun s6 wx => OwnR wx w0.heap.size s6 (leftA a M ++ leftB b M) ∧ (s6.ownBlock = Option.none ↔ (leftA a M ++ leftB b M).length = 0) ∧ Ext w0 wx)
        case first =>
          --BEGIN d
          have D8 : Ext w0 w8 := Ext.tr D7 B8
          have W8 : Ext w w8 := Ext.tr B7 B8
          by_cases hbg : b < g2
          · have hpos := hYZ.out.1.2 hbg
            have HLB : Hid (flatR (leftA a M ++ leftB b M) = flatR (leftA a M) ++ [.int .i64 Y6, .int .i64 Z6, .int .u8 g3]) := by
              unfold Hid
              rw [flatR_append, HMR.out, if_pos hbg, hYZ.out.2.1 hbg, hYZ.out.2.2]
              rfl
            have HLL : Hid ((leftA a M ++ leftB b M).length = (leftA a M).length + 1) := by unfold Hid; rw [List.length_append, HMR.out, if_pos hbg]; rfl
            have hz8 := D8.size
            have hla := leftA_len a M
            have hgt : decide (lenI Y6 Z6 > 0) = true := by simpa using hpos
            generalize lenI Y6 Z6 = L2 at *
            have hown8 : OwnR w8 w0.heap.size u6 (leftA a M) := OwnR.ext (OwnR.ext HO6.out E7) B8
            have hub : Hid (∀ k, u6.ownBlock = some k → w0.heap.size ≤ k ∧ k ≠ q) := fun k hk => ⟨(World.ownsRow.lt HO6.out k hk).1, by have := (World.ownsRow.lt HO6.out k hk).2; omega⟩
            have SK : ∀ W, Ext w W → (W.cell? ⟨q, 0, none⟩ = some (.int .i64 Y6) ∧ W.cell? ⟨q, 1, none⟩ = some (.int .i64 Z6)) → (Ext w W ∧ W.cell? ⟨q, 0, none⟩ = some (.int .i64 Y6) ∧ W.cell? ⟨q, 1, none⟩ = some (.int .i64 Z6) ∧ W.cell? ⟨mb, 0, none⟩ = some (.slice (some ⟨g, o, none⟩) n c) ∧ W.cell? ⟨g, o + (j - 1) * 3 + 2, none⟩ = some (.int .u8 g3)) := fun W ew hq => by
              refine ⟨ew, hq.1, hq.2, ?_, ?_⟩
              · rw [ew.cell (p := ⟨mb, 0, none⟩) hboxl]; exact hbox
              · rw [ew.cell (p := ⟨g, o + (j - 1) * 3 + 2, none⟩) hgw]; exact y2
            have QK : ∀ W, Ext w8 W → (W.cell? ⟨q, 0, none⟩ = some (.int .i64 Y6) ∧ W.cell? ⟨q, 1, none⟩ = some (.int .i64 Z6)) := fun W e8 => by
              have e7 := Ext.tr B8 e8
              exact ⟨by rw [e7.cell (p := ⟨q, 0, none⟩) hqz]; exact hq0, by rw [e7.cell (p := ⟨q, 1, none⟩) hqz]; exact hq1⟩
            obtain ⟨i0, hi0, hiz, his, hib⟩ := info_parts infoRn
            go_wp2
            go_region_held3 (fun W => Ext w W ∧ W.cell? ⟨q, 0, none⟩ = some (.int .i64 Y6) ∧ W.cell? ⟨q, 1, none⟩ = some (.int .i64 Z6) ∧ W.cell? ⟨mb, 0, none⟩ = some (.slice (some ⟨g, o, none⟩) n c) ∧ W.cell? ⟨g, o + (j - 1) * 3 + 2, none⟩ = some (.int .u8 g3))
              (first | exact SK _ X5 Q5 | exact SK _ (Ext.tr W8 (by go_grown)) (QK _ (by go_grown)))
              ((refine step_append_lies _ (by rfl) _ _ _ (by rfl) w0.heap.size 61 i0 _ 3 24 Tryd.underlying46 hi0 hiz his hib rfl (by omega) u6 (leftA a M).length (flatR (leftA a M)) (by rfl) ((World.ownsRow.alloc hown8 _).drew) ⟨w8.heap.size, 0, none⟩ 1 1 [.int .i64 Y6, .int .i64 Z6, .int .u8 g3] (by rfl) (by rfl) (World.news_of_block (cs := #[.int .i64 Y6, .int .i64 Z6, .int .u8 g3]) (t := 61) (fr := (0, 0)) (heap_alloc_new w8 _)) (by simp [Value.oneCell']) (by omega) (by unfold maxLen; omega) (by omega) (by simp; omega) (w8.heap.size + 1) (by simp) ?_; intro g5 c5 w5 hown5 hgrow5 _ _; have Y5 : Ext w0 w5 := grown_ext_own D8 (fun k hk => ⟨(hub.out k hk).1, trivial⟩) hgrow5; have X5 : Ext w w5 := Ext.tr e1 Y5; have Q5 : (w5.cell? ⟨q, 0, none⟩ = some (.int .i64 Y6) ∧ w5.cell? ⟨q, 1, none⟩ = some (.int .i64 Z6)) := grown_cells (QK _ (by go_grown)) hgrow5 (fun k hk => (hub.out k hk).2); have O5 := Lib.hid hown5; clear hown5 hgrow5))
            go_wp2_with fail
            go_meet
            exact ⟨by unfold OwnR; rw [HLL.out, HLB.out]; exact O5.out, by rw [HLL.out]; simp [Value.ownBlock], Y5⟩
          · have hneg : ¬ (lenI Y6 Z6 > 0) := fun h => hbg (hYZ.out.1.1 h)
            have hgt : decide (lenI Y6 Z6 > 0) = false := by simpa using hneg
            have HLB : Hid (leftA a M ++ leftB b M = leftA a M) := by unfold Hid; rw [HMR.out, if_neg hbg, List.append_nil]
            generalize lenI Y6 Z6 = L2 at *
            go_wp2
            go_meet
            exact ⟨by rw [HLB.out]; exact OwnR.ext (OwnR.ext HO6.out E7) B8, by rw [HLB.out]; exact HN6.out, D8⟩
          --END d
        case rest =>
          obtain ⟨hO9, hN9, D9⟩ := hcut
          clear HO6 HN6
          rename World => w10
          have B10 : Ext w w10 := Ext.tr e1 D9
          have M10 := Lib.hid (HMG.out.ext B10)
          have box10 := M10.out.box.cell
          have hll2 : (leftA a M ++ leftB b M).length ≤ 2 := by have := leftA_len a M; have := leftB_len b M; rw [List.length_append]; omega
          obtain ⟨LAB, hLAB⟩ : ∃ LAB, LAB = leftA a M ++ leftB b M := ⟨_, rfl⟩
          rw [← hLAB] at hO9 hN9 HD hll2
          clear hLAB
          obtain ⟨A6, c6, rfl⟩ : ∃ A6 c6, u6 = .slice A6 LAB.length c6 := by
            rcases hO9.2 with ⟨e, h0⟩ | ⟨g', c', _, e, _⟩
            · exact ⟨Option.none, 0, by rw [h0]; exact e⟩
            · exact ⟨_, c', e⟩
          have hu : ∀ k, (Value.slice A6 LAB.length c6).ownBlock = some k → w0.heap.size ≤ k := fun k hk => (World.ownsRow.lt hO9 k hk).1
          have hsrc : w10.ownsRow 0 61 3 (.slice A6 LAB.length c6) LAB.length (flatR LAB) := ⟨hO9.1, hO9.2.imp id fun ⟨g', c', cur, h1, _, h2⟩ => ⟨g', c', cur, h1, Nat.zero_le _, h2⟩⟩
          have hown10 : w10.ownsRow base 61 3 (.slice (some ⟨g, o, none⟩) n c) n (flatR l) := by have h := M10.out.own; unfold OwnR at h; rwa [hln] at h
          have hmn : A6 = Option.none ↔ LAB.length = 0 := by
            rw [← hN9]
            cases A6 <;> simp [Value.ownBlock]
          have hLL : LAB.length ≤ 1000000 := by omega
          have HR := Lib.hid (replace_any base n c i j LAB.length c6 (some ⟨g, o, none⟩) A6 (flatR l) (flatR LAB) w10 hown10 hsrc (fun k hk e => by
            have := hu k hk
            simp only [Value.ownBlock, Option.some.injEq] at e
            omega) (flatR_one l) (flatR_one LAB) (by omega) (by omega) (.inr hij) (by omega) hLL (by have := B10.size; omega) hmn)
          have HU := Lib.hid hu
          have hmbg := HMG.out.ne g rfl
          clear hO9 hN9 hu hsrc hown10 hmn D7 B7 E7 B8 hq0 hq1
          go_wp2_with (go_at_call 26; refine (Hid.out HR).mono ?_; rintro e w11 ⟨v11, rfl, k1, k2, k3⟩; obtain ⟨A11, n11, c11, rfl⟩ := own_slice k1; have K1 := Lib.hid k1; have K2 := Lib.hid k2; have K3 := Lib.hid k3; have box11 := (M10.out.box.kept k2 (by simp only [Value.ownBlock]; intro e; injection e with e; exact hmbg e)); have bc11 := box11.cell; have bf11 := box11.free; have BX := Lib.hid box11; clear k1 k2 k3 box11)
          have hne11 : ∀ k, (Value.slice A11 n11 c11).ownBlock = some k → k ≠ mb := fun k hk e => by
            rcases K3.out with h | ⟨k', h, hk'⟩
            · rw [hk] at h; simp only [Value.ownBlock, Option.some.injEq] at h; exact hmbg (by omega)
            · rw [hk] at h; injection h with h; have := B10.size; omega
          have hDl : DF.length = i + LAB.length + (n - j) := by rw [HD.out]; simp only [List.length_append, List.length_take, List.length_drop]; omega
          have hown11 : OwnR w11 base (.slice A11 n11 c11) DF := by
            unfold OwnR
            rw [hDl, HD.out, flatR_append, flatR_append, ← flatR_take, ← flatR_drop]
            exact K1.out
          go_end0
          refine ⟨rfl, A11, n11, c11, ⟨BX.out.set _, OwnR.kept' hown11 (But.setAt mb 0 w11 _) (fun k hk e => hne11 k hk (Option.some.inj e).symm), hne11⟩, Two.tr (Two.tr (Two.ext B10) (Two.grown K2.out) (.inl rfl)) (Two.but (But.setAt mb 0 w11 _)) (.inl rfl), Kin.own K3.out B10.size⟩

theorem dropF_eq {l : List Rn} {a b : Int} (h : idxA l a = idxB l b) : dropF l a b = l := by
  have e : midF l a b = [] := by unfold midF; rw [h]; apply List.drop_of_length_le; simp; omega
  unfold dropF
  rw [e, h]
  simp [leftA, leftB]
/-- what Drop makes of runs -/
def dropI (l : List Rn) (a b : Int) : List Rn := if 0 < lenI a b then dropF l a b else l
theorem drop_any (base mb : Nat) (A : Option Addr) (n c : Nat) (l : List Rn) (a b : Int) (w : World) (hm : MapAt w base mb A n c l) (hg : Good 0 Option.none l) (hbig : n ≤ 100000) (hbase : base ≤ w.heap.size) :
    Calls Tryd.prog 8 #[.pointer (some ⟨mb, 0, none⟩), .agg #[.int .i64 a, .int .i64 b]] w fun e w' => e = .returned (.tuple #[]) ∧ MapPost base mb A n c (dropI l a b) w w' := by
  unfold dropI
  by_cases hp : 0 < lenI a b
  · rw [if_pos hp]
    have hab := len_pos.1 hp
    by_cases he : idxA l a = idxB l b
    · rw [dropF_eq he]
      exact (drop_apart _ A n c l a b w (Lists.map hm.box.cell hm.box.lt) hm.len (by omega) hg hm.at_ hp he).mono fun e w' ⟨h1, h2⟩ => ⟨h1, MapPost.same hm h2⟩
    · exact drop_cut base mb A n c l a b w hm hg hbig hbase hp (by have := idxAB hg hab.2.1; omega)
  · rw [if_neg hp]
    exact (drop_none _ a b w hp).mono fun e w' ⟨h1, h2⟩ => ⟨h1, MapPost.same hm h2⟩
theorem drop_nil (a b : Int) (w : World) : Calls Tryd.prog 8 #[.pointer none, .agg #[.int .i64 a, .int .i64 b]] w fun e w' => e = .returned (.tuple #[]) ∧ Ext w w' := by
  by_cases hp : 0 < lenI a b
  · exact drop_apart _ Option.none 0 0 [] a b w (Lists.nil w) rfl (by omega) trivial (fun h => absurd h (by simp)) hp rfl
  · exact drop_none _ a b w hp
theorem dropI_good {l : List Rn} (a b : Int) (h : Good 0 none l) : Good 0 none (dropI l a b) := by
  unfold dropI; split
  · rename_i hp; have := len_pos.1 hp; exact dropF_good h this.1 this.2.1
  · exact h
theorem dropI_len {l : List Rn} (a b : Int) (h : Good 0 none l) : (dropI l a b).length ≤ l.length + 1 := by
  unfold dropI; split
  · rename_i hp; have := len_pos.1 hp; exact dropF_len h this.2.1
  · omega
theorem dropI_tell {l : List Rn} (a b : Int) (h : Good 0 none l) (p : Int) : tell (dropI l a b) p = if 0 < lenI a b ∧ a ≤ p ∧ p < b then Option.none else tell l p := by
  unfold dropI; split
  · rename_i hp; have := len_pos.1 hp; rw [dropF_tell h this.2.1]; simp [hp]
  · rename_i hp; simp [hp]
end Go.Proofs.YthbjhpfgfpkppaaDoor
