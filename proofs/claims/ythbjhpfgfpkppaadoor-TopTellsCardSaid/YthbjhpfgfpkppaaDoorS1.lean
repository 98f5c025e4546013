/-
  The sets of a map: Of, Known.
-/
import Derived.Test.YthbjhpfgfpkppaaDoorR2
import Derived.Test.YthbjhpfgfpkppaaDoorIE
import Derived.Test.YthbjhpfgfpkppaaDoorRX
import Derived.Test.YthbjhpfgfpkppaaDoorTM
namespace Go.Proofs.YthbjhpfgfpkppaaDoor
open Go Go.RowKit Go.Shelf

attribute [local go_sem] Oper.semAt_some

theorem SpAt_far {W W' : World} {A : Option Addr} {l : List Sp} (h : Rg.SpAt W W.heap.size A l) (hz : W.heap.size ≤ W'.heap.size) (hb : ∀ b, b < W.heap.size → W'.heap[b]? = W.heap[b]? ∨ ∀ k, W.cell? ⟨b, k + 1, none⟩ = none) : Rg.SpAt W' W'.heap.size A l := fun h0 => by
  obtain ⟨b, o, e, hlt, hc⟩ := h h0
  rcases hb b hlt with hk | hk
  · refine ⟨b, o, e, by omega, fun j hj => ?_⟩
    have hc' : ∀ off, W'.cell? ⟨b, off, none⟩ = W.cell? ⟨b, off, none⟩ := fun off => World.cell?_of_block hk
    rw [hc', hc']
    exact hc j hj
  · have h1 := (hc 0 h0).2
    rw [hk] at h1
    cases h1

/-- between two rounds of Of -/
def OfI (w : World) (v : Int) (pre : List Rn) (W : World) : Prop :=
  ((∃ u, Boxed W (w.heap.size + 1 + 1) 26 u ∧ Rg.OwnS W w.heap.size u (spV v pre) ∧ True) ∧ (Boxed W w.heap.size 5 (.int .u8 v) ∧ Boxed W (w.heap.size + 1) 28 (.slice none 0 0))) ∧ Below w.heap.size w W
theorem OfI_own (w : World) (v : Int) {B : Nat} (hB : w.heap.size ≤ B) : OwnFrom B (OfI w v) :=
  OwnFrom.and (OwnFrom.and (Own.from (holdsRow_own w.heap.size (w.heap.size + 1 + 1) 26 31 2 (fun pre : List Rn => (spV v pre).length) (fun pre => Rg.flat (spV v pre)) (fun _ _ => True)) _) (OwnFrom.and (Own.from (boxed_own _ _ _) _) (Own.from (boxed_own _ _ _) _))) (ownFrom_below (Nat.le_refl _) hB)

set_option maxHeartbeats 8000000 in
set_option maxRecDepth 100000 in
theorem OfM_any (M : Value) (A : Option Addr) (n c : Nat) (l : List Rn) (v : Int) (w : World) (hM : Lists M w A n c) (hn : l.length = n) (hbig : n ≤ 1000) (hs : RnAt w w.heap.size A l) :
    Calls Tryd.prog 11 #[M, .int .u8 v] w fun e w' => ∃ u, e = .returned u ∧ Rg.IsSet w' u (Rg.normL (spV v l)) ∧ Ext w w' := by
  have e0 : Ext w (((w.alloc (.cells #[.int .u8 v] 5)).alloc (.cells #[.slice none 0 0] 28)).alloc (.cells #[.slice none 0 0] 26)) := (((Below.refl _ _).alloc (Nat.le_refl _) _).alloc (by simp) _).alloc (by simp; omega) _
  have HM := Lib.hid hM
  have HS := Lib.hid hs
  have HN := Lib.hid hn
  clear hs hM hn
  refine (callsIn_wide (n := 3)).1 ?_
  refine callsIn_of_wp_marks Tryd.func11 rfl trivial ?_ rfl
  simp only [Tryd.ntmps11, List.size_toArray, List.length_cons, List.length_nil, Nat.reduceAdd, Nat.reduceSub, Array.replicate_succ, Array.replicate_zero, List.push_toArray, List.append_toArray, List.nil_append, List.cons_append]
  gi_wp2_with (first
    | (refine ⟨trivial, ?_⟩; gi_at_call 31; refine (callsIn_wide.2 (HM.out _ e0)).mono ?_; rintro e w3 ⟨rfl, rfl⟩)
    | (refine ⟨trivial, ?_⟩; gi_at_call 30; refine (callsIn_wide.2 (through_any _ _ _ _)).mono ?_; rintro e w4 ⟨rfl, rfl⟩))
  have bQ := Boxed.new ((w.alloc (.cells #[.int .u8 v] 5)).alloc (.cells #[.slice none 0 0] 28)) 26 (.slice none 0 0)
  have bR := Boxed.alloc (Boxed.new (w.alloc (.cells #[.int .u8 v] 5)) 28 (.slice none 0 0)) (.cells #[.slice none 0 0] 26)
  have bV := Boxed.alloc (Boxed.alloc (Boxed.new w 5 (.int .u8 v)) (.cells #[.slice none 0 0] 28)) (.cells #[.slice none 0 0] 26)
  simp only [World.size_alloc] at bQ bR
  have hz0 : (((w.alloc (.cells #[.int .u8 v] 5)).alloc (.cells #[.slice none 0 0] 28)).alloc (.cells #[.slice none 0 0] 26)).heap.size = w.heap.size + 1 + 1 + 1 := by simp
  obtain ⟨W3, hW3⟩ : ∃ W3, ((w.alloc (.cells #[.int .u8 v] 5)).alloc (.cells #[.slice none 0 0] 28)).alloc (.cells #[.slice none 0 0] 26) = W3 := ⟨_, rfl⟩
  rw [hW3] at e0 bQ bR hz0 bV ⊢
  clear hW3
  have hR3 : RnAt W3 w.heap.size A l := HS.out.below e0 (Nat.le_refl _)
  have eA : Ext W3 (W3.alloc (.cells #[.slice A n c] 46)) := (Below.refl _ _).alloc (Nat.le_refl _) _
  have bS := Boxed.new W3 46 (.slice A n c)
  have bQ := bQ.alloc (.cells #[.slice A n c] 46)
  have bR := bR.alloc (.cells #[.slice A n c] 46)
  have bV := bV.alloc (.cells #[.slice A n c] 46)
  have hB0 : Below w.heap.size w (W3.alloc (.cells #[.slice A n c] 46)) := e0.alloc e0.size _
  have hR0 := hR3.below (eA.mono e0.size) (Nat.le_refl _)
  have hsz : (W3.alloc (.cells #[.slice A n c] 46)).heap.size = W3.heap.size + 1 := by simp
  rw [← hz0]
  have hz1 := e0.size
  have HZ := Lib.hid hz0
  clear hz0
  obtain ⟨W0, hW0⟩ : ∃ W0, W3.alloc (.cells #[.slice A n c] 46) = W0 := ⟨_, rfl⟩
  rw [hW0] at bS bQ bR hB0 hR0 hsz bV ⊢
  clear hW0 eA
  refine wpIn_rangeFunc_ownH rfl (by omega) (gf := 50) (lb := #[.pointer (some ⟨W3.heap.size, 0, none⟩)]) rfl trivial (enters_of Tryd.func50 (by kernel_rfl) rfl)
    (thr_seq Fence.wide _ trivial rfl (by omega) W3.heap.size w.heap.size A n c l HN.out (by omega) W0 (by omega) (by omega) bS.cell hR0) belowK_t (belowK_b (by omega)) (Below.refl _ _) (fun _ => rfl)
    (OfI w v) (fun _ _ _ => False) (OfI_own w v (by omega)) (fun _ _ _ _ _ hs _ _ => hs)
    ⟨⟨⟨_, bQ, World.ownsRow_nil _ _ _ _, trivial⟩, bV, bR⟩, hB0⟩
    (fun x a' W => ∃ Bx, (w.heap.size + 1 + 1) < Bx ∧ Twin W Bx 31 (.int .i64 x.1) (.int .i64 x.2.1) ∧ a' = { tmps := #[M, .int .u8 v, undef, .pointer (some ⟨w.heap.size, 0, none⟩), .pointer (some ⟨w.heap.size + 1, 0, none⟩), .pointer (some ⟨w.heap.size + 1 + 1, 0, none⟩), .pointer (some ⟨Bx, 0, none⟩), .int .u8 x.2.2, M, .slice A n c, .func (.func 50) #[] #[.pointer (some ⟨W3.heap.size, 0, none⟩)], .agg #[.int .i64 x.1, .int .i64 x.2.1], .int .u8 x.2.2, undef, undef, undef, undef, undef, undef, undef, undef, undef], defers := [] })
    (fun x a' _ X Y row hs hg hr => by obtain ⟨Bx, h1, h2, h3⟩ := hs; exact ⟨Bx, h1, Twin.own Bx 31 (fun (_ : Unit) => Value.int .i64 x.1) (fun _ => Value.int .i64 x.2.1) () X Y row h2 hg (fun r e => (hr r e).2), h3⟩)
    ?assign ?body ?done ?stop
  case assign =>
    rintro lp pre x W K ⟨⟨⟨u, hu, hrow, -⟩, hV, hR⟩, hB1⟩ hK
    gi_wp2
    exact hK _ _ ((KeepsOthers.alloc _ _).from _) ((Below.refl _ W).alloc hB1.size _) ⟨⟨⟨u, hu.alloc _, hrow.alloc _, trivial⟩, hV.alloc _, hR.alloc _⟩, hB1.alloc hB1.size _⟩ ⟨W.heap.size, hu.lt, Twin.new W _ _ _, rfl⟩
  case body =>
    rintro lp pre x a' W hl ⟨r, hr⟩ ⟨⟨⟨u, hu, hrow, -⟩, hV, hR⟩, hB1⟩ ⟨Bx, hBx, tX, rfl⟩ hlt
    obtain ⟨x0, x1, x2⟩ := x
    dsimp only at tX ⊢
    have z0 := tX.c0
    have z1 := tX.c1
    have hc := hu.cell
    have hf := hu.frozen
    have hzB := hB1.size
    have hpl : (spV v pre).length ≤ pre.length := by unfold spV spK; rw [List.length_map]; exact List.length_filter_le _ _
    obtain ⟨i0, hi0, hiz, his, hib⟩ := info_parts Rg.infoSp
    have hvc := hV.cell
    have hsm := fun W' => same_any x2 v W'
    cases hb : decide (x2 = v) with
    | true =>
      rw [hb] at hsm
      have HS1 : Hid (spV v (pre ++ [(x0, x1, x2)]) = spV v pre ++ [(x0, x1)]) := by unfold Hid spV spK; have := of_decide_eq_true hb; simp [this]
      clear hb
      gi_wp2_with (first
        | (refine ⟨trivial, ?_⟩; gi_at_call 28; refine (CallsIn.inRound lp (callsIn_wide.2 (hsm W))).mono ?_; rintro e w5 ⟨rfl, rfl⟩)
        | (gi_at_builtin; refine wpListIn_append_own _ rfl _ _ 26 rfl w.heap.size 31 i0 _ 2 16 Tryd.underlying26 hi0 hiz his hib rfl (by decide) u (spV v pre).length (Rg.flat (spV v pre)) rfl (hrow.alloc _) ⟨w5.heap.size, 0, none⟩ 1 1 [.int .i64 x0, .int .i64 x1] (by simp [go_sem]) rfl (World.news_of_block (cs := #[.int .i64 x0, .int .i64 x1]) (t := 31) (fr := (0, 0)) (heap_alloc_new w5 _)) (by simp [Value.oneCell']) (by unfold maxLen; omega) (by omega) (by simp; omega) ?_; intro v' w1 hown' hgrow _; obtain ⟨g', cap', rfl⟩ := ownsRow_succ hown'; obtain ⟨hv1, hv2, hr2, hk2, hb2⟩ := hu.appended (by decide) hrow hzB (by omega) hown' hgrow; have hc1 := hv1.cell; have hf1 := hv1.frozen))
      exact ⟨hk2.from _, hb2, ⟨⟨_, hv2, by rw [HS1.out]; unfold Rg.OwnS; rw [Rg.flat_append, List.length_append]; exact hr2, trivial⟩, ((hV.alloc _).kept hgrow (hV.not_row (by decide) hrow)).other (by omega) _, ((hR.alloc _).kept hgrow (hR.not_row (by decide) hrow)).other (by omega) _⟩, hB1.trans hb2⟩
    | false =>
      rw [hb] at hsm
      have HS1 : Hid (spV v (pre ++ [(x0, x1, x2)]) = spV v pre) := by unfold Hid spV spK; have := of_decide_eq_false hb; simp [this]
      clear hb
      gi_wp2_with (refine ⟨trivial, ?_⟩; gi_at_call 28; refine (CallsIn.inRound lp (callsIn_wide.2 (hsm W))).mono ?_; rintro e w5 ⟨rfl, rfl⟩)
      exact ⟨KeepsFrom.refl _ _, Below.refl _ _, ⟨⟨u, hu, by rw [HS1.out]; exact hrow, trivial⟩, hV, hR⟩, hB1⟩
  case done =>
    rintro D ys W hD hys ⟨⟨⟨u, hu, hrow, -⟩, hV, hR⟩, hB1⟩ hK
    obtain rfl : l = ys := hys.symm
    clear hys
    have hpl : (spV v l).length ≤ l.length := by unfold spV spK; rw [List.length_map]; exact List.length_filter_le _ _
    have hsp := Rg.IsSp.own hrow
    obtain ⟨A', c', rfl, _, hat⟩ := hsp
    have hc := hu.cell
    have hrc := hR.cell
    have hrf := hR.frozen
    have hOf := Rg.Of_set A' (spV v l).length c' (spV v l) W rfl (by have := HN.out; omega) hat
    gi_wp2_with (refine ⟨trivial, ?_⟩; gi_at_call 6; refine (callsIn_wide.2 hOf).mono ?_; rintro e w6 ⟨v6, rfl, ⟨s6, rfl, hS6, hC6⟩, hb6⟩; obtain ⟨A6, c6, rfl, hn6, hat6⟩ := hS6; have r6 : Boxed w6 (w.heap.size + 1) 28 (.slice none 0 0) := (hb6.block _ hR.lt).trans hR; have rc6 := r6.cell; have rf6 := r6.frozen)
    have hKD : w6.heap[D]? = some (.deferred (some [])) := (keeps_ext hb6).same D _ hK rfl
    have hKa : (w6.setCell ⟨(w.heap.size + 1), 0, none⟩ (.slice A6 (Rg.normL (spV v l)).length c6)).heap[D]? = some (.deferred (some [])) := (KeepsOthers.setCell _ _ _).same D _ hKD rfl
    have hz3 := HZ.out
    have bF := (r6.set (.slice A6 (Rg.normL (spV v l)).length c6)).kept (grownBy_putObj' _ D (.deferred none)) (fun e => by cases e; omega)
    refine ⟨by simp, .inl ⟨_, _, rfl, run_takeDeferred hKa, ?_⟩⟩
    refine ⟨_, results_cell_row rfl _ _ (w.heap.size + 1) _ _ _ _ rfl bF Tryd.underlying28 rfl (by kernel_rfl), _, rfl, ⟨_, rfl, ⟨A6, c6, rfl, hn6, SpAt_far hat6 ?_ fun b hb => ?_⟩, hC6⟩, ?_⟩
    · simp
    · by_cases hb1 : b = (w.heap.size + 1)
      · subst hb1; exact .inr fun k => by simp [World.cell?, show w6.heap[(w.heap.size + 1)]? = _ from r6]
      · by_cases hb2 : b = D
        · subst hb2; exact .inr fun k => by simp [World.cell?, hKD]
        · exact .inl ((World.putObj_heap_other hb2).trans (Below.heap_setCell _ _ _ b hb1))
    · exact ((hB1.trans (hb6.mono hB1.size)).setCell (p := ⟨(w.heap.size + 1), 0, none⟩) (by simp) _).trans (belowK_b (w := w) (Nat.le_refl _) _ D _ _ (by omega) hKa rfl rfl)
  case stop =>
    rintro D c pre W _ _ h _
    exact h.elim

/-- between two rounds of Known -/
def KnI (w : World) (pre : List Rn) (W : World) : Prop :=
  ((∃ u, Boxed W (w.heap.size + 1) 26 u ∧ Rg.OwnS W w.heap.size u (spK pre) ∧ True) ∧ (Boxed W w.heap.size 28 (.slice none 0 0))) ∧ Below w.heap.size w W
theorem KnI_own (w : World) {B : Nat} (hB : w.heap.size ≤ B) : OwnFrom B (KnI w) :=
  OwnFrom.and (OwnFrom.and (Own.from (holdsRow_own w.heap.size (w.heap.size + 1) 26 31 2 (fun pre : List Rn => (spK pre).length) (fun pre => Rg.flat (spK pre)) (fun _ _ => True)) _) (Own.from (boxed_own _ _ _) _)) (ownFrom_below (Nat.le_refl _) hB)

set_option maxHeartbeats 8000000 in
set_option maxRecDepth 100000 in
theorem KnownM_any (M : Value) (A : Option Addr) (n c : Nat) (l : List Rn) (w : World) (hM : Lists M w A n c) (hn : l.length = n) (hbig : n ≤ 1000) (hs : RnAt w w.heap.size A l) :
    Calls Tryd.prog 14 #[M] w fun e w' => ∃ u, e = .returned u ∧ Rg.IsSet w' u (Rg.normL (spK l)) ∧ Ext w w' := by
  have e0 : Ext w ((w.alloc (.cells #[.slice none 0 0] 28)).alloc (.cells #[.slice none 0 0] 26)) := ((Below.refl _ _).alloc (Nat.le_refl _) _).alloc (by simp) _
  have HM := Lib.hid hM
  have HS := Lib.hid hs
  have HN := Lib.hid hn
  clear hs hM hn
  refine (callsIn_wide (n := 3)).1 ?_
  refine callsIn_of_wp_marks Tryd.func14 rfl trivial ?_ rfl
  simp only [Tryd.ntmps14, List.size_toArray, List.length_cons, List.length_nil, Nat.reduceAdd, Nat.reduceSub, Array.replicate_succ, Array.replicate_zero, List.push_toArray, List.append_toArray, List.nil_append, List.cons_append]
  gi_wp2_with (first
    | (refine ⟨trivial, ?_⟩; gi_at_call 31; refine (callsIn_wide.2 (HM.out _ e0)).mono ?_; rintro e w3 ⟨rfl, rfl⟩)
    | (refine ⟨trivial, ?_⟩; gi_at_call 30; refine (callsIn_wide.2 (through_any _ _ _ _)).mono ?_; rintro e w4 ⟨rfl, rfl⟩))
  have bQ := Boxed.new (w.alloc (.cells #[.slice none 0 0] 28)) 26 (.slice none 0 0)
  have bR := Boxed.alloc (Boxed.new (w) 28 (.slice none 0 0)) (.cells #[.slice none 0 0] 26)
  simp only [World.size_alloc] at bQ bR
  have hz0 : ((w.alloc (.cells #[.slice none 0 0] 28)).alloc (.cells #[.slice none 0 0] 26)).heap.size = w.heap.size + 1 + 1 := by simp
  obtain ⟨W3, hW3⟩ : ∃ W3, (w.alloc (.cells #[.slice none 0 0] 28)).alloc (.cells #[.slice none 0 0] 26) = W3 := ⟨_, rfl⟩
  rw [hW3] at e0 bQ bR hz0 ⊢
  clear hW3
  have hR3 : RnAt W3 w.heap.size A l := HS.out.below e0 (Nat.le_refl _)
  have eA : Ext W3 (W3.alloc (.cells #[.slice A n c] 46)) := (Below.refl _ _).alloc (Nat.le_refl _) _
  have bS := Boxed.new W3 46 (.slice A n c)
  have bQ := bQ.alloc (.cells #[.slice A n c] 46)
  have bR := bR.alloc (.cells #[.slice A n c] 46)
  have hB0 : Below w.heap.size w (W3.alloc (.cells #[.slice A n c] 46)) := e0.alloc e0.size _
  have hR0 := hR3.below (eA.mono e0.size) (Nat.le_refl _)
  have hsz : (W3.alloc (.cells #[.slice A n c] 46)).heap.size = W3.heap.size + 1 := by simp
  rw [← hz0]
  have hz1 := e0.size
  have HZ := Lib.hid hz0
  clear hz0
  obtain ⟨W0, hW0⟩ : ∃ W0, W3.alloc (.cells #[.slice A n c] 46) = W0 := ⟨_, rfl⟩
  rw [hW0] at bS bQ bR hB0 hR0 hsz ⊢
  clear hW0 eA
  refine wpIn_rangeFunc_ownH rfl (by omega) (gf := 50) (lb := #[.pointer (some ⟨W3.heap.size, 0, none⟩)]) rfl trivial (enters_of Tryd.func50 (by kernel_rfl) rfl)
    (thr_seq Fence.wide _ trivial rfl (by omega) W3.heap.size w.heap.size A n c l HN.out (by omega) W0 (by omega) (by omega) bS.cell hR0) belowK_t (belowK_b (by omega)) (Below.refl _ _) (fun _ => rfl)
    (KnI w) (fun _ _ _ => False) (KnI_own w (by omega)) (fun _ _ _ _ _ hs _ _ => hs)
    ⟨⟨⟨_, bQ, World.ownsRow_nil _ _ _ _, trivial⟩, bR⟩, hB0⟩
    (fun x a' W => ∃ Bx, (w.heap.size + 1) < Bx ∧ Twin W Bx 31 (.int .i64 x.1) (.int .i64 x.2.1) ∧ a' = { tmps := #[M, undef, .pointer (some ⟨w.heap.size, 0, none⟩), .pointer (some ⟨w.heap.size + 1, 0, none⟩), .pointer (some ⟨Bx, 0, none⟩), M, .slice A n c, .func (.func 50) #[] #[.pointer (some ⟨W3.heap.size, 0, none⟩)], .agg #[.int .i64 x.1, .int .i64 x.2.1], .int .u8 x.2.2, undef, undef, undef, undef, undef, undef], defers := [] })
    (fun x a' _ X Y row hs hg hr => by obtain ⟨Bx, h1, h2, h3⟩ := hs; exact ⟨Bx, h1, Twin.own Bx 31 (fun (_ : Unit) => Value.int .i64 x.1) (fun _ => Value.int .i64 x.2.1) () X Y row h2 hg (fun r e => (hr r e).2), h3⟩)
    ?assign ?body ?done ?stop
  case assign =>
    rintro lp pre x W K ⟨⟨⟨u, hu, hrow, -⟩, hR⟩, hB1⟩ hK
    gi_wp2
    exact hK _ _ ((KeepsOthers.alloc _ _).from _) ((Below.refl _ W).alloc hB1.size _) ⟨⟨⟨u, hu.alloc _, hrow.alloc _, trivial⟩, hR.alloc _⟩, hB1.alloc hB1.size _⟩ ⟨W.heap.size, hu.lt, Twin.new W _ _ _, rfl⟩
  case body =>
    rintro lp pre x a' W hl ⟨r, hr⟩ ⟨⟨⟨u, hu, hrow, -⟩, hR⟩, hB1⟩ ⟨Bx, hBx, tX, rfl⟩ hlt
    obtain ⟨x0, x1, x2⟩ := x
    dsimp only at tX ⊢
    have z0 := tX.c0
    have z1 := tX.c1
    have hc := hu.cell
    have hf := hu.frozen
    have hzB := hB1.size
    have hpl : (spK pre).length ≤ pre.length := by unfold spK; rw [List.length_map]; exact Nat.le_refl _
    obtain ⟨i0, hi0, hiz, his, hib⟩ := info_parts Rg.infoSp
    have hS : spK (pre ++ [(x0, x1, x2)]) = spK pre ++ [(x0, x1)] := by unfold spK; simp
    gi_wp2_with (gi_at_builtin; refine wpListIn_append_own _ rfl _ _ 26 rfl w.heap.size 31 i0 _ 2 16 Tryd.underlying26 hi0 hiz his hib rfl (by decide) u (spK pre).length (Rg.flat (spK pre)) rfl (hrow.alloc _) ⟨W.heap.size, 0, none⟩ 1 1 [.int .i64 x0, .int .i64 x1] (by simp [go_sem]) rfl (World.news_of_block (cs := #[.int .i64 x0, .int .i64 x1]) (t := 31) (fr := (0, 0)) (heap_alloc_new W _)) (by simp [Value.oneCell']) (by unfold maxLen; omega) (by omega) (by simp; omega) ?_; intro v' w1 hown' hgrow _; obtain ⟨g', cap', rfl⟩ := ownsRow_succ hown'; obtain ⟨hv1, hv2, hr2, hk2, hb2⟩ := hu.appended (by decide) hrow hzB (by omega) hown' hgrow; have hc1 := hv1.cell; have hf1 := hv1.frozen)
    exact ⟨hk2.from _, hb2, ⟨⟨_, hv2, by rw [hS]; unfold Rg.OwnS; rw [Rg.flat_append, List.length_append]; exact hr2, trivial⟩, ((hR.alloc _).kept hgrow (hR.not_row (by decide) hrow)).other (by omega) _⟩, hB1.trans hb2⟩
  case done =>
    rintro D ys W hD hys ⟨⟨⟨u, hu, hrow, -⟩, hR⟩, hB1⟩ hK
    obtain rfl : l = ys := hys.symm
    clear hys
    have hpl : (spK l).length ≤ l.length := by unfold spK; rw [List.length_map]; exact Nat.le_refl _
    have hsp := Rg.IsSp.own hrow
    obtain ⟨A', c', rfl, _, hat⟩ := hsp
    have hc := hu.cell
    have hrc := hR.cell
    have hrf := hR.frozen
    have hOf := Rg.Of_set A' (spK l).length c' (spK l) W rfl (by have := HN.out; omega) hat
    gi_wp2_with (refine ⟨trivial, ?_⟩; gi_at_call 6; refine (callsIn_wide.2 hOf).mono ?_; rintro e w6 ⟨v6, rfl, ⟨s6, rfl, hS6, hC6⟩, hb6⟩; obtain ⟨A6, c6, rfl, hn6, hat6⟩ := hS6; have r6 : Boxed w6 w.heap.size 28 (.slice none 0 0) := (hb6.block _ hR.lt).trans hR; have rc6 := r6.cell; have rf6 := r6.frozen)
    have hKD : w6.heap[D]? = some (.deferred (some [])) := (keeps_ext hb6).same D _ hK rfl
    have hKa : (w6.setCell ⟨w.heap.size, 0, none⟩ (.slice A6 (Rg.normL (spK l)).length c6)).heap[D]? = some (.deferred (some [])) := (KeepsOthers.setCell _ _ _).same D _ hKD rfl
    have hz3 := HZ.out
    have bF := (r6.set (.slice A6 (Rg.normL (spK l)).length c6)).kept (grownBy_putObj' _ D (.deferred none)) (fun e => by cases e; omega)
    refine ⟨by simp, .inl ⟨_, _, rfl, run_takeDeferred hKa, ?_⟩⟩
    refine ⟨_, results_cell_row rfl _ _ w.heap.size _ _ _ _ rfl bF Tryd.underlying28 rfl (by kernel_rfl), _, rfl, ⟨_, rfl, ⟨A6, c6, rfl, hn6, SpAt_far hat6 ?_ fun b hb => ?_⟩, hC6⟩, ?_⟩
    · simp
    · by_cases hb1 : b = w.heap.size
      · subst hb1; exact .inr fun k => by simp [World.cell?, show w6.heap[w.heap.size]? = _ from r6]
      · by_cases hb2 : b = D
        · subst hb2; exact .inr fun k => by simp [World.cell?, hKD]
        · exact .inl ((World.putObj_heap_other hb2).trans (Below.heap_setCell _ _ _ b hb1))
    · exact ((hB1.trans (hb6.mono hB1.size)).setCell (p := ⟨w.heap.size, 0, none⟩) (by simp) _).trans (belowK_b (w := w) (Nat.le_refl _) _ D _ _ (by omega) hKa rfl rfl)
  case stop =>
    rintro D c pre W _ _ h _
    exact h.elim
end Go.Proofs.YthbjhpfgfpkppaaDoor
