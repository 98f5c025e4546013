/-
  In: the runs of the middle, cut, by a range over a function.
-/
import Derived.Test.YtlnfpolhccbnpaaR1
import Derived.Test.YtlnfpolhccbnpaaV1
namespace Go.Proofs.Ytlnfpolhccbnpaa
open Go Go.RowKit Go.Shelf

attribute [local go_sem] Oper.semAt_some

/-- what In hands back -/
def InPost (D : List Rn) (w w' : World) (e : Ending) : Prop := ∃ p A' n' c', e = .returned (.func (.func 59) #[] #[.pointer (some ⟨p, 0, none⟩)]) ∧ Box w' p 71 (.slice A' n' c') ∧ w.heap.size ≤ p ∧ OwnR w' w.heap.size (.slice A' n' c') D ∧ Ext w w'

set_option maxHeartbeats 4000000 in
theorem In_none (M : Value) (l : List Rn) (a b : Int) (w : World) (h : ¬ 0 < lenI a b) :
    Calls Try.prog 41 #[M, .agg #[.int .i64 a, .int .i64 b]] w fun e w' => InPost (inI l a b) w w' e := by
  have hz := len_zero h
  have HD := Lib.hid (inI_no (l := l) h)
  have e0 : Ext w ((w.alloc (.cells #[.int .i64 a, .int .i64 b] 35)).alloc (.cells #[.slice none 0 0] 71)) := ((Below.refl _ _).alloc (Nat.le_refl _) _).alloc (by simp) _
  have hL := fun W => len_any a b W
  rw [hz] at hL
  clear h
  go_enter Try.func41, Try.ntmps41
  go_wp2_with fail
  with_reducible refine (hL _).mono ?_
  rintro e w1 ⟨rfl, hb1⟩
  have k0 := hb1.cell (p := ⟨w.heap.size + 1, 0, none⟩) (by simp)
  rw [show ((w.alloc (.cells #[.int .i64 a, .int .i64 b] 35)).alloc (.cells #[.slice none 0 0] 71)).cell? ⟨w.heap.size + 1, 0, none⟩ = some (.slice none 0 0) from by simp] at k0
  have E1 := Ext.tr e0 hb1
  go_wp2_with fail
  with_reducible refine (through_any none 0 0 _).mono ?_
  rintro e w2 ⟨rfl, rfl⟩
  go_wp2_with fail
  go_ret
  exact ⟨w1.heap.size, none, 0, 0, rfl, Box.new w1 _ _, E1.size, by rw [HD.out]; exact World.ownsRow_nil _ _ _ _, Ext.tr E1 ((Below.refl _ _).alloc (Nat.le_refl _) _)⟩

/-- the two blocks of In, and what came behind -/
theorem cellsI {w W : World} {a b : Int} (h : Below ((w.alloc (.cells #[.int .i64 a, .int .i64 b] 35)).alloc (.cells #[.slice none 0 0] 71)).heap.size ((w.alloc (.cells #[.int .i64 a, .int .i64 b] 35)).alloc (.cells #[.slice none 0 0] 71)) W) :
    W.cell? ⟨w.heap.size, 0, none⟩ = some (.int .i64 a) ∧ W.cell? ⟨w.heap.size, 1, none⟩ = some (.int .i64 b) ∧ Box W (w.heap.size + 1) 71 (.slice none 0 0) ∧ w.heap.size < W.heap.size ∧ w.heap.size + 1 < W.heap.size ∧ Ext w W := by
  have hz := h.size
  simp only [World.size_alloc] at hz
  refine ⟨?_, ?_, ?_, by omega, by omega, Ext.tr (((Below.refl _ _).alloc (Nat.le_refl _) _).alloc (by simp) _) h⟩
  · rw [h.cell (p := ⟨w.heap.size, 0, none⟩) (by simp; omega)]; simp
  · rw [h.cell (p := ⟨w.heap.size, 1, none⟩) (by simp; omega)]; simp
  · have h2 := Box.new (w.alloc (.cells #[.int .i64 a, .int .i64 b] 35)) 71 (.slice none 0 0)
    rw [World.size_alloc] at h2
    exact (h.block _ (by simp)).trans h2

/-- a block of two cells -/
def Twin (W : World) (B : Nat) (t : TypeId) (u v : Value) : Prop := W.heap[B]? = some (.cells #[u, v] t (0, 0))
theorem Twin.lt {W : World} {B : Nat} {t : TypeId} {u v : Value} (h : Twin W B t u v) : B < W.heap.size := (Array.getElem?_eq_some_iff.1 h).1
theorem Twin.c0 {W : World} {B : Nat} {t : TypeId} {u v : Value} (h : Twin W B t u v) : W.cell? ⟨B, 0, none⟩ = some u := by simp [World.cell?, show W.heap[B]? = _ from h]
theorem Twin.c1 {W : World} {B : Nat} {t : TypeId} {u v : Value} (h : Twin W B t u v) : W.cell? ⟨B, 1, none⟩ = some v := by simp [World.cell?, show W.heap[B]? = _ from h]
theorem Twin.ext {W W' : World} {B : Nat} {t : TypeId} {u v : Value} (h : Twin W B t u v) (e : Ext W W') : Twin W' B t u v := (e.block B h.lt).trans h
theorem Twin.kept {W W' : World} {row : Option Nat} {B : Nat} {t : TypeId} {u v : Value} (h : Twin W B t u v) (hg : W.grownBy W' row) (hne : some B ≠ row) : Twin W' B t u v := (hg.block B h.lt hne).trans h
theorem Twin.alloc {W : World} {B : Nat} {t : TypeId} {u v : Value} (h : Twin W B t u v) (o : Obj) : Twin (W.alloc o) B t u v := h.kept (World.grownBy_alloc W o none) (by simp)
theorem Twin.other {W : World} {B B' : Nat} {t : TypeId} {u v : Value} (h : Twin W B t u v) (hne : B ≠ B') (x : Value) : Twin (W.setCell ⟨B', 0, none⟩ x) B t u v := h.kept (grownBy_setCell' W B' x) (fun e => hne (by cases e; rfl))
theorem Twin.new (W : World) (t : TypeId) (u v : Value) : Twin (W.alloc (.cells #[u, v] t)) W.heap.size t u v := heap_alloc_new W _
theorem Twin.own {β : Type} (B : Nat) (t : TypeId) (f g : β → Value) : Own (fun s W => Twin W B t (f s) (g s)) := fun s X Y row hs hg hrow =>
  hs.kept hg (fun e' => by obtain ⟨o, ho, hc⟩ := hrow B e'.symm; rw [show X.heap[B]? = _ from hs] at ho; cases ho; cases hc)
theorem Twin.not_row {W : World} {B : Nat} {t e : TypeId} {u u' : Value} (h : Twin W B t u u') (hte : t ≠ e) {base size k : Nat} {v : Value} {xs : List Value} (hr : W.ownsRow base e size v k xs) : some B ≠ v.ownBlock := by
  rcases hr.2 with ⟨rfl, _⟩ | ⟨g, cap, cur, rfl, _, hgb, _⟩
  · simp [Value.ownBlock]
  · intro e'
    obtain rfl : B = g := by simpa [Value.ownBlock] using e'
    have := (show W.heap[B]? = _ from h).symm.trans hgb
    simp at this
    exact hte this.2
theorem keeps_ext {W W' : World} (h : Ext W W') : KeepsOthers W W' := ⟨h.size, fun k _ hk _ => (h.block k (Array.getElem?_eq_some_iff.1 hk).1).trans hk⟩
theorem heap_new' (w : World) (o : Obj) {k : Nat} (h : w.heap.size = k) : (w.alloc o).heap[k]? = some o := by subst h; exact heap_alloc_new w o
/-- what a round makes of a run -/
def cutQ (a b : Int) (r : Rn) : Rn := (meetF r.1 r.2.1 a b, meetT r.1 r.2.1 a b, r.2.2)
/-- between two rounds -/
def InI (w : World) (a b : Int) (pre : List Rn) (W : World) : Prop :=
  ((∃ v, Boxed W (w.heap.size + 1) 71 v ∧ OwnR W w.heap.size v (pre.map (cutQ a b)) ∧ True) ∧ Twin W w.heap.size 35 (.int .i64 a) (.int .i64 b)) ∧ Below w.heap.size w W
theorem InI_own (w : World) (a b : Int) {B : Nat} (hB : w.heap.size ≤ B) : OwnFrom B (InI w a b) :=
  OwnFrom.and (OwnFrom.and (Own.from (holdsRow_own w.heap.size (w.heap.size + 1) 71 81 3 (fun pre : List Rn => (pre.map (cutQ a b)).length) (fun pre => flatR (pre.map (cutQ a b))) (fun _ _ => True)) _) (Own.from (Twin.own _ _ _ _) _)) (ownFrom_below (Nat.le_refl _) hB)
theorem cutQ_mid {l : List Rn} {a b : Int} (h : Good 0 Option.none l) (hp : 0 ≤ a ∧ a < b ∧ b ≤ 4611686018427387904) : (midF l a b).map (cutQ a b) = (midF l a b).map (cutI a b) := by
  refine List.map_congr_left fun r hr => ?_
  obtain ⟨h1, h2⟩ := mid_meet h hp.2.1 r hr
  have h3 : rtB a b = true := rtB_mk (by omega)
  unfold cutQ cutI meetF meetT meetB
  simp [h1, h2, h3]

/-- the runs from i to j, in place -/
theorem RnAt.sub {w : World} {B : Nat} {A : Option Addr} {l : List Rn} {i j : Nat} (h : RnAt w B A l) (hj : j ≤ l.length) : RnAt w B (Option.map (fun x => x.add (i * 3)) A) ((l.take j).drop i) := fun h0 => by
  have hL : ((l.take j).drop i).length = j - i := by simp; omega
  obtain ⟨b, o, rfl, hb, hc⟩ := h (by omega)
  refine ⟨b, o + i * 3, by simp [Addr.add_lit], hb, fun k hk => ?_⟩
  obtain ⟨c0, c1, c2⟩ := hc (i + k) (by omega)
  have e : ((l.take j).drop i)[k] = l[i + k]'(by omega) := by simp
  rw [e, show o + i * 3 + k * 3 = o + (i + k) * 3 from by omega]
  exact ⟨c0, c1, c2⟩
theorem RnAt.nil (w : World) (B : Nat) (A : Option Addr) {l : List Rn} (h : l.length = 0) : RnAt w B A l := fun h0 => absurd h0 (by omega)

theorem twinI {w W : World} {a b : Int} (h : Below ((w.alloc (.cells #[.int .i64 a, .int .i64 b] 35)).alloc (.cells #[.slice none 0 0] 71)).heap.size ((w.alloc (.cells #[.int .i64 a, .int .i64 b] 35)).alloc (.cells #[.slice none 0 0] 71)) W) : Twin W w.heap.size 35 (.int .i64 a) (.int .i64 b) :=
  (Twin.alloc (Twin.new w 35 (.int .i64 a) (.int .i64 b)) (.cells #[.slice none 0 0] 71)).ext h
set_option maxHeartbeats 8000000 in
set_option maxRecDepth 100000 in
theorem In_some (M : Value) (A : Option Addr) (n c : Nat) (l : List Rn) (a b : Int) (w : World) (hM : Lists M w A n c) (hn : l.length = n) (hnc : n ≤ c) (hbig : n ≤ 1000) (hg : Good 0 Option.none l) (hs : RnAt w w.heap.size A l) (h : 0 < lenI a b) :
    Calls Try.prog 41 #[M, .agg #[.int .i64 a, .int .i64 b]] w fun e w' => InPost (inI l a b) w w' e := by
  have HP := len_pos.1 h
  have HD := Lib.hid (inI_yes hg h)
  have e0 : Ext w ((w.alloc (.cells #[.int .i64 a, .int .i64 b] 35)).alloc (.cells #[.slice none 0 0] 71)) := ((Below.refl _ _).alloc (Nat.le_refl _) _).alloc (by simp) _
  have hpos : decide (lenI a b > 0) = true := by simpa using h
  have hx1 := idxA_le l a
  have hx2 := idxB_le l b
  have hx3 := idxAB hg HP.2.1
  have HS := Lib.hid hs
  have HM := Lib.hid hM
  have HN := Lib.hid hn
  have hme := fun (W : World) (hW : Ext w W) => meeting_any M A n c l a b W (hM.ext hW) hn (by omega) hg (hs.ext hW)
  obtain ⟨i, HI⟩ : ∃ i, Hid (idxA l a = i) := ⟨idxA l a, rfl⟩
  obtain ⟨j, HJ⟩ : ∃ j, Hid (idxB l b = j) := ⟨idxB l b, rfl⟩
  rw [HI.out, HJ.out] at hme
  rw [HI.out] at hx1 hx3
  rw [HJ.out] at hx2 hx3
  rw [hn] at hx1 hx2
  have s0 : (0 : Int) ≤ (i : Int) := by omega
  have s1 : (i : Int) ≤ (j : Int) := by omega
  have s2 : (j : Int) ≤ (c : Int) := by omega
  have HL : Hid ((midF l a b).length = j - i) := by unfold Hid midF; rw [HI.out, HJ.out]; simp; omega
  have HCM := Lib.hid (cutQ_mid hg HP)
  have HRS : Hid (∀ W, Ext w W → RnAt W w.heap.size (Option.map (fun x => x.add (i * 3)) A) (midF l a b)) := fun W e => by
    unfold midF; rw [HI.out, HJ.out]
    exact (hs.below e (Nat.le_refl _)).sub (by omega)
  clear hs hM hn hg h
  have HME := Lib.hid hme
  clear hme
  refine (callsIn_wide (n := 3)).1 ?_
  refine callsIn_of_wp_marks Try.func41 rfl trivial ?_ rfl
  simp only [Try.ntmps41, List.size_toArray, List.length_cons, List.length_nil, Nat.reduceAdd, Nat.reduceSub, Array.replicate_succ, Array.replicate_zero, List.push_toArray, List.append_toArray, List.nil_append, List.cons_append]
  gi_wp2_with (first
    | (refine ⟨trivial, ?_⟩; gi_at_call 50; refine (callsIn_wide.2 (len_any a b _)).mono ?_; rintro e w1 ⟨rfl, hb1⟩; obtain ⟨g0, g1, g2, g3, g4, E1⟩ := cellsI hb1)
    | (refine ⟨trivial, ?_⟩; gi_at_call 51; refine (callsIn_wide.2 (HME.out _ E1)).mono ?_; rintro e w2 ⟨rfl, hb2⟩; have C2 := hb1.trans (hb2.mono hb1.size); obtain ⟨m0, m1, m2, m3, m4, E2⟩ := cellsI C2; have m5 := twinI C2)
    | (refine ⟨trivial, ?_⟩; gi_at_call 37; refine (callsIn_wide.2 (HM.out _ E2)).mono ?_; rintro e w3 ⟨rfl, rfl⟩)
    | (refine ⟨trivial, ?_⟩; gi_at_call 44; refine (callsIn_wide.2 (through_any _ _ _ _)).mono ?_; rintro e w4 ⟨rfl, rfl⟩))
  · -- c = i
    have hR3 : RnAt w3 w.heap.size A (midF l a b) := RnAt.nil _ _ _ (by have := HL.out; omega)
    have eA : Ext w3 (w3.alloc (.cells #[.slice A (j - i) 0] 71)) := (Below.refl _ _).alloc (Nat.le_refl _) _
    have bI : Boxed (w3.alloc (.cells #[.slice A (j - i) 0] 71)) (w.heap.size + 1) 71 (.slice none 0 0) := Boxed.alloc m2 _
    have bS := Boxed.new w3 71 (.slice A (j - i) 0)
    have tS := m5.alloc (.cells #[.slice A (j - i) 0] 71)
    have hB0 : Below w.heap.size w (w3.alloc (.cells #[.slice A (j - i) 0] 71)) := E2.alloc (Nat.le_of_lt m3) _
    have hR0 := hR3.below (eA.mono (Nat.le_of_lt m3)) (Nat.le_refl _)
    have hsz : (w3.alloc (.cells #[.slice A (j - i) 0] 71)).heap.size = w3.heap.size + 1 := by simp
    obtain ⟨W0, hW0⟩ : ∃ W0, w3.alloc (.cells #[.slice A (j - i) 0] 71) = W0 := ⟨_, rfl⟩
    rw [hW0] at bI bS tS hB0 hR0 hsz ⊢
    clear hW0 eA
    refine wpIn_rangeFunc_ownH rfl (by omega) (gf := 59) (lb := #[.pointer (some ⟨w3.heap.size, 0, none⟩)]) rfl trivial (enters_of Try.func59 (by kernel_rfl) rfl)
      (thr_seq Fence.wide _ trivial rfl (by omega) w3.heap.size w.heap.size A (j - i) 0 (midF l a b) HL.out (by omega) W0 (by omega) (by omega) bS.cell hR0) belowK_t (belowK_b (by omega)) (Below.refl _ _) (fun _ => rfl)
      (InI w a b) (fun _ _ _ => False) (InI_own w a b (by omega)) (fun _ _ _ _ _ hs _ _ => hs)
      ⟨⟨⟨_, bI, World.ownsRow_nil _ _ _ _, trivial⟩, tS⟩, hB0⟩
      (fun x a' W => ∃ Bx, w.heap.size + 1 < Bx ∧ Twin W Bx 35 (.int .i64 x.1) (.int .i64 x.2.1) ∧ a' = { tmps := #[M, .agg #[.int .i64 a, .int .i64 b], undef, .pointer (some ⟨w.heap.size, 0, none⟩), .nilFunc, .pointer (some ⟨w.heap.size + 1, 0, none⟩), .int .i64 i, .int .i64 j, .pointer (some ⟨Bx, 0, none⟩), .int .i64 x.2.2, undef, undef, .agg #[.int .i64 a, .int .i64 b], .int .i64 (lenI a b), .bool true, .tuple #[.int .i64 i, .int .i64 j], M, .agg #[.int .i64 a, .int .i64 b], .tuple #[.int .i64 i, .int .i64 j], .int .i64 i, .int .i64 j, M, .slice A n i, .int .i64 i, .int .i64 j, .slice A (j - i) 0, .func (.func 59) #[] #[.pointer (some ⟨w3.heap.size, 0, none⟩)], .agg #[.int .i64 x.1, .int .i64 x.2.1], .int .i64 x.2.2, undef, undef, undef, undef, undef, undef, undef, undef, undef, undef, undef, undef, undef, undef], defers := [] })
      (fun x a' _ X Y row hs hg hr => by obtain ⟨Bx, h1, h2, h3⟩ := hs; exact ⟨Bx, h1, Twin.own Bx 35 (fun (_ : Unit) => Value.int .i64 x.1) (fun _ => Value.int .i64 x.2.1) () X Y row h2 hg (fun r e => (hr r e).2), h3⟩)
      ?assign ?body ?done ?stop
    case assign =>
      rintro lp pre x W K ⟨⟨⟨v, hv, hrow, -⟩, tS1⟩, hB1⟩ hK
      gi_wp2
      exact hK _ _ ((KeepsOthers.alloc _ _).from _) ((Below.refl _ W).alloc hB1.size _) ⟨⟨⟨v, hv.alloc _, hrow.alloc _, trivial⟩, tS1.alloc _⟩, hB1.alloc hB1.size _⟩ ⟨W.heap.size, hv.lt, Twin.new W _ _ _, rfl⟩
    case body =>
      rintro lp pre x a' W hl ⟨r, hr⟩ _ _ hlt
      exact absurd hlt (by omega)
    case done =>
      rintro D ys W hD rfl ⟨⟨⟨v, hv, hrow, -⟩, tS1⟩, hB1⟩ hK
      obtain ⟨A', n', c', rfl⟩ := own_slice hrow
      have hc := hv.cell
      gi_wp2_with (refine ⟨trivial, ?_⟩; gi_at_call 44; refine (callsIn_wide.2 (through_any A' n' c' _)).mono ?_; rintro e w6 ⟨rfl, rfl⟩)
      have hKa : (W.alloc (.cells #[.slice A' n' c'] 71)).heap[D]? = some (.deferred (some [])) := (KeepsOthers.alloc W _).same D _ hK rfl
      have hDW : D < W.heap.size := (Array.getElem?_eq_some_iff.1 hK).1
      refine ⟨by simp, .inl ⟨_, _, rfl, run_takeDeferred hKa, ?_⟩⟩
      exact ⟨_, results_tmp rfl _ _ _, W.heap.size, A', n', c', rfl, Box.kept (Box.new W _ _) (grownBy_putObj' _ D _) (fun e => by cases e; omega), hB1.size, by rw [HD.out, ← HCM.out]; exact ownsRow_putObj (World.ownsRow.alloc hrow _) _ hKa rfl, (hB1.alloc hB1.size _).trans (belowK_b (w := w) (Nat.le_refl _) _ D _ _ (by omega) hKa rfl rfl)⟩
    case stop =>
      rintro D c pre W _ _ h _
      exact h.elim
  · -- c ≠ i
    have hR3 : RnAt w3 w.heap.size (Option.map (fun x => x.add (i * 3)) A) (midF l a b) := HRS.out _ E2
    have eA : Ext w3 (w3.alloc (.cells #[.slice (Option.map (fun x => x.add (i * 3)) A) (j - i) (c - i)] 71)) := (Below.refl _ _).alloc (Nat.le_refl _) _
    have bI : Boxed (w3.alloc (.cells #[.slice (Option.map (fun x => x.add (i * 3)) A) (j - i) (c - i)] 71)) (w.heap.size + 1) 71 (.slice none 0 0) := Boxed.alloc m2 _
    have bS := Boxed.new w3 71 (.slice (Option.map (fun x => x.add (i * 3)) A) (j - i) (c - i))
    have tS := m5.alloc (.cells #[.slice (Option.map (fun x => x.add (i * 3)) A) (j - i) (c - i)] 71)
    have hB0 : Below w.heap.size w (w3.alloc (.cells #[.slice (Option.map (fun x => x.add (i * 3)) A) (j - i) (c - i)] 71)) := E2.alloc (Nat.le_of_lt m3) _
    have hR0 := hR3.below (eA.mono (Nat.le_of_lt m3)) (Nat.le_refl _)
    have hsz : (w3.alloc (.cells #[.slice (Option.map (fun x => x.add (i * 3)) A) (j - i) (c - i)] 71)).heap.size = w3.heap.size + 1 := by simp
    obtain ⟨W0, hW0⟩ : ∃ W0, w3.alloc (.cells #[.slice (Option.map (fun x => x.add (i * 3)) A) (j - i) (c - i)] 71) = W0 := ⟨_, rfl⟩
    rw [hW0] at bI bS tS hB0 hR0 hsz ⊢
    clear hW0 eA
    refine wpIn_rangeFunc_ownH rfl (by omega) (gf := 59) (lb := #[.pointer (some ⟨w3.heap.size, 0, none⟩)]) rfl trivial (enters_of Try.func59 (by kernel_rfl) rfl)
      (thr_seq Fence.wide _ trivial rfl (by omega) w3.heap.size w.heap.size (Option.map (fun x => x.add (i * 3)) A) (j - i) (c - i) (midF l a b) HL.out (by omega) W0 (by omega) (by omega) bS.cell hR0) belowK_t (belowK_b (by omega)) (Below.refl _ _) (fun _ => rfl)
      (InI w a b) (fun _ _ _ => False) (InI_own w a b (by omega)) (fun _ _ _ _ _ hs _ _ => hs)
      ⟨⟨⟨_, bI, World.ownsRow_nil _ _ _ _, trivial⟩, tS⟩, hB0⟩
      (fun x a' W => ∃ Bx, w.heap.size + 1 < Bx ∧ Twin W Bx 35 (.int .i64 x.1) (.int .i64 x.2.1) ∧ a' = { tmps := #[M, .agg #[.int .i64 a, .int .i64 b], undef, .pointer (some ⟨w.heap.size, 0, none⟩), .nilFunc, .pointer (some ⟨w.heap.size + 1, 0, none⟩), .int .i64 i, .int .i64 j, .pointer (some ⟨Bx, 0, none⟩), .int .i64 x.2.2, undef, undef, .agg #[.int .i64 a, .int .i64 b], .int .i64 (lenI a b), .bool true, .tuple #[.int .i64 i, .int .i64 j], M, .agg #[.int .i64 a, .int .i64 b], .tuple #[.int .i64 i, .int .i64 j], .int .i64 i, .int .i64 j, M, .slice A n c, .int .i64 i, .int .i64 j, .slice (Option.map (fun x => x.add (i * 3)) A) (j - i) (c - i), .func (.func 59) #[] #[.pointer (some ⟨w3.heap.size, 0, none⟩)], .agg #[.int .i64 x.1, .int .i64 x.2.1], .int .i64 x.2.2, undef, undef, undef, undef, undef, undef, undef, undef, undef, undef, undef, undef, undef, undef], defers := [] })
      (fun x a' _ X Y row hs hg hr => by obtain ⟨Bx, h1, h2, h3⟩ := hs; exact ⟨Bx, h1, Twin.own Bx 35 (fun (_ : Unit) => Value.int .i64 x.1) (fun _ => Value.int .i64 x.2.1) () X Y row h2 hg (fun r e => (hr r e).2), h3⟩)
      ?assign ?body ?done ?stop
    case assign =>
      rintro lp pre x W K ⟨⟨⟨v, hv, hrow, -⟩, tS1⟩, hB1⟩ hK
      gi_wp2
      exact hK _ _ ((KeepsOthers.alloc _ _).from _) ((Below.refl _ W).alloc hB1.size _) ⟨⟨⟨v, hv.alloc _, hrow.alloc _, trivial⟩, tS1.alloc _⟩, hB1.alloc hB1.size _⟩ ⟨W.heap.size, hv.lt, Twin.new W _ _ _, rfl⟩
    case body =>
      rintro lp pre x a' W hl ⟨r, hr⟩ ⟨⟨⟨v, hv, hrow, -⟩, tS1⟩, hB1⟩ ⟨Bx, hBx, tX, rfl⟩ hlt
      obtain ⟨x0, x1, x2⟩ := x
      dsimp only at tX ⊢
      have z0 := tX.c0
      have z1 := tX.c1
      have y0 := tS1.c0
      have y1 := tS1.c1
      have hpl : (pre.map (cutQ a b)).length = pre.length := List.length_map ..
      obtain ⟨i0, hi0, hiz, his, hib⟩ := info_parts infoRn
      gi_wp2_with (first
        | (refine ⟨trivial, ?_⟩; gi_at_call 57; refine (CallsIn.inRound lp (callsIn_wide.2 (meet_any x0 x1 a b W))).mono ?_; rintro e w5 ⟨rfl, hb5⟩; have hv5 : Boxed w5 (w.heap.size + 1) 71 v := (hb5.block _ hv.lt).trans hv; have hr5 : w5.ownsRow w.heap.size 81 3 v pre.length (flatR (pre.map (cutQ a b))) := (by have h := OwnR.ext hrow hb5; unfold OwnR at h; rwa [hpl] at h); have t5 := tS1.ext hb5; have hv6 := hv5.alloc (.cells #[.int .i64 (meetF x0 x1 a b), .int .i64 (meetT x0 x1 a b)] 35); have c6 := hv6.cell; have f6 := hv6.frozen; have g6 := hv5.lt; have hz5 := hb5.size; have hz1 := hB1.size)
        | (gi_at_builtin; refine wpListIn_append_own _ rfl _ _ 71 rfl w.heap.size 81 i0 _ 3 24 Try.underlying71 hi0 hiz his hib rfl (by decide) v pre.length (flatR (pre.map (cutQ a b))) rfl ((World.ownsRow.alloc hr5 _).alloc _) ⟨w5.heap.size + 1, 0, none⟩ 1 1 [.int .i64 (meetF x0 x1 a b), .int .i64 (meetT x0 x1 a b), .int .i64 x2] (by simp [go_sem]) rfl (World.news_of_block (cs := #[.int .i64 (meetF x0 x1 a b), .int .i64 (meetT x0 x1 a b), .int .i64 x2]) (t := 81) (fr := (0, 0)) (heap_new' _ _ (by simp))) (by simp [Value.oneCell']) (by unfold maxLen; omega) (by omega) (by simp; omega) ?_; intro v' w1 hown' hgrow _; obtain ⟨g', cap', rfl⟩ := ownsRow_succ hown'; obtain ⟨hv1, hv2, hr2, hk2, hb2⟩ := hv6.appended (by decide) (World.ownsRow.alloc hr5 _) (by simp; omega) (Nat.le_succ _) hown' hgrow; have hc1 := hv1.cell; have hf1 := hv1.frozen))
      refine ⟨((keeps_ext hb5).trans ((KeepsOthers.alloc _ _).trans hk2)).from _, ((hb5.mono hz1).alloc (by omega) _).trans hb2, ⟨⟨⟨_, hv2, ?_, trivial⟩, (((t5.alloc _).alloc _).kept hgrow (t5.not_row (by decide) hr5)).other (by omega) _⟩, hB1.trans (((hb5.mono hz1).alloc (by omega) _).trans hb2)⟩⟩
      unfold OwnR
      rw [List.map_append, flatR_append, List.length_append, hpl]
      exact hr2
    case done =>
      rintro D ys W hD rfl ⟨⟨⟨v, hv, hrow, -⟩, tS1⟩, hB1⟩ hK
      obtain ⟨A', n', c', rfl⟩ := own_slice hrow
      have hc := hv.cell
      gi_wp2_with (refine ⟨trivial, ?_⟩; gi_at_call 44; refine (callsIn_wide.2 (through_any A' n' c' _)).mono ?_; rintro e w6 ⟨rfl, rfl⟩)
      have hKa : (W.alloc (.cells #[.slice A' n' c'] 71)).heap[D]? = some (.deferred (some [])) := (KeepsOthers.alloc W _).same D _ hK rfl
      have hDW : D < W.heap.size := (Array.getElem?_eq_some_iff.1 hK).1
      refine ⟨by simp, .inl ⟨_, _, rfl, run_takeDeferred hKa, ?_⟩⟩
      exact ⟨_, results_tmp rfl _ _ _, W.heap.size, A', n', c', rfl, Box.kept (Box.new W _ _) (grownBy_putObj' _ D _) (fun e => by cases e; omega), hB1.size, by rw [HD.out, ← HCM.out]; exact ownsRow_putObj (World.ownsRow.alloc hrow _) _ hKa rfl, (hB1.alloc hB1.size _).trans (belowK_b (w := w) (Nat.le_refl _) _ D _ _ (by omega) hKa rfl rfl)⟩
    case stop =>
      rintro D c pre W _ _ h _
      exact h.elim
theorem In_any (M : Value) (A : Option Addr) (n c : Nat) (l : List Rn) (a b : Int) (w : World) (hM : Lists M w A n c) (hn : l.length = n) (hnc : n ≤ c) (hbig : n ≤ 1000) (hg : Good 0 Option.none l) (hs : RnAt w w.heap.size A l) :
    Calls Try.prog 41 #[M, .agg #[.int .i64 a, .int .i64 b]] w fun e w' => InPost (inI l a b) w w' e := by
  by_cases h : 0 < lenI a b
  · exact In_some M A n c l a b w hM hn hnc hbig hg hs h
  · exact In_none M l a b w h
end Go.Proofs.Ytlnfpolhccbnpaa
