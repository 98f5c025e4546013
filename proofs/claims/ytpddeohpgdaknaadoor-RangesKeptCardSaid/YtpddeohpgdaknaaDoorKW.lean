/-
  RangesKept: the walk.
-/
import Derived.Deep.DeepCutAuto
import Derived.Test.YtpddeohpgdaknaaDoorKA
namespace Go.Proofs.YtpddeohpgdaknaaDoor
open Go Go.RowKit

/-- a row of spans' cells -/
abbrev SBlk (w : World) (g : Nat) (cur : Array Value) : Prop := w.heap[g]? = some (.cells cur 29 (0, 0))
theorem SBlk.cell {w : World} {g k : Nat} {cur : Array Value} (h : SBlk w g cur) : w.cell? ⟨g, k, none⟩ = cur[k]? := cell_of_row w g k cur _ _ h
theorem SBlk.free {w : World} {g k : Nat} {cur : Array Value} (h : SBlk w g cur) : w.frozen? ⟨g, k, none⟩ = false := by simp [World.frozen?, show w.heap[g]? = _ from h]
theorem SBlk.set {w : World} {g k : Nat} {cur : Array Value} (v : Value) (h : SBlk w g cur) : ∃ cur', cur'.size = cur.size ∧ SBlk (w.setCell ⟨g, k, none⟩ v) g cur' := by
  obtain ⟨hlt, hk⟩ := Array.getElem?_eq_some_iff.1 h
  refine ⟨cur.setIfInBounds k v, by simp, ?_⟩
  show (w.heap.modify g _)[g]? = _
  rw [Array.getElem?_eq_getElem (by rw [Array.size_modify]; exact hlt), Array.getElem_modify_self, hk]
  rfl
theorem But.setAt (p k : Nat) (W : World) (v : Value) : But p W (W.setCell ⟨p, k, none⟩ v) := ⟨rfl, rfl, rfl, by simp, fun j _ hj => Below.heap_setCell _ _ _ j (fun e => hj (by rw [e]))⟩
theorem own_sblk {w : World} {base g n c : Nat} {xs : List Value} (h : w.ownsRow base 29 2 (.slice (some ⟨g, 0, none⟩) n c) n xs) : ∃ cur, SBlk w g cur ∧ base ≤ g ∧ n * 2 ≤ cur.size := by
  rcases h.2 with ⟨h', _⟩ | ⟨g', cap', cur, h', hb, hg, h1, h2, h3, h4⟩
  · simp at h'
  · simp only [Value.slice.injEq, Option.some.injEq, Addr.mk.injEq, and_true, true_and] at h'
    obtain ⟨rfl, rfl⟩ := h'
    exact ⟨cur, hg, hb, by omega⟩

theorem IsSp.sp {W : World} {A : Option Addr} {n c : Nat} {l : List Sp} (h : IsSp W (.slice A n c) l) : SpAt W W.heap.size A l := by
  obtain ⟨A', c', e, _, h'⟩ := h
  simp only [Value.slice.injEq] at e
  rw [e.1]; exact h'
theorem box_snd (W : World) (o : Obj) (t : TypeId) (v : Value) : Box ((W.alloc o).alloc (.cells #[v] t)) (W.heap.size + 1) t v := by
  have h := Box.new (W.alloc o) t v
  rw [World.size_alloc] at h; exact h
theorem IsSet.but {p : Nat} {W W' : World} {t : TypeId} {v u : Value} {l : List Sp} (h : IsSet W u l) (hp : Box W p t v) (hb : But p W W') : IsSet W' u l := by
  obtain ⟨s, e, ⟨A, c, e2, hc, hs⟩, hca⟩ := h
  exact ⟨s, e, ⟨A, c, e2, hc, hs.but hp hb⟩, hca⟩
/-- all that was there reads as it did, but one's own row of m spans -/
structure Writ (w W : World) (A : Option Addr) (m c : Nat) : Prop where
  grown : w.grownBy W (Value.slice A m c).ownBlock
  row : 0 < m → ∃ g cur, A = some ⟨g, 0, none⟩ ∧ SBlk W g cur ∧ m * 2 ≤ cur.size
theorem Writ.start {w : World} {base : Nat} {A : Option Addr} {c : Nat} {l : List Sp} (h : OwnS w base (.slice A l.length c) l) : Writ w w A l.length c :=
  ⟨World.grownBy.refl w _, fun h0 => by
    obtain ⟨g, cap, e, _, _⟩ := World.ownsRow.form h h0
    simp only [Value.slice.injEq] at e
    obtain ⟨rfl, _, rfl⟩ := e
    obtain ⟨cur, h1, _, h2⟩ := own_sblk h
    exact ⟨g, cur, rfl, h1, h2⟩⟩
theorem Writ.set {w W : World} {g m c k : Nat} (v : Value) (h : Writ w W (some ⟨g, 0, none⟩) m c) : Writ w (W.setCell ⟨g, k, none⟩ v) (some ⟨g, 0, none⟩) m c :=
  ⟨But.tr h.grown (But.setAt g k W v), fun h0 => by
    obtain ⟨g', cur, e, h1, h2⟩ := h.row h0
    simp only [Option.some.injEq, Addr.mk.injEq, and_true] at e
    subst e
    obtain ⟨cur', e', h'⟩ := h1.set (k := k) v
    exact ⟨g, cur', rfl, h', by omega⟩⟩

set_option maxHeartbeats 16000000 in
set_option maxRecDepth 100000 in
theorem walk_RangesKept (A : Option Addr) (n c : Nat) (l : List Sp) (k : Int) (w : World) (hn : l.length = n) (hmx : n ≤ maxLen) (hs : SpAt w w.heap.size A l) (wk : (Lit.int .u8 k).wf = true) :
    Calls Tryd.prog 3 #[.slice A n c, .int .u8 k] w fun e w' => e = .returned (.bool true) ∧ Below w.heap.size w w' := by
  have HS := Lib.hid hs
  have HN := Lib.hid hn
  clear hs hn
  obtain ⟨hk0, hk1⟩ : 0 ≤ k ∧ k ≤ 255 := by simp only [Lit.wf, Bool.and_eq_true, decide_eq_true_eq] at wk; exact wk
  clear wk
  have hmx' := hmx
  unfold maxLen at hmx'
  by_cases hbig : 20 < n
  · go_enter Tryd.func3, Tryd.ntmps3
    go_wp2_with fail
    with_reducible refine (wakes_any _).mono ?_
    rintro e w1 ⟨rfl, hb1⟩
    go_wp2_with fail
    have hg := great1 w1.heap.size n c A (w1.alloc (.cells #[.slice A n c] 22)) (by simp) hmx
    rw [show decide (20 < n) = true from by simpa using hbig] at hg
    with_reducible refine hg.mono ?_
    rintro e w2 ⟨rfl, rfl⟩
    clear hg
    go_wp2
    go_ret
    exact ⟨rfl, Ext.tr hb1 ((Below.refl _ _).alloc (Nat.le_refl _) _)⟩
  · have hn20 : n ≤ 20 := by omega
    have hnl : (normL l).length ≤ 20 := by have := normL_len l; have := HN.out; omega
    go_enter Tryd.func3, Tryd.ntmps3
    go_wp2_with fail
    with_reducible refine (wakes_any _).mono ?_
    rintro e w1 ⟨rfl, hb1⟩
    go_wp2_with fail
    have hg := great1 w1.heap.size n c A (w1.alloc (.cells #[.slice A n c] 22)) (by simp) hmx
    rw [show decide (20 < n) = false from by simpa using hbig] at hg
    with_reducible refine hg.mono ?_
    rintro e w2 ⟨rfl, rfl⟩
    clear hg
    generalize hw2 : w1.alloc (.cells #[.slice A n c] 22) = w2
    have E2 : Ext w w2 := by rw [← hw2]; exact Ext.tr hb1 ((Below.refl _ _).alloc (Nat.le_refl _) _)
    clear hw2 hb1
    have HA2 := Lib.hid (HS.out.below E2 E2.size)
    have hl := HN.out
    subst hl
    go_wp2_with (at_builtin; refine app_spans _ (by rfl) _ _ (by rfl) w2.heap.size _ [] l (by rfl) (OwnS.nil_at w2 _ (Nat.le_refl _)) w2.heap.size A c (by rfl) (HA2.out.below (by go_grown) (Nat.le_refl _)) (by simp; omega) (by simp) ?_; intro v1 w3 hown1 hgrow; have E3 : Ext w2 w3 := below_app_same (by go_grown) (by simp) (OwnS.nil_at w2 _ (Nat.le_refl _)) hgrow; have O1 := Lib.hid hown1; clear hgrow hown1)
    rw [List.nil_append] at O1
    obtain ⟨A1, c1, rfl, hcc1, hsp1⟩ := IsSp.own O1.out
    have hO := Of_own A1 c1 l w3 (by omega) hsp1
    clear hsp1
    with_reducible refine hO.mono ?_
    rintro e w4 ⟨v3, out, rfl, hown3, hca, hiff, hle, hb4⟩
    clear hO
    obtain rfl : out = normL l := Norm.is ⟨hca, hiff⟩
    have HCA := Lib.hid hca
    clear hiff hca
    obtain ⟨A3, n3, c3, rfl, HN3, hcc3, -⟩ := (IsSp.own hown3).split
    have O3 := Lib.hid hown3
    have E4 : Ext w3 w4 := hb4
    have O1' := Lib.hid (Below.own O1.out E4)
    have hlt1 : Hid (∀ g, (Value.slice A1 l.length c1).ownBlock = some g → g < w3.heap.size + 1) := fun g hg => by have := (World.ownsRow.lt O1.out g hg).2; omega
    clear hown3 hb4 O1
    go_wp2_with fail
    generalize hw5 : w4.alloc (.cells #[.slice A3 n3 c3] 26) = w5
    have E5 : Ext w4 w5 := by rw [← hw5]; exact (Below.refl _ _).alloc (Nat.le_refl _) _
    have B5 : Hid (Box w5 w4.heap.size 26 (.slice A3 n3 c3)) := by unfold Hid; rw [← hw5]; exact Box.new w4 _ _
    have O5 := Lib.hid (Below.own O3.out E5)
    have R5 := Lib.hid (Below.own O1'.out E5)
    have EW : Ext w w5 := Ext.tr E2 (Ext.tr E3 (Ext.tr E4 E5))
    have hg1 : Hid (∀ g, (Value.slice A1 l.length c1).ownBlock = some g → w2.heap.size ≤ g ∧ g < w4.heap.size ∧ g < w3.heap.size + 1) := fun g hg => ⟨(World.ownsRow.lt O1'.out g hg).1, (World.ownsRow.lt O1'.out g hg).2, hlt1 g hg⟩
    clear hw5 O3 O1'
    go_loopw [23] (fun i wr => ∃ j : Nat, j ≤ l.length ∧ i = .int .i64 j ∧ Writ w5 wr A1 l.length c1) (fun i _ => l.length - (intOf i).toNat)
    case atStart => exact ⟨0, Nat.zero_le _, rfl, Writ.start R5.out⟩
    case round =>
      obtain ⟨j, hj, rfl, hwr⟩ := hrel
      by_cases hlt : j < l.length
      · obtain ⟨g, cur, rfl, hsb, hsz⟩ := hwr.row (by omega)
        obtain ⟨u0, c0⟩ : ∃ u, wr.cell? ⟨g, j * 2, none⟩ = some u := ⟨_, by rw [hsb.cell, Array.getElem?_eq_getElem (by omega)]⟩
        obtain ⟨u1, c1'⟩ : ∃ u, wr.cell? ⟨g, j * 2 + 1, none⟩ = some u := ⟨_, by rw [hsb.cell, Array.getElem?_eq_getElem (by omega)]⟩
        have f0 : wr.frozen? ⟨g, j * 2, none⟩ = false := hsb.free
        have f1 : wr.frozen? ⟨g, j * 2 + 1, none⟩ = false := hsb.free
        have HW := Lib.hid hwr
        clear hwr hsb
        go_wp2
        go_roundw
        case rel => exact ⟨j + 1, by omega, by go_num, (HW.out.set _).set _⟩
        case measure => simp [intOf]; omega
      · obtain rfl : j = l.length := by omega
        rename World => w6
        have hG := hwr.grown
        have hB6 : Box w6 w4.heap.size 26 (.slice A3 n3 c3) := (hG.block w4.heap.size B5.out.lt (by intro e; have := (hg1.out _ e.symm).2.1; omega)).trans B5.out
        have h6 := hB6.cell
        have hO6 : OwnS w6 (w3.heap.size + 1) (.slice A3 n3 c3) (normL l) := World.ownsRow.kept O5.out hG (by
          cases hv : (Value.slice A3 n3 c3).ownBlock with
          | none => exact .inl rfl
          | some g => exact .inr (by intro e; have h1 := (hg1.out _ e.symm).2.2; have h2 := (World.ownsRow.lt O5.out g hv).1; omega))
        have hE6 : Ext w w6 := EW.grown hG EW.size (fun g hg => by have := (hg1.out g hg).1; have := E2.size; omega)
        have B6 := Lib.hid hB6; have O6 := Lib.hid hO6
        have hz6 : w4.heap.size < w6.heap.size := hB6.lt
        have h36 : w3.heap.size + 1 ≤ w6.heap.size := by have := E4.size; omega
        have SP6 := Lib.hid (IsSp.own hO6).sp
        clear hwr hG hB6 hO6 B5 O5 R5 EW hg1 E5 hlt1
        go_wp2_with fail
        have hS := Spans_own A3 n3 c3 (normL l) w6 HN3.out (by have := HN3.out; omega) SP6.out
        with_reducible refine hS.mono ?_
        rintro e w7 ⟨v8, rfl, hown8, hb7⟩
        clear hS
        obtain ⟨A8, c8, rfl, hcc8, -⟩ := IsSp.own hown8
        have E7 : Ext w6 w7 := hb7
        have B7 := Lib.hid (B6.out.ext E7)
        have O7 := Lib.hid (Below.own O6.out E7)
        have R7 := Lib.hid hown8
        have EW7 : Ext w w7 := Ext.tr hE6 E7
        have hg8 : Hid (∀ g, (Value.slice A8 (normL l).length c8).ownBlock = some g → w6.heap.size ≤ g) := fun g hg => (World.ownsRow.lt hown8 g hg).1
        have hv3 : Hid (∀ g, (Value.slice A3 n3 c3).ownBlock = some g → g < w6.heap.size) := fun g hg => (World.ownsRow.lt O6.out g hg).2
        have hzw : w.heap.size ≤ w6.heap.size := hE6.size
        clear hb7 hown8 B6 O6 hE6
        go_wp2
        go_loopw [38] (fun i wr => ∃ j : Nat, j ≤ (normL l).length ∧ i = .int .i64 j ∧ Writ w7 wr A8 (normL l).length c8) (fun i _ => (normL l).length - (intOf i).toNat)
        case atStart => exact ⟨0, Nat.zero_le _, rfl, Writ.start R7.out⟩
        case round =>
          obtain ⟨j, hj, rfl, hwr⟩ := hrel
          by_cases hlt : j < (normL l).length
          · obtain ⟨g, cur, rfl, hsb, hsz⟩ := hwr.row (by omega)
            obtain ⟨u0, c0⟩ : ∃ u, wr.cell? ⟨g, j * 2, none⟩ = some u := ⟨_, by rw [hsb.cell, Array.getElem?_eq_getElem (by omega)]⟩
            obtain ⟨u1, c1'⟩ : ∃ u, wr.cell? ⟨g, j * 2 + 1, none⟩ = some u := ⟨_, by rw [hsb.cell, Array.getElem?_eq_getElem (by omega)]⟩
            have f0 : wr.frozen? ⟨g, j * 2, none⟩ = false := hsb.free
            have f1 : wr.frozen? ⟨g, j * 2 + 1, none⟩ = false := hsb.free
            have HW := Lib.hid hwr
            clear hwr hsb
            go_wp2
            go_roundw
            case rel => exact ⟨j + 1, by omega, by go_num, (HW.out.set _).set _⟩
            case measure => simp [intOf]; omega
          · obtain rfl : j = (normL l).length := by omega
            have hG := hwr.grown
            have hB8 : Box wr w4.heap.size 26 (.slice A3 n3 c3) := (hG.block w4.heap.size B7.out.lt (by intro e; have := hg8.out _ e.symm; omega)).trans B7.out
            have h8 := hB8.cell
            have hO8 : OwnS wr (w3.heap.size + 1) (.slice A3 n3 c3) (normL l) := World.ownsRow.kept O7.out hG (by
              cases hv : (Value.slice A3 n3 c3).ownBlock with
              | none => exact .inl rfl
              | some g => exact .inr (by intro e; have h1 := hg8.out _ e.symm; have h2 := hv3.out g hv; omega))
            have hE8 : Ext w wr := EW7.grown hG EW7.size (fun g hg => by have := hg8.out g hg; omega)
            have hset : IsSet wr (.agg #[.slice A3 n3 c3]) (normL l) := ⟨_, rfl, IsSp.own hO8, HCA.out⟩
            have SET := Lib.hid hset
            have B8 := Lib.hid hB8
            clear hwr hG hB8 hO8 hset B7 O7 R7 hg8 hv3 EW7
            go_wp2
            obtain ⟨T, HT⟩ : ∃ T, Hid (T = keepL 1 (normL l) (normL [(k, k + 5)])) := ⟨_, rfl⟩
            have SK : ∀ W, Ext wr W → (Ext wr W ∧ W.cell? ⟨w4.heap.size, 0, none⟩ = some (.slice A3 n3 c3)) := fun W e => ⟨e, by rw [e.cell (p := ⟨w4.heap.size, 0, none⟩) B8.out.lt]; exact h8⟩
            have hwk : IntKind.i64.wrap (k + 5) = k + 5 := by rw [IntKind.wrap_i64]; omega
            have hwk0 : IntKind.i64.wrap k = k := by rw [IntKind.wrap_i64]; omega
            have hsz1 : (normL [(k, k + 5)]).length ≤ 1 := normL_len _
            have hzz : ∀ a : Nat, a < a + 1 ∧ a < a + 1 + 1 ∧ a + 1 < a + 1 + 1 := fun a => by omega
            go_cut [10] (fun s10 wx => ∃ q x, s10 = .pointer (some ⟨q, 0, none⟩) ∧ Box wx q 26 x ∧ IsSet wx (.agg #[x]) T ∧ T.length ≤ 100 ∧ Ext wr wx)
            case first =>
              go_region_held3 (fun W => Ext wr W ∧ W.cell? ⟨w4.heap.size, 0, none⟩ = some (.slice A3 n3 c3)) (first | exact SK _ (Below.setCell X10 (by first | exact Nat.le_refl _ | exact Nat.le_succ _ | exact Nat.le_of_lt hz9.1) _) | exact SK _ (Ext.tr X10 (by go_grown)) | exact SK _ (Ext.tr X9 (by go_grown)) | exact SK _ (by go_grown))
                (first
                  | (go_at_call 6; refine (Of_set _ 1 1 [(k, k + 5)] _ rfl (by omega) (by intro _; refine ⟨_, 0, rfl, (by first | (simp; done) | (simp; omega)), fun j hj => ?_⟩; have : j = 0 := (by simpa using hj); subst this; simp)).mono ?_; rintro e w9 ⟨v9, rfl, h9, hb9⟩; have X9 : Ext wr w9 := Ext.tr (by go_grown) hb9; have H9 := Lib.hid h9; obtain ⟨hc9, hf9⟩ := bcell hb9; (first | have bx : Hid (Box w9 wr.heap.size 26 (.slice none 0 0)) := Box.ext ((Box.new wr.drew 26 (.slice none 0 0)).ext ((Below.refl _ _).alloc (Nat.le_refl _) _)) hb9 | have bx : Hid (Box w9 (wr.heap.size + 1) 26 (.slice none 0 0)) := Box.ext (box_snd wr.drew (.cells #[.int .i64 k, .int .i64 (k + 5)] 29) _ _) hb9 | skip); (first | have hz9 : wr.heap.size < w9.heap.size ∧ wr.heap.size + 1 < w9.heap.size ∧ wr.heap.size ≠ w9.heap.size ∧ wr.heap.size + 1 ≠ w9.heap.size := (by have := hb9.size; (try simp at this); omega) | have hz9 : wr.heap.size < w9.heap.size ∧ wr.heap.size ≠ w9.heap.size := (by have := hb9.size; (try simp at this); omega)); clear hb9 h9)
                  | (go_at_call 8; refine (Or_set (IsSet.st _ _ _ SET.out (Ext.tr X9 (by go_grown))) (IsSet.st _ _ _ H9.out (by go_grown)) (by omega) (by omega)).mono ?_; rintro e w10 ⟨v10, rfl, ⟨h10, h10l⟩, hb10⟩; obtain ⟨A10, n10, c10, rfl, -, -, -, -⟩ := h10.split; have X10 : Ext wr w10 := Ext.tr X9 (Ext.tr (by go_grown) hb10); have H10 := Lib.hid h10; have L10 := Lib.hid h10l; obtain ⟨hc10, hf10⟩ := bcell hb10; (first | have by_ := Lib.hid (Box.ext bx.out hb10) | have by_ : Hid (Box w10 w9.heap.size 26 (.slice none 0 0)) := Box.ext (Box.new w9 _ _) hb10 | skip); (first | have hz10 : wr.heap.size < w10.heap.size ∧ wr.heap.size + 1 < w10.heap.size ∧ w9.heap.size < w10.heap.size ∧ w9.heap.size ≠ w10.heap.size := (by have := hb10.size; (try simp at this); omega) | have hz10 : wr.heap.size < w10.heap.size ∧ wr.heap.size + 1 < w10.heap.size := (by have := hb10.size; (try simp at this); omega) | have hz10 : wr.heap.size < w10.heap.size := (by have := hb10.size; (try simp at this); omega)); clear hb10 h10 h10l))
              all_goals
                go_wp2_with fail
                go_meet
                first
                  | exact ⟨w10.heap.size, _, rfl, Box.new w10 _ _, by rw [HT.out]; exact IsSet.st _ _ _ H10.out (by go_grown), by rw [HT.out]; have := L10.out; omega, Ext.tr X10 (by go_grown)⟩
                  | exact ⟨_, _, rfl, Box.set _ by_.out, by rw [HT.out]; exact IsSet.but H10.out by_.out (But.set _ _ _), by rw [HT.out]; have := L10.out; omega, Below.setCell X10 (by first | exact Nat.le_refl _ | exact Nat.le_succ _ | exact Nat.le_of_lt hz9.1) _⟩
            case rest =>
              obtain ⟨q, x, rfl, bq, hT, hTl, hE⟩ := hcut
              rename World => w11
              obtain ⟨A11, n11, c11, hx, -, -, -, -⟩ := hT.split
              simp only [Value.agg.injEq, Array.mk.injEq, List.cons.injEq, and_true] at hx
              subst hx
              have h11 : w11.cell? ⟨w4.heap.size, 0, none⟩ = some (.slice A3 n3 c3) := (SK w11 hE).2
              have hTT := Lib.hid hT
              have BQ := Lib.hid bq
              have E11 : Ext w w11 := Ext.tr hE8 hE
              have hone : Canon (normL [(k, k + 5)]) := (normL_norm _).1
              have hyes : Hid (anyHas T k = true) := by
                unfold Hid
                rw [HT.out, (keepL_spec 1 HCA.out hone).2, norm_has]
                have e : anyHas [(k, k + 5)] k = true := by rw [anyHas_iff]; exact ⟨(k, k + 5), by simp, by unfold InS; simp only; omega⟩
                rw [norm_has, e]
                cases anyHas l k <;> rfl
              clear hT bq SK hone h8
              go_wp2_with fail
              have hS := Spans_set (IsSet.st _ _ _ SET.out hE) (by omega)
              with_reducible refine hS.mono ?_
              rintro e w12 ⟨v12, rfl, hsp12, hb12⟩
              clear hS
              have S12 := Lib.hid hsp12
              have E12 : Ext w11 w12 := hb12
              clear hsp12 hb12
              go_wp2_with fail
              have hO := rOf_set A l.length c l w12 rfl (by omega) (HS.out.below (Ext.tr E11 E12) (Ext.tr E11 E12).size)
              with_reducible refine hO.mono ?_
              rintro e w13 ⟨v13, rfl, hsp13, hb13⟩
              clear hO
              have S13 := Lib.hid hsp13
              have S12' := Lib.hid (IsSp.st _ _ _ S12.out hb13)
              have E13 : Ext w11 w13 := Ext.tr E12 hb13
              clear hsp13 hb13 S12 E12
              go_wp2_with fail
              have hL := list_sp S12'.out S13.out (by omega)
              rw [show decide (normL l = normL l) = true from by simp] at hL
              with_reducible refine hL.mono ?_
              rintro e w14 ⟨rfl, hb14⟩
              clear hL
              have E14 : Ext w11 w14 := Ext.tr E13 hb14
              have hq : w14.cell? ⟨q, 0, none⟩ = some (.slice A11 n11 c11) := (BQ.out.ext E14).cell
              clear hb14 E13 S12' S13
              go_wp2_with fail
              have hH := Has_set k (IsSet.st _ _ _ hTT.out E14) (by omega)
              rw [hyes.out] at hH
              with_reducible refine hH.mono ?_
              rintro e w15 ⟨rfl, hb15⟩
              clear hH
              have E15 : Ext w w15 := Ext.tr E11 (Ext.tr E14 hb15)
              clear hb15
              go_wp2
              go_ret
              exact ⟨rfl, E15⟩
end Go.Proofs.YtpddeohpgdaknaaDoor
