/-
  spec.Fold by a contract: what any spans are made fewer to.
-/
import Derived.Test.YtdmkfleiipfbgaaDoorPH
namespace Go.Proofs.YtdmkfleiipfbgaaDoor
open Go Go.RowKit
open Go.Sort (grow)

/-- the set with short gaps closed -/
noncomputable def wideL (g : Int) (l : List Sp) : List Sp := closeL g (normL l)
theorem wideL_canon (g : Int) (l : List Sp) : Canon (wideL g l) := near_canon g (normL_norm l).1
theorem wideL_len (g : Int) (l : List Sp) : (wideL g l).length ≤ l.length := by
  have h1 := closeL_len g (normL l)
  have h2 := normL_len l
  unfold wideL; omega
noncomputable def foldL (g : Int) (l : List Sp) : List Sp := foldF (wideL g l) l

theorem infoBool : (Tryd.prog.info? 4).map (fun i => (i.zero, i.size, i.bytes)) = some (some (.bool false), 1, 1) := by kernel_rfl
abbrev OwnB (w : World) (base : Nat) (v : Value) (l : List Bool) : Prop := w.ownsRow base 4 1 v l.length (l.map Value.bool)
theorem own_ext {w W : World} {base e size n : Nat} {v : Value} {xs : List Value} (h : w.ownsRow base e size v n xs) (hb : Ext w W) : W.ownsRow base e size v n xs :=
  World.ownsRow.kept (row := none) h ⟨hb.os, hb.tape, hb.output, hb.size, fun k hk _ => hb.block k hk⟩ (by
    cases hv : v.ownBlock with
    | none => exact .inl rfl
    | some g => exact .inr (by simp))

theorem own_base {w : World} {b b' e size n : Nat} {v : Value} {xs : List Value} (h : w.ownsRow b' e size v n xs) (hb : b ≤ b') : w.ownsRow b e size v n xs := by
  refine ⟨h.1, ?_⟩
  rcases h.2 with h2 | ⟨g, cap, cur, h1, h2, h3⟩
  · exact .inl h2
  · exact .inr ⟨g, cap, cur, h1, by omega, h3⟩
theorem own_lt {w : World} {b e size n cap g o : Nat} {xs : List Value} (h : w.ownsRow b e size (.slice (some ⟨g, o, none⟩) n cap) n xs) : g < w.heap.size := by
  rcases h.2 with ⟨h2, _⟩ | ⟨g', cap', cur, h1, _, h3, _⟩
  · cases h2
  · injection h1 with h1 _ _
    injection h1 with h1
    injection h1 with h1
    subst h1
    rcases Nat.lt_or_ge g w.heap.size with h' | h'
    · exact h'
    · rw [Array.getElem?_eq_none h'] at h3; cases h3

theorem rg4 {P : Program} {f : FuncId} {args : Array Value} {w : World} {v : Value} (h : ∀ W, Below w.heap.size w W → Calls P f args W fun e w' => e = .returned v ∧ Below W.heap.size W w') :
    ∀ d os, Calls P f args (grow (redrawn w d) os) fun e w'' => e = .returned v ∧ ∃ p : Regrown, w'' = grow (redrawn w p.d) p.os :=
  fun d os => Calls.regrown_of (h _ (below_regrown w d os))

theorem set_other {w : World} {a b : Addr} {v : Value} {r : Option Value} (h : a.block ≠ b.block) (hc : w.cell? b = r) : (w.setCell a v).cell? b = r := by
  have hne : a ≠ b := fun e => h (by rw [e])
  first
    | rw [World.cell?_setCell_other hne]; exact hc
    | rw [World.cell?_setCell_other _ hne]; exact hc
    | rw [World.cell?_setCell_other _ _ _ hne]; exact hc
    | rw [World.cell?_setCell_other _ _ _ _ hne]; exact hc

def FoldPost (g : Int) (l : List Sp) (w w' : World) (e : Ending) : Prop :=
  ∃ v, e = .returned v ∧ OwnS w' w.heap.size v (foldL g l) ∧ Below w.heap.size w w'

set_option maxHeartbeats 8000000 in
set_option maxRecDepth 100000 in
theorem fold_any (g : Int) (A : Option Addr) (n c : Nat) (l : List Sp) (w : World) (hn : l.length = n) (hm : n ≤ 100000) (hs : SpAt w w.heap.size A l) :
    Calls Tryd.prog 24 #[.slice A n c, .int .i64 g] w fun e w' => FoldPost g l w w' e := by
  have hOf := Of_set A n c l w hn (by omega) hs
  have hnl : (normL l).length ≤ 1000000 := by have := normL_len l; omega
  have hNe := fun W v (h : IsSet W v (normL l)) => Near_set g h hnl
  have hwl : (wideL g l).length ≤ 100000 := by have := wideL_len g l; omega
  have hwc := wideL_canon g l
  have hSp := fun W v (h : IsSet W v (wideL g l)) => Spans_set h (by omega)
  have HFO : Hid (foldL g l = foldF (wideL g l) l) := rfl
  change ∀ W v (h : IsSet W v (normL l)), Calls Tryd.prog 51 #[v, .int .i64 g] W fun e w' => ∃ v', e = .returned v' ∧ IsSet w' v' (wideL g l) ∧ Below W.heap.size W w' at hNe
  have HS := Lib.hid hs
  clear hs
  have HL := Lib.hid hn
  clear hn hnl
  generalize wideL g l = wd at *
  generalize normL l = nl at *
  go_enter Tryd.func24, Tryd.ntmps24
  go_wp2_with (first
    | (go_at_call 50; refine hOf.mono ?_; rintro e w1 ⟨v1, rfl, hset1, hb1⟩)
    | (go_at_call 51; refine (hNe _ _ hset1).mono ?_; rintro e w2 ⟨v2, rfl, hset2, hb2⟩; have B2 := Ext.tr hb1 hb2)
    | (go_at_call 33; refine (hSp _ _ hset2).mono ?_; rintro e w3 ⟨v3, rfl, hsp3, hb3⟩; have B3 := Ext.tr B2 hb3; obtain ⟨A3, n3, c3, rfl, HN3, hc3, hs3⟩ := hsp3.split; have HS3 := Lib.hid hs3; clear hs3 hsp3))
  obtain ⟨ib, hib, hz0, hz1, hz2⟩ := info_parts infoBool
  have hn3 : n3 ≤ 100000 := by have := HN3.out; omega
  have B0 : Ext w (w3.alloc (.cells #[.slice A3 n3 c3] 35)) := Ext.tr B3 ((Below.refl _ _).alloc (Nat.le_refl _) _)
  have hcw : (w3.alloc (.cells #[.slice A3 n3 c3] 35)).cell? ⟨w3.heap.size, 0, none⟩ = some (.slice A3 n3 c3) := by simp
  have hs3 : SpAt (w3.alloc (.cells #[.slice A3 n3 c3] 35)) (w3.heap.size + 1) A3 wd := by
    have h := HS3.out.below ((Below.refl _ _).alloc (Nat.le_refl _) (.cells #[.slice A3 n3 c3] 35)) (Nat.le_succ _)
    exact h
  obtain ⟨w4, hrun, hst, hgr⟩ := run_make_full (P := Tryd.prog) (w3.alloc (.cells #[.slice A3 n3 c3] 35)) (w3.heap.size + 1) 69 4 ib (.bool false) 1 Tryd.underlying69 hib hz0 hz1 .i64 .i64 n3 (by rw [hz2]; omega) (by unfold maxLen; omega) (by simp)
  rw [hrun]
  rw [show (w3.alloc (.cells #[.slice A3 n3 c3] 35)).heap.size = w3.heap.size + 1 from by simp] at hst ⊢
  have hzz : w3.heap.size + 1 ≤ w4.heap.size := by have := hgr.size; simpa using this
  have hz4 : w3.heap.size + 2 ≤ w4.heap.size := by have := own_lt hst; omega
  have B4 : Below (w3.heap.size + 1) (w3.alloc (.cells #[.slice A3 n3 c3] 35)) w4 := ⟨hgr.os, hgr.tape, hgr.output, hgr.size, fun k hk => hgr.block k (by simpa using hk) (by simp)⟩
  have hzw : (w3.alloc (.cells #[.slice A3 n3 c3] 35)).heap.size = w3.heap.size + 1 := by simp
  have hqw : w.heap.size ≤ w3.heap.size := B3.size
  have HSW := Lib.hid hs3
  have HHC := Lib.hid hwc
  clear hgr hrun hs3 HS3 hOf hNe hSp hset1 hset2 B2 B3 hb1 hb2 hb3 hwc
  generalize w3.alloc (.cells #[.slice A3 n3 c3] 35) = W0 at *
  generalize w3.heap.size = q at *
  rw [show Value.cells (.bool false) = #[.bool false] from rfl, toList_madeCells_one, Nat.mul_one] at hst
  have hst2 : w4.ownsRow (q + 1) 4 1 (.slice (some ⟨q + 1, 0, none⟩) n3 n3) n3 ((List.replicate n3 false).map Value.bool) := by simpa using hst
  have hSB : Hid (StB wd [] (List.replicate n3 false)) := ⟨by have := HN3.out; simp; omega, fun j hj => by have := HN3.out; rw [List.getElem?_replicate, if_pos (by omega)]; simp⟩
  clear hst
  go_wp2_with fail
  go_loopw [7, 21] (fun v i wr => ∃ (k : Nat) (acc : List Sp) (bs : List Bool), k ≤ n ∧ i = .int .i64 k ∧ OwnS wr (q + 2) v acc ∧ acc.length ≤ k ∧ Hid (acc = foldF wd (l.take k)) ∧ wr.ownsRow (q + 1) 4 1 (.slice (some ⟨q + 1, 0, none⟩) n3 n3) n3 (bs.map Value.bool) ∧ Hid (StB wd acc bs) ∧ Below (q + 1) W0 wr ∧ q + 2 ≤ wr.heap.size) (fun _ i _ => n - (intOf i).toNat)
  case atStart => exact ⟨0, [], _, Nat.zero_le _, rfl, World.ownsRow_nil _ _ _ _, by simp, rfl, hst2, hSB, B4, hz4⟩
  case round =>
    obtain ⟨k, acc, bs, hk, rfl, hown, hal, HG, hstd, HSB, hbel, hqz⟩ := hrel
    have Bw : Ext w wr := B0.trans (hbel.mono (by omega))
    by_cases hlt : k < n
    · have hkl : k < l.length := by have := HL.out; omega
      obtain ⟨b, o, rfl, hbb, hc⟩ := (HS.out.below Bw (Nat.le_refl _)) (by omega)
      obtain ⟨c0, c1⟩ := hc k hkl
      clear hc
      have HT := Lib.hid (foldF_take (wd := wd) hkl)
      generalize l[k] = X at *
      obtain ⟨x, y⟩ := X
      simp only at HT c0 c1
      have hbz : b < wr.heap.size := by have := Bw.size; omega
      have hq1 : q < wr.heap.size := by omega
      have kw : wr.cell? ⟨q, 0, none⟩ = some (.slice A3 n3 c3) := by rw [hbel.cell (p := ⟨q, 0, none⟩) (Nat.lt_succ_self _)]; exact hcw
      have hsw : SpAt wr (q + 1) A3 wd := HSW.out.below hbel (Nat.le_refl _)
      have e1 : Ext wr (wr.alloc (.cells #[.int .i64 x, .int .i64 y] 39)) := (Below.refl _ _).alloc (Nat.le_refl _) _
      have HSK := Lib.hid (seek_any q wr.heap.size n3 c3 A3 wd x (wr.alloc (.cells #[.int .i64 x, .int .i64 y] 39)) HN3.out (by omega) HHC.out (fun h => by obtain ⟨b', o', e, hb', hcc⟩ := (hsw.below (e1.mono (by omega)) (Nat.le_refl _)) h; exact ⟨b', o', e, by have := e1.size; omega, hcc⟩) (by rw [e1.cell (p := ⟨q, 0, none⟩) (by show q < _; omega)]; exact kw) (by simp))
      have ho1 : OwnS (wr.alloc (.cells #[.int .i64 x, .int .i64 y] 39)) (q + 2) _ acc := hown.alloc _
      have hz1 : (wr.alloc (.cells #[.int .i64 x, .int .i64 y] 39)).heap.size = wr.heap.size + 1 := by simp
      go_wp2_with (go_at_call 52; refine (Hid.out HSK).mono ?_; rintro e w5 ⟨i, rfl, hi, h2, h3, hb5⟩; have H2 := Lib.hid h2; have H3 := Lib.hid h3; clear h2 h3)
      have e5 : Ext wr w5 := Ext.tr e1 hb5
      have hz5 : wr.heap.size < w5.heap.size := by have := hb5.size; simp only [World.size_alloc] at this; omega
      have x0 : w5.cell? ⟨wr.heap.size, 0, none⟩ = some (.int .i64 x) := by rw [hb5.cell (p := ⟨wr.heap.size, 0, none⟩) (by simp)]; simp
      have x1 : w5.cell? ⟨wr.heap.size, 1, none⟩ = some (.int .i64 y) := by rw [hb5.cell (p := ⟨wr.heap.size, 1, none⟩) (by simp)]; simp
      have kw5 : w5.cell? ⟨q, 0, none⟩ = some (.slice A3 n3 c3) := by rw [e5.cell (p := ⟨q, 0, none⟩) hq1]; exact kw
      have hsw5 : SpAt w5 (q + 1) A3 wd := hsw.below (e5.mono (by omega)) (Nat.le_refl _)
      have r0 := cell_regrown x0
      have r2 := cell_regrown kw5
      clear hb5 e1 hsw HSK
      by_cases hin : i < n3
      · have hiw : i < wd.length := by have := HN3.out; omega
        obtain ⟨b', o', rfl, hb', hcc⟩ := hsw5 (by omega)
        obtain ⟨d0, d1⟩ := hcc i hiw
        clear hcc hsw5
        have hst0 : w5.cell? ⟨q + 1, i, none⟩ = some (.bool (decide (wd[i] ∈ acc))) := by
          rw [World.ownsRow.cellAt (own_ext hstd e5) _ (by omega), List.getElem?_map, HSB.out.2 i hiw]; rfl
        have hxi := H3.out i hiw (Nat.le_refl _)
        have HX : Hid (∀ z, wd[i] = z → InS z x → compS wd x = some z) := fun z hz hI => hz ▸ compS_some HHC.out (List.getElem_mem hiw) (hz ▸ hI)
        have HY : Hid (∀ z, wd[i] = z → ¬ InS z x → compS wd x = Option.none) := fun z hz hI => compS_none fun ⟨z', hz', hI'⟩ => by
          obtain ⟨j, hj, rfl⟩ := List.getElem_of_mem hz'
          rcases Nat.lt_trichotomy j i with h | h | h
          · have := H2.out j hj h; unfold InS at hI'; omega
          · subst h; exact hI (hz ▸ hI')
          · have a := HHC.out.rise h hj; unfold InS at hI'; omega
        have HM : Hid (StB wd (acc ++ [wd[i]]) (bs.set i true)) := StB.more HHC.out HSB.out hiw
        have HZ : Hid (wd[i] = wd[i]) := rfl
        generalize wd[i] = Z at *
        obtain ⟨p', q'⟩ := Z
        simp only at d0 d1 hxi HM
        have HX2 := Lib.hid (HX.out _ HZ.out)
        have HY2 := Lib.hid (HY.out _ HZ.out)
        clear HX HY HZ
        have cH := rg4 (w := w5) (fun W _ => has_any p' q' x W)
        have r3 := cell_regrown d0
        have r4 := cell_regrown d1
        have r5 := cell_regrown hst0
        have hbn : b' < q + 1 := hb'
        cases hh : hasB p' q' x with
        | false =>
          have HF : Hid (acc = foldF wd (l.take (k + 1))) := by unfold Hid; rw [HT.out, ← HG.out]; simp only [stepF]; rw [HY2.out (fun h => by rw [hasB_iff.2 h] at hh; cases hh)]
          rw [hh] at cH
          clear HT HG HX2 HY2 HM
          refine wp_region_quiet_below (by kernel_rfl) (by kernel_rfl) ?_
          repeat (quiet_step (first | exact cH _ _))
          refine wpQuiet_nil ?_
          intro _ hw'
          obtain ⟨⟨dq, osq⟩, hw''⟩ := hw'
          subst hw''
          have e6 : Ext w5 (grow (redrawn w5 dq) osq) := below_regrown w5 dq osq
          generalize grow (redrawn w5 dq) osq = w6 at *
          have e7 : Ext wr w6 := Ext.tr e5 e6
          have B6 : Below (q + 1) W0 w6 := hbel.trans (e7.mono (by omega))
          have own6 := Below.own hown e7
          have std6 := own_ext hstd e7
          have hz6 : q + 2 ≤ w6.heap.size := by have := e7.size; omega
          go_wp2
          go_roundw
          case rel => exact ⟨k + 1, acc, bs, by omega, by go_num, own6, by omega, HF, std6, HSB, B6, hz6⟩
          case measure => simp [intOf]; omega
        | true =>
          have hco := HX2.out (hasB_iff.1 hh)
          rw [hh] at cH
          by_cases hmem : (p', q') ∈ acc
          · have HF : Hid (acc = foldF wd (l.take (k + 1))) := by unfold Hid; rw [HT.out, ← HG.out]; simp only [stepF]; rw [hco]; simp [hmem]
            rw [show decide ((p', q') ∈ acc) = true from by simpa using hmem] at r5
            clear HT HG HX2 HY2 HM hco
            refine wp_region_quiet_below (by kernel_rfl) (by kernel_rfl) ?_
            repeat (quiet_step (first | exact cH _ _))
            refine wpQuiet_nil ?_
            intro _ hw'
            obtain ⟨⟨dq, osq⟩, hw''⟩ := hw'
            subst hw''
            have e6 : Ext w5 (grow (redrawn w5 dq) osq) := below_regrown w5 dq osq
            generalize grow (redrawn w5 dq) osq = w6 at *
            have e7 : Ext wr w6 := Ext.tr e5 e6
            have B6 : Below (q + 1) W0 w6 := hbel.trans (e7.mono (by omega))
            have own6 := Below.own hown e7
            have std6 := own_ext hstd e7
            have hz6 : q + 2 ≤ w6.heap.size := by have := e7.size; omega
            go_wp2
            go_roundw
            case rel => exact ⟨k + 1, acc, bs, by omega, by go_num, own6, by omega, HF, std6, HSB, B6, hz6⟩
            case measure => simp [intOf]; omega
          · have HF : Hid (acc ++ [(p', q')] = foldF wd (l.take (k + 1))) := by unfold Hid; rw [HT.out, ← HG.out]; simp only [stepF]; rw [hco]; simp [hmem]
            rw [show decide ((p', q') ∈ acc) = false from by simpa using hmem] at r5
            clear HT HG HX2 HY2 hco
            refine wp_region_quiet_below (by kernel_rfl) (by kernel_rfl) ?_
            repeat (quiet_step (first | exact cH _ _))
            refine wpQuiet_nil ?_
            intro _ hw'
            obtain ⟨⟨dq, osq⟩, hw''⟩ := hw'
            subst hw''
            have e6 : Ext w5 (grow (redrawn w5 dq) osq) := below_regrown w5 dq osq
            generalize grow (redrawn w5 dq) osq = w6 at *
            have e7 : Ext wr w6 := Ext.tr e5 e6
            have B6 : Below (q + 1) W0 w6 := hbel.trans (e7.mono (by omega))
            have own6 := Below.own hown e7
            have std6 := own_ext hstd e7
            have hz6 : q + 2 ≤ w6.heap.size := by have := e7.size; omega
            have y0 : w6.cell? ⟨q, 0, none⟩ = some (.slice (some ⟨b', o', none⟩) n3 c3) := by rw [e6.cell (p := ⟨q, 0, none⟩) (by show q < _; omega)]; exact kw5
            have y1 : w6.cell? ⟨b', o' + i * 2, none⟩ = some (.int .i64 p') := by rw [e6.cell (p := ⟨b', o' + i * 2, none⟩) (by show b' < _; omega)]; exact d0
            have y2 : w6.cell? ⟨b', o' + i * 2 + 1, none⟩ = some (.int .i64 q') := by rw [e6.cell (p := ⟨b', o' + i * 2 + 1, none⟩) (by show b' < _; omega)]; exact d1
            have y3 : w6.cell? ⟨q + 1, i, none⟩ = some (.bool false) := by rw [e6.cell (p := ⟨q + 1, i, none⟩) (by show q + 1 < _; omega), hst0]; simp [hmem]
            have y4 := World.ownsRow.frozenAt std6 i
            have z0 : (w6.setCell ⟨q + 1, i, none⟩ (.bool true)).cell? ⟨q, 0, none⟩ = some (.slice (some ⟨b', o', none⟩) n3 c3) := set_other (by simp) y0
            have z1 : (w6.setCell ⟨q + 1, i, none⟩ (.bool true)).cell? ⟨b', o' + i * 2, none⟩ = some (.int .i64 p') := set_other (by simp; omega) y1
            have z2 : (w6.setCell ⟨q + 1, i, none⟩ (.bool true)).cell? ⟨b', o' + i * 2 + 1, none⟩ = some (.int .i64 q') := set_other (by simp; omega) y2
            have own7 := ownsRow_setCell_below own6 (a := ⟨q + 1, i, none⟩) (Nat.lt_succ_self _) (.bool true)
            have std7 := (World.ownsRow.stored std6 i (.bool true)).1
            have B7 : Below (q + 1) W0 (w6.setCell ⟨q + 1, i, none⟩ (.bool true)) := B6.setCell (Nat.le_refl _) _
            have hz7 : (w6.setCell ⟨q + 1, i, none⟩ (.bool true)).heap.size = w6.heap.size := by simp
            clear r0 r2 r3 r4 r5 x0 x1 c0 c1 d0 d1 hst0 kw kw5 std6 own6 B6
            go_wp2_with (at_builtin; refine app_span_at (w6.setCell ⟨q + 1, i, none⟩ (.bool true)) w6.heap.size hz7 (by rfl) _ _ (by rfl) (q + 2) _ acc p' q' (by rfl) own7 (by rfl) (by omega) (by omega) ?_; intro v8 w8 hown8 hgrow)
            have std8 := World.ownsRow.kept (own_ext std7 ((Below.refl _ _).alloc (Nat.le_refl _) _)) hgrow (.inr fun e => own_ne own7 (Nat.lt_succ_self (q + 1)) e.symm)
            have B8 : Below (q + 1) W0 w8 := below_app B7 (by omega) (own_base own7 (by omega)) hgrow
            have hz8 : q + 2 ≤ w8.heap.size := by have := hgrow.size; simp only [World.size_alloc] at this; omega
            rw [← List.map_set] at std8
            clear hgrow own7 B7 std7
            go_wp2
            go_roundw
            case rel => exact ⟨k + 1, acc ++ [(p', q')], bs.set i true, by omega, by go_num, hown8, by simp; omega, HF, std8, HM, B8, hz8⟩
            case measure => simp [intOf]; omega
      · have HF : Hid (acc = foldF wd (l.take (k + 1))) := by
          unfold Hid; rw [HT.out, ← HG.out]; simp only [stepF]
          rw [compS_none fun ⟨z', hz', hI'⟩ => by
            obtain ⟨j, hj, rfl⟩ := List.getElem_of_mem hz'
            have := H2.out j hj (by have := HN3.out; omega); unfold InS at hI'; omega]
        have cH : True := trivial
        clear HT HG
        refine wp_region_quiet_below (by kernel_rfl) (by kernel_rfl) ?_
        repeat (quiet_step (fail))
        refine wpQuiet_nil ?_
        intro _ hw'
        obtain ⟨⟨dq, osq⟩, hw''⟩ := hw'
        subst hw''
        have e6 : Ext w5 (grow (redrawn w5 dq) osq) := below_regrown w5 dq osq
        generalize grow (redrawn w5 dq) osq = w6 at *
        have e7 : Ext wr w6 := Ext.tr e5 e6
        have B6 : Below (q + 1) W0 w6 := hbel.trans (e7.mono (by omega))
        have own6 := Below.own hown e7
        have std6 := own_ext hstd e7
        have hz6 : q + 2 ≤ w6.heap.size := by have := e7.size; omega
        go_wp2
        go_roundw
        case rel => exact ⟨k + 1, acc, bs, by omega, by go_num, own6, by omega, HF, std6, HSB, B6, hz6⟩
        case measure => simp [intOf]; omega
    · obtain rfl : k = n := by omega
      have HF : Hid (acc = foldL g l) := by unfold Hid; have := HG.out; rw [List.take_of_length_le (by have := HL.out; omega)] at this; rw [HFO.out]; exact this
      clear HG
      have HO := Lib.hid hown
      clear hown
      go_wp2
      go_ret
      exact ⟨_, rfl, by rw [← HF.out]; exact own_base HO.out (by omega), Bw⟩
end Go.Proofs.YtdmkfleiipfbgaaDoor
