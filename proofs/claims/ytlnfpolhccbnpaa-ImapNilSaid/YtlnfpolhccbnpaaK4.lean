/-
  The reference's runs: the walk.
-/
import Derived.Test.YtlnfpolhccbnpaaK2
import Derived.Test.YtlnfpolhccbnpaaK3
namespace Go.Proofs.Ytlnfpolhccbnpaa
open Go Go.RowKit

theorem last_formQ {l : List Rn} (h : l ≠ []) : ∃ init y, l = init ++ [y] := ⟨l.dropLast, l.getLast h, (List.dropLast_concat_getLast h).symm⟩
theorem OwnQ.ext {w W : World} {base : Nat} {v : Value} {l : List Rn} (h : OwnQ w base v l) (e : Ext w W) : OwnQ W base v l :=
  h.kept (w' := W) (row := Option.none) ⟨e.os, e.tape, e.output, e.size, fun i hi _ => e.block i hi⟩ (by cases v.ownBlock <;> simp)
theorem own_snocQ {w : World} {base g cap n : Nat} {out : List Rn} {p q r : Int} (hn : out.length = n) (h : w.ownsRow base 39 3 (.slice (some ⟨g, 0, none⟩) (n + 1) cap) (n + 1) (flatR out ++ [.int .i64 p, .int .i64 q, .int .i64 r])) :
    OwnQ w base (.slice (some ⟨g, 0, none⟩) (n + 1) cap) (out ++ [(p, q, r)]) := by
  subst hn
  have e : (out ++ [(p, q, r)]).length = out.length + 1 := by simp
  unfold OwnQ
  rw [e, flatR_append]
  exact h
theorem below_app_d {w W W1 : World} {B : Nat} {o : Obj} {v : Value} {e size n : Nat} {xs : List Value} (hbel : Below B w W) (hB : B ≤ W.heap.size) (hown : W.ownsRow B e size v n xs) (hg : ((W.alloc o).drew).grownBy W1 v.ownBlock) : Below B w W1 := by
  refine ((hbel.alloc hB o).drew).grown hg (by simp; omega) ?_
  intro k hk
  obtain ⟨_, ⟨rfl, _⟩ | ⟨g, cap, cur, rfl, hge, _⟩⟩ := hown
  · simp [Value.ownBlock] at hk
  · simp only [Value.ownBlock] at hk; injection hk with hk; omega
theorem flatR_set {init : List Rn} {z1 z2 z3 y : Int} {ml : Nat} (h : init.length = ml) : (flatR (init ++ [(z1, z2, z3)])).set (ml * 3 + 1) (.int .i64 y) = flatR (init ++ [(z1, y, z3)]) := by
  subst h
  rw [flatR_append, flatR_append, List.set_append_right _ _ (by rw [flatR_len]; omega), flatR_len, show init.length * 3 + 1 - init.length * 3 = 1 by omega]
  rfl
theorem own_setQ {w : World} {base g cap ml : Nat} {init : List Rn} {z1 z2 z3 y : Int} (hn : init.length = ml) (h : OwnQ w base (.slice (some ⟨g, 0, none⟩) (ml + 1) cap) (init ++ [(z1, z2, z3)])) :
    OwnQ (w.setCell ⟨g, ml * 3 + 1, none⟩ (.int .i64 y)) base (.slice (some ⟨g, 0, none⟩) (ml + 1) cap) (init ++ [(z1, y, z3)]) := by
  have e1 : (init ++ [(z1, z2, z3)]).length = ml + 1 := by simp [hn]
  have e2 : (init ++ [(z1, y, z3)]).length = ml + 1 := by simp [hn]
  unfold OwnQ at h ⊢
  rw [e1] at h
  rw [e2, ← flatR_set hn]
  exact (World.ownsRow.stored h _ _).1
theorem own_rawQ {w : World} {base n : Nat} {v : Value} {l : List Rn} (hn : l.length = n) (h : OwnQ w base v l) : w.ownsRow base 39 3 v n (flatR l) := by subst hn; exact h
theorem bel' {B : Nat} {w W W' : World} (h : Below B w W) (hB : B ≤ W.heap.size) (e : Ext W W') : Below B w W' := h.trans (e.mono hB)
theorem edge_head {l : List Ac} {e : List Int} (h : EdgeOk l e) : ∃ h0 : 0 < e.length, e[0] = 0 := by
  obtain ⟨j, hj, e0⟩ := List.mem_iff_getElem.1 h.zero
  refine ⟨by omega, ?_⟩
  have hb := (h.bound e[0] (List.getElem_mem _)).1
  rcases Nat.eq_zero_or_pos j with rfl | hp
  · exact e0
  · have := List.pairwise_iff_getElem.1 h.rise 0 j (by omega) hj hp; omega

set_option maxHeartbeats 16000000 in
set_option maxRecDepth 100000 in
theorem runs_any (A : Option Addr) (n c : Nat) (l : List Ac) (w : World) (hn : l.length = n) (hm : n ≤ 1000) (hs : AcAt w w.heap.size A l) :
    Calls Try.prog 13 #[.slice A n c] w fun e w' => ∃ v, e = .returned v ∧ OwnQ w' w.heap.size v (actsI [] l) ∧ Ext w w' := by
  have HE := ends_any A n c l w hn hm hs
  have HS := Lib.hid hs
  have HN := Lib.hid hn
  clear hs
  obtain ⟨i0, hi, hz0, hz1, hz2⟩ := info_parts infoQ
  have EK := Lib.hid (edges_ok l)
  have hel := edges_len l [0]
  change (edgesA l).length ≤ _ at hel
  obtain ⟨h00, h01⟩ := edge_head (edges_ok l)
  go_enter Try.func13, Try.ntmps13
  go_wp2_with (go_at_call 36; refine HE.mono ?_; rintro e w1 ⟨ve, rfl, hin, B1⟩; obtain ⟨Ae, m, ce, rfl, hL, hce, hA⟩ := OwnI.at_ hin; have HL := Lib.hid hL; clear HE hin hL; have HA := Lib.hid hA; clear hA)
  have hm2 : m ≤ 2 * n + 1 := by have := HL.out; simp at hel; omega
  have hm1 : 1 ≤ m := by have := HL.out; omega
  clear hel
  generalize edgesA l = E at *
  have hwz := B1.size
  go_loopw [3, 5] (fun v i wr => ∃ (k : Nat) (out : List Rn) (hk : k < E.length), i = .int .i64 k ∧ OwnQ wr w1.heap.size v out ∧ out.length ≤ k ∧ k < m ∧ Hid (RunsTo l E[k] out) ∧ Below w1.heap.size w1 wr) (fun _ i _ => m - (intOf i).toNat)
  case atStart => exact ⟨0, [], h00, rfl, World.ownsRow_nil _ _ _ _, by simp, by omega, by rw [h01]; exact RunsTo.start l, Below.refl _ _⟩
  case round =>
    obtain ⟨k, out, hk0, rfl, hown, hol, hkn, HG, hbel⟩ := hrel
    by_cases hlt : k + 1 < m
    · have hk1 : k + 1 < E.length := by have := HL.out; omega
      obtain ⟨be, oe, rfl, hbe, hc⟩ := (HA.out.below hbel (Nat.le_refl _)) (by omega)
      have c0 := hc k hk0
      have c1 := hc (k + 1) hk1
      clear hc
      have hb0 := (EK.out.bound E[k] (List.getElem_mem _)).1
      have hb1 := (EK.out.bound E[k + 1] (List.getElem_mem _)).2
      have hxy : E[k] < E[k + 1] := List.pairwise_iff_getElem.1 EK.out.rise k (k + 1) hk0 hk1 (by omega)
      have HX : Hid (E[k + 1] = E[k + 1]) := rfl
      have hTo := Lib.hid (fun W (hW : Ext w W) => told_any A n c l E[k] W HN.out hm (HS.out.ext hW))
      obtain ⟨x, hx⟩ : ∃ x, x = E[k] := ⟨_, rfl⟩
      obtain ⟨y, hy⟩ : ∃ y, y = E[k + 1] := ⟨_, rfl⟩
      rw [← hx] at c0 hb0 hxy HG hTo
      rw [← hy] at c1 hb1 hxy
      have HGap : Hid (∀ p, x ≤ p → p < y → tldI l p = tldI l x) := fun p h1 h2 => by
        rw [hx] at h1; rw [hy] at h2; rw [hx]; exact told_gap EK.out hk1 h1 h2
      clear HX
      have HYY := Lib.hid hy
      have hT : ∀ p, x ≤ p → p < y → toldO l p = if (tldI l x).2 then some (tldI l x).1 else Option.none := fun p h1 h2 => by simp only [toldO, HGap.out p h1 h2]
      clear HGap hx hy
      rcases htd : tldI l x with ⟨tv, ti⟩
      rw [htd] at hTo hT
      simp only at hTo hT
      clear htd
      have C0 := Lib.hid c0; have C1 := Lib.hid c1
      have hbz : be < wr.heap.size := by have := hbel.size; omega
      have q1 : IntKind.i64.wrap ((k : Int) + 1) = (k : Int) + 1 := IntWalk.i64_in _ (by omega)
      have q2 : (0 : Int) ≤ (k : Int) + 1 := by omega
      have q3 : ((k : Int) + 1).toNat = k + 1 := by omega
      have q4 : (k : Int) + 1 < (m : Int) := by omega
      have q5 : (k : Int) < (m : Int) := by omega
      have q6 : (0 : Int) ≤ (k : Int) := by omega
      have EW := Ext.tr B1 hbel
      have hT := Lib.hid hT
      clear c1
      cases ti with
      | false =>
        have HF : Hid (RunsTo l E[k + 1] out) := by
          rw [← HYY.out]
          exact HG.out.skip (by omega) (fun p h1 h2 => by rw [hT.out p h1 h2]; rfl)
        clear HG hT
        go_wp2_with (go_at_call 26; refine (hTo.out _ EW).mono ?_; rintro e W ⟨rfl, hW⟩)
        go_roundw
        case rel => exact ⟨k + 1, out, hk1, by go_num, hown.ext hW, by omega, hlt, HF, bel' hbel hbel.size hW⟩
        case measure => simp [intOf]; omega
      | true =>
        have hT2 : ∀ p, x ≤ p → p < y → toldO l p = some tv := fun p h1 h2 => by rw [hT.out p h1 h2]; rfl
        have HT2 := Lib.hid hT2
        clear hT hT2
        by_cases ho : out = []
        · subst ho
          have HF : Hid (RunsTo l E[k + 1] ([] ++ [(x, y, tv)])) := by
            rw [← HYY.out]
            exact HG.out.put hb0 hxy hb1 HT2.out (fun _ => by simp [eTd])
          clear HG HT2
          obtain ⟨Av, nv, cv, rfl⟩ := own_slice hown
          obtain rfl : nv = 0 := by have := (RnAt.ownQ hown).1; simpa using this.symm
          go_wp2_with (go_at_call 26; refine (hTo.out _ EW).mono ?_; rintro e W ⟨rfl, hW⟩)
          go_quiet (fail)
          have e2 := below_drewN hW nq
          generalize W.drewN nq = W2 at e2 ⊢
          clear hW
          have B2 := bel' hbel hbel.size e2
          have own2 := hown.ext e2
          have hB := B2.size
          have x0 : W2.cell? ⟨be, oe + k, none⟩ = some (.int .i64 x) := by rw [e2.cell (p := ⟨be, oe + k, none⟩) hbz]; exact C0.out
          have x1 : W2.cell? ⟨be, oe + (k + 1), none⟩ = some (.int .i64 y) := by rw [e2.cell (p := ⟨be, oe + (k + 1), none⟩) hbz]; exact C1.out
          have ag := own_ne own2 hbe
          clear e2 hown hbel
          go_wp2_with fail
          go_region_held3 (fun w' => w'.cell? ⟨be, oe + k, none⟩ = some (.int .i64 x) ∧ w'.cell? ⟨be, oe + (k + 1), none⟩ = some (.int .i64 y)) (first | go_keep | (go_split_ands; refine ⟨?_, ?_⟩ <;> (rw [hgrow.cell_far _ (by simp; omega) (Ne.symm ag)]; assumption))) ((refine step_append_lies _ (by rfl) _ _ _ (by rfl) w1.heap.size 39 i0 _ 3 24 Try.underlying27 hi hz0 hz1 hz2 rfl (by omega) _ 0 (flatR []) (by rfl) ((World.ownsRow.alloc own2 _).drew) ⟨W2.heap.size, 0, none⟩ 1 1 [.int .i64 x, .int .i64 y, .int .i64 tv] (by rfl) (by rfl) (World.news_of_block (cs := #[.int .i64 x, .int .i64 y, .int .i64 tv]) (t := 39) (fr := (0, 0)) (heap_alloc_new W2 _)) (by simp [Value.oneCell']) (by omega) (by unfold maxLen; omega) (by omega) (by simp; omega) (W2.heap.size + 1) (by simp) ?_; intro g1 cap1 w3 hown1 hgrow hat hltw))
          have B3 := below_app_d B2 hB own2 hgrow
          clear q1 q2 q3 q4 q5 q6 hgrow hat hltw x0 x1 ag own2 B2
          go_wp2_with fail
          go_roundw
          case rel => exact ⟨k + 1, [] ++ [(x, y, tv)], hk1, by go_num, own_snocQ rfl hown1, by simp, hlt, HF, B3⟩
          case measure => simp [intOf]; omega
        · obtain ⟨init, z, rfl⟩ := last_formQ ho
          clear ho
          obtain ⟨g, cv, rfl, hgb, hgl⟩ := World.ownsRow.form hown (by simp)
          have hml : (init ++ [z]).length = init.length + 1 := by simp
          rw [hml] at hol
          have hcz := flatR_get (init ++ [z]) init.length (by simp)
          have hcz2 : wr.cell? ⟨g, init.length * 3 + 1, none⟩ = some (.int .i64 z.2.1) := by rw [World.ownsRow.cellAt hown _ (by simp; omega)]; simpa using hcz.2.1
          have hcz3 : wr.cell? ⟨g, init.length * 3 + 2, none⟩ = some (.int .i64 z.2.2) := by rw [World.ownsRow.cellAt hown _ (by simp; omega)]; simpa using hcz.2.2
          clear hcz
          have hgz : g < wr.heap.size := hgl
          obtain ⟨z1, z2, z3⟩ := z
          simp only at hcz2 hcz3
          have HO : Hid (OwnQ wr w1.heap.size (.slice (some ⟨g, 0, none⟩) (init.length + 1) cv) (init ++ [(z1, z2, z3)])) := by rw [← hml]; exact hown
          rw [hml]
          clear hml hown
          generalize hil : init.length = ml at *
          have HIL := Lib.hid hil
          clear hil
          go_wp2_with (go_at_call 26; refine (hTo.out _ EW).mono ?_; rintro e W ⟨rfl, hW⟩)
          have c2w : W.cell? ⟨g, ml * 3 + 1, none⟩ = some (.int .i64 z2) := by rw [hW.cell (p := ⟨g, ml * 3 + 1, none⟩) hgz]; exact hcz2
          have c3w : W.cell? ⟨g, ml * 3 + 2, none⟩ = some (.int .i64 z3) := by rw [hW.cell (p := ⟨g, ml * 3 + 2, none⟩) hgz]; exact hcz3
          have c0w : W.cell? ⟨be, oe + k, none⟩ = some (.int .i64 x) := by rw [hW.cell (p := ⟨be, oe + k, none⟩) hbz]; exact C0.out
          clear hcz2 hcz3 c0
          by_cases hz : z2 = x
          · by_cases hv : z3 = tv
            · subst hz; subst hv
              have HF : Hid (RunsTo l E[k + 1] (init ++ [(z1, y, z3)])) := by
                rw [← HYY.out]
                exact HG.out.grow hb0 hxy hb1 HT2.out
              clear HG HT2
              go_quiet (fail)
              have e2 := below_drewN hW nq
              generalize W.drewN nq = W2 at e2 ⊢
              clear hW c2w c3w c0w
              have own2 := HO.out.ext e2
              have o2 := own_rawQ (n := ml + 1) (by simp [HIL.out]) own2
              have B2 := bel' hbel hbel.size e2
              have x1 : W2.cell? ⟨be, oe + (k + 1), none⟩ = some (.int .i64 y) := by rw [e2.cell (p := ⟨be, oe + (k + 1), none⟩) hbz]; exact C1.out
              have x2 : W2.cell? ⟨g, ml * 3 + 1, none⟩ = some (.int .i64 z2) := by rw [World.ownsRow.cellAt o2 _ (by omega), ← HIL.out]; simpa using (flatR_get (init ++ [(z1, z2, z3)]) init.length (by simp)).2.1
              have x3 := World.ownsRow.frozenAt o2 (ml * 3 + 1)
              have HST := Lib.hid (own_setQ HIL.out own2 (y := y))
              have HB3 : Hid (Below w1.heap.size w1 (W2.setCell ⟨g, ml * 3 + 1, none⟩ (.int .i64 y))) := B2.setCell hgb _
              clear own2 o2 e2 B2 HO hbel
              go_wp2
              go_roundw
              case rel => exact ⟨k + 1, init ++ [(z1, y, z3)], hk1, by go_num, HST.out, by simp; have := HIL.out; omega, hlt, HF, HB3.out⟩
              case measure => simp [intOf]; omega
            · subst hz
              have hvb : (z3 == tv) = false := by simp [hv]
              have HF : Hid (RunsTo l E[k + 1] ((init ++ [(z1, z2, z3)]) ++ [(z2, y, tv)])) := by
                rw [← HYY.out]
                refine HG.out.put hb0 hxy hb1 HT2.out (fun h => ?_)
                rw [eTo_app] at h; rw [eTd_app]
                simp only [eTo, eTd] at h ⊢
                intro h2; injection h2 with h2
                omega
              clear HG HT2
              go_quiet (fail)
              have e2 := below_drewN hW nq
              generalize W.drewN nq = W2 at e2 ⊢
              clear hW c2w c3w c0w
              have hown := HO.out
              clear HO
              have B2 := bel' hbel hbel.size e2
              have own2 := hown.ext e2
              have hB := B2.size
              have o2 := own_rawQ (n := ml + 1) (by simp [HIL.out]) own2
              have x0 : W2.cell? ⟨be, oe + k, none⟩ = some (.int .i64 z2) := by rw [e2.cell (p := ⟨be, oe + k, none⟩) hbz]; exact C0.out
              have x1 : W2.cell? ⟨be, oe + (k + 1), none⟩ = some (.int .i64 y) := by rw [e2.cell (p := ⟨be, oe + (k + 1), none⟩) hbz]; exact C1.out
              have ag := own_ne own2 hbe
              clear e2 hown hbel
              go_wp2_with fail
              go_region_held3 (fun w' => w'.cell? ⟨be, oe + k, none⟩ = some (.int .i64 z2) ∧ w'.cell? ⟨be, oe + (k + 1), none⟩ = some (.int .i64 y)) (first | go_keep | (go_split_ands; refine ⟨?_, ?_⟩ <;> (rw [hgrow.cell_far _ (by simp; omega) (Ne.symm ag)]; assumption))) ((refine step_append_lies _ (by rfl) _ _ _ (by rfl) w1.heap.size 39 i0 _ 3 24 Try.underlying27 hi hz0 hz1 hz2 rfl (by omega) _ (ml + 1) (flatR (init ++ [(z1, z2, z3)])) (by rfl) ((World.ownsRow.alloc o2 _).drew) ⟨W2.heap.size, 0, none⟩ 1 1 [.int .i64 z2, .int .i64 y, .int .i64 tv] (by rfl) (by rfl) (World.news_of_block (cs := #[.int .i64 z2, .int .i64 y, .int .i64 tv]) (t := 39) (fr := (0, 0)) (heap_alloc_new W2 _)) (by simp [Value.oneCell']) (by omega) (by unfold maxLen; omega) (by omega) (by simp; omega) (W2.heap.size + 1) (by simp) ?_; intro g1 cap1 w3 hown1 hgrow hat hltw))
              have B3 := below_app_d B2 hB own2 hgrow
              clear q1 q2 q3 q4 q5 q6 hgrow hat hltw x0 x1 ag own2 B2
              go_wp2_with fail
              go_roundw
              case rel => exact ⟨k + 1, (init ++ [(z1, z2, z3)]) ++ [(z2, y, tv)], hk1, by go_num, own_snocQ (by simp [HIL.out]) hown1, by simp; have := HIL.out; omega, hlt, HF, B3⟩
              case measure => simp [intOf]; omega
          · have hzb : (z2 == x) = false := by simp [hz]
            have HF : Hid (RunsTo l E[k + 1] ((init ++ [(z1, z2, z3)]) ++ [(x, y, tv)])) := by
              rw [← HYY.out]
              refine HG.out.put hb0 hxy hb1 HT2.out (fun h => ?_)
              rw [eTo_app] at h; rw [eTd_app]
              simp only [eTo, eTd] at h ⊢
              intro h2; injection h2 with h2
              omega
            clear HG HT2
            go_quiet (fail)
            have e2 := below_drewN hW nq
            generalize W.drewN nq = W2 at e2 ⊢
            clear hW c2w c3w c0w
            have hown := HO.out
            clear HO
            have B2 := bel' hbel hbel.size e2
            have own2 := hown.ext e2
            have hB := B2.size
            have o2 := own_rawQ (n := ml + 1) (by simp [HIL.out]) own2
            have x0 : W2.cell? ⟨be, oe + k, none⟩ = some (.int .i64 x) := by rw [e2.cell (p := ⟨be, oe + k, none⟩) hbz]; exact C0.out
            have x1 : W2.cell? ⟨be, oe + (k + 1), none⟩ = some (.int .i64 y) := by rw [e2.cell (p := ⟨be, oe + (k + 1), none⟩) hbz]; exact C1.out
            have ag := own_ne own2 hbe
            clear e2 hown hbel
            go_wp2_with fail
            go_region_held3 (fun w' => w'.cell? ⟨be, oe + k, none⟩ = some (.int .i64 x) ∧ w'.cell? ⟨be, oe + (k + 1), none⟩ = some (.int .i64 y)) (first | go_keep | (go_split_ands; refine ⟨?_, ?_⟩ <;> (rw [hgrow.cell_far _ (by simp; omega) (Ne.symm ag)]; assumption))) ((refine step_append_lies _ (by rfl) _ _ _ (by rfl) w1.heap.size 39 i0 _ 3 24 Try.underlying27 hi hz0 hz1 hz2 rfl (by omega) _ (ml + 1) (flatR (init ++ [(z1, z2, z3)])) (by rfl) ((World.ownsRow.alloc o2 _).drew) ⟨W2.heap.size, 0, none⟩ 1 1 [.int .i64 x, .int .i64 y, .int .i64 tv] (by rfl) (by rfl) (World.news_of_block (cs := #[.int .i64 x, .int .i64 y, .int .i64 tv]) (t := 39) (fr := (0, 0)) (heap_alloc_new W2 _)) (by simp [Value.oneCell']) (by omega) (by unfold maxLen; omega) (by omega) (by simp; omega) (W2.heap.size + 1) (by simp) ?_; intro g1 cap1 w3 hown1 hgrow hat hltw))
            have B3 := below_app_d B2 hB own2 hgrow
            clear q1 q2 q3 q4 q5 q6 hgrow hat hltw x0 x1 ag own2 B2
            go_wp2_with fail
            go_roundw
            case rel => exact ⟨k + 1, (init ++ [(z1, z2, z3)]) ++ [(x, y, tv)], hk1, by go_num, own_snocQ (by simp [HIL.out]) hown1, by simp; have := HIL.out; omega, hlt, HF, B3⟩
            case measure => simp [intOf]; omega
    · have hke : k + 1 = m := by omega
      have HF : Hid (out = actsI [] l) := by
        refine RunsTo.done EK.out HG.out (fun z hz => ?_)
        obtain ⟨j, hj, rfl⟩ := List.mem_iff_getElem.1 hz
        have hL := HL.out
        rcases Nat.lt_or_eq_of_le (show j ≤ k by omega) with h | h
        · have := List.pairwise_iff_getElem.1 EK.out.rise j k hj hk0 h; omega
        · subst h; omega
      clear HG
      have q1 : IntKind.i64.wrap ((k : Int) + 1) = (k : Int) + 1 := IntWalk.i64_in _ (by omega)
      have q4 : ¬ ((k : Int) + 1 < (m : Int)) := by omega
      go_wp2
      go_ret
      exact ⟨_, rfl, by rw [← HF.out]; exact World.ownsRow.mono hown hwz, Ext.tr B1 hbel⟩
end Go.Proofs.Ytlnfpolhccbnpaa
