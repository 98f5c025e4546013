/-
  The walk of SpecFolded.
-/
import Derived.Test.YtdmkfleiipfbgaaDoorPJ
import Derived.Test.YtdmkfleiipfbgaaDoorPP
namespace Go.Proofs.YtdmkfleiipfbgaaDoor
open Go Go.RowKit
open Go.Sort (grow)

/-- of the fewer spans no byte is missing -/
theorem less_none {g : Int} {l : List Sp} (hs : SolidL l) {K : List Sp} (hK : Canon K) (hm : ∀ p, InL K p ↔ keepB 3 (normL l) (normL (foldL g l)) p = true) : K = [] := by
  refine canon_unique hK Canon.nil fun p => ?_
  rw [hm p]
  constructor
  · intro h
    unfold keepB bopB at h
    simp at h
    have h1 := ((normL_norm l).2 p).1 (anyHas_iff.1 h.1)
    have h2 : InL (foldL g l) p := (foldL_in hs p).2 ((wide_in hs p).2 (.inl h1))
    have h3 := anyHas_iff.2 (((normL_norm (foldL g l)).2 p).2 h2)
    rw [h3] at h
    exact absurd h.2 (by decide)
  · intro h; exact absurd h (InL_nil p)
theorem same_wide {g : Int} {l : List Sp} (hs : SolidL l) : normL (foldL g l) = closeL g (normL l) := by
  refine canon_unique (normL_norm _).1 (wideL_canon g l) fun p => ?_
  rw [(normL_norm (foldL g l)).2 p]
  exact foldL_in hs p

set_option maxHeartbeats 8000000 in
set_option maxRecDepth 100000 in
theorem walk_SpecFolded (A : Option Addr) (n c : Nat) (l : List Sp) (g : Int) (w : World) (hL : MX w) (hn : l.length = n) (hm : n ≤ maxLen) (hs : SpAt w w.heap.size A l) (_wg : (Lit.int .i64 g).wf = true) :
    Calls Tryd.prog 7 #[.slice A n c, .int .i64 g] w fun e w' => e = .returned (.bool true) ∧ Below w.heap.size w w' := by
  have hgo := good_any5 A n c l w hn (by unfold maxLen at hm; exact hm) hs
  cases hr : (goodL l && decide (n ≤ 30)) with
  | false =>
    rw [hr] at hgo
    go_enter Tryd.func7, Tryd.ntmps7
    go_wp2_with (first
      | (go_at_call 23; refine hgo.mono ?_; rintro e w0 ⟨rfl, hb0⟩)
      | (go_at_call 11; refine (awake_any _ (hL.below hb0)).mono ?_; rintro e w1 ⟨rfl, hb1⟩; have B1 := Ext.tr hb0 hb1))
    go_ret
    exact ⟨rfl, B1⟩
  | true =>
    rw [hr] at hgo
    simp only [Bool.and_eq_true, decide_eq_true_eq] at hr
    have hsol : SolidL l := fun x hx => goodL_iff.1 hr.1 x hx
    have hn30 := hr.2
    have hF := fun W (hW : Ext w W) => fold_any g A n c l W hn (by omega) (hs.below hW hW.size)
    have hO := fun W (hW : Ext w W) => rOf_set A n c l W hn (by omega) (hs.below hW hW.size)
    have HFL : Hid ((foldL g l).length ≤ 30) := by unfold Hid; have := foldL_len g l; omega
    have HNL : Hid ((normL l).length ≤ 30) := by unfold Hid; have := normL_len l; omega
    have HSO := Lib.hid (foldL_solid g l)
    have HFA := Lib.hid (foldL_far g l)
    have HFF := Lib.hid (fold_far (foldL_solid g l) (foldL_far g l))
    have HLN : Hid (∀ K, Canon K → (∀ p, InL K p ↔ keepB 3 (normL l) (normL (foldL g l)) p = true) → K = []) := fun K h1 h2 => less_none hsol h1 h2
    have HSW := Lib.hid (same_wide (g := g) hsol)
    have HNC := Lib.hid (normL_norm l).1
    unfold FoldPost at hF
    generalize foldL g l = F at *
    generalize normL l = N at *
    clear hs hn hr hsol
    go_enter Tryd.func7, Tryd.ntmps7
    go_wp2_with (go_at_call 23; refine hgo.mono ?_; rintro e w0 ⟨rfl, hb0⟩)
    refine (hF _ hb0).mono ?_
    rintro e w1 ⟨v1, rfl, hown1, hb1⟩
    have B1 := Ext.tr hb0 hb1
    obtain ⟨A1, n1, c1, rfl, HN1, hc1, hs1⟩ := (IsSp.own hown1).split
    have HS1 := Lib.hid hs1
    have hn1 : n1 ≤ 30 := by have := HN1.out; have := HFL.out; omega
    clear hF hgo hown1 hs1
    go_wp2_with fail
    go_loopw [19] (fun i wr => ∃ k : Nat, k ≤ n1 ∧ i = .int .i64 k ∧ Below w1.heap.size w1 wr) (fun i _ => n1 - (intOf i).toNat)
    case atStart => exact ⟨0, Nat.zero_le _, rfl, Below.refl _ _⟩
    case round =>
      obtain ⟨i, hi, rfl, hbel⟩ := hrel
      by_cases hlt : i < n1
      · have hil : i < F.length := by have := HN1.out; omega
        obtain ⟨b, o, rfl, hbb, hc⟩ := HS1.out (by omega)
        have HCC := Lib.hid hc
        clear hc
        go_wp2_with fail
        go_loopw [24] (fun j wq => ∃ k : Nat, k ≤ n1 ∧ j = .int .i64 k ∧ Below w1.heap.size w1 wq) (fun j _ => n1 - (intOf j).toNat)
        case atStart => exact ⟨0, Nat.zero_le _, rfl, hbel⟩
        case round =>
          obtain ⟨k, hk, rfl, hbq⟩ := hrel
          by_cases hlk : k < n1
          · have hkl : k < F.length := by have := HN1.out; omega
            by_cases hik : i = k
            · subst hik
              have hne : ((i : Int) != (i : Int)) = false := by simp
              refine (?_ : _)
              go_wp2
              go_quiet (fail)
              go_wp2
              go_roundw
              case rel => exact ⟨i + 1, by omega, by go_num, below_drewN hbq _⟩
              case measure => simp [intOf]; omega
            · have hne : ((i : Int) != (k : Int)) = true := by rw [bne_iff_ne]; omega
              obtain ⟨x, y, hX⟩ : ∃ x y, F[k] = (x, y) := ⟨_, _, rfl⟩
              obtain ⟨p, q, hY⟩ : ∃ p q, F[i] = (p, q) := ⟨_, _, rfl⟩
              have c0 : wr.cell? ⟨b, o + k * 2, none⟩ = some (.int .i64 x) := by rw [hbq.cell (p := ⟨b, o + k * 2, none⟩) hbb]; have h := (HCC.out k hkl).1; rw [hX] at h; exact h
              have c1' : wr.cell? ⟨b, o + k * 2 + 1, none⟩ = some (.int .i64 y) := by rw [hbq.cell (p := ⟨b, o + k * 2 + 1, none⟩) hbb]; have h := (HCC.out k hkl).2; rw [hX] at h; exact h
              have d0 : wr.cell? ⟨b, o + i * 2, none⟩ = some (.int .i64 p) := by rw [hbq.cell (p := ⟨b, o + i * 2, none⟩) hbb]; have h := (HCC.out i hil).1; rw [hY] at h; exact h
              have d1 : wr.cell? ⟨b, o + i * 2 + 1, none⟩ = some (.int .i64 q) := by rw [hbq.cell (p := ⟨b, o + i * 2 + 1, none⟩) hbb]; have h := (HCC.out i hil).2; rw [hY] at h; exact h
              have sX : Solid (x, y) := hX ▸ HSO.out _ (List.getElem_mem hkl)
              have sY : Solid (p, q) := hY ▸ HSO.out _ (List.getElem_mem hil)
              have hfa := HFA.out i k hil hkl hik
              rw [hX, hY] at hfa
              have hnb := nearB_no hfa
              have cN := rg4 (w := wr) (fun W _ => near_any4 g p q x y W sY sX)
              rw [hnb] at cN
              clear hnb hfa sX sY hX hY
              have r0 := cell_regrown c0
              have r1 := cell_regrown c1'
              have r2 := cell_regrown d0
              have r3 := cell_regrown d1
              have hin' : i < n1 := hlt
              clear HCC hbel
              go_wp2_with fail
              refine wp_region_quiet_below (by kernel_rfl) (by kernel_rfl) ?_
              repeat (quiet_step (first | exact cN _ _))
              refine wpQuiet_nil ?_
              intro _ hw'
              obtain ⟨⟨dq, osq⟩, hw''⟩ := hw'
              subst hw''
              have B6 : Below w1.heap.size w1 (grow (redrawn wr dq) osq) := hbq.trans ((below_regrown wr dq osq).mono hbq.size)
              generalize grow (redrawn wr dq) osq = w6 at *
              go_wp2
              go_roundw
              case rel => exact ⟨k + 1, by omega, by go_num, B6⟩
              case measure => simp [intOf]; omega
          · obtain rfl : k = n1 := by omega
            go_wp2
            go_roundw
            case rel => exact ⟨i + 1, by omega, by go_num, hbq⟩
            case measure => simp [intOf]; omega
      · obtain rfl : i = n1 := by omega
        have Bw := Ext.tr B1 hbel
        have hs2 := HS1.out.below hbel hbel.size
        go_wp2_with fail
        refine (hO _ Bw).mono ?_
        rintro e w2 ⟨v2, rfl, hsp2, hb2⟩
        have B2 := Ext.tr Bw hb2
        have hs3 := hs2.below hb2 hb2.size
        have hof := rOf_set A1 i c1 F w2 HN1.out (by omega) hs3
        have HS3 := Lib.hid hs3
        clear hO hs2 hs3
        go_wp2_with fail
        refine hof.mono ?_
        rintro e w3 ⟨v3, rfl, hsp3, hb3⟩
        have B3 := Ext.tr B2 hb3
        have hsp2' := hsp2.below hb3
        have hFl : (normL F).length ≤ 30 := by have := normL_len F; have := HFL.out; omega
        have hLs := rLess_set hsp2' hsp3 (by have := HNL.out; omega) (by omega)
        have HP2 := Lib.hid hsp2'; have HP3 := Lib.hid hsp3
        clear hof hsp2 hsp2' hsp3
        go_wp2_with fail
        refine hLs.mono ?_
        rintro e w4 ⟨v4, rfl, ⟨hsp4, _, hc4, hm4⟩, hb4⟩
        have B4 := Ext.tr B3 hb4
        rw [HLN.out _ hc4 hm4] at hsp4
        obtain ⟨A4, n4, c4, rfl, HN4, hc4', -⟩ := hsp4.split
        obtain rfl : n4 = 0 := by have := HN4.out; simpa using this.symm
        have hNr := rNear_sp g (HP2.out.below hb4) HNC.out (by have := HNL.out; omega)
        clear hLs hm4 hc4 hsp4
        go_wp2_with fail
        refine hNr.mono ?_
        rintro e w5 ⟨v5, rfl, hsp5, hb5⟩
        have B5 := Ext.tr B4 hb5
        have hSa := rSame_sp (HP3.out.below (Ext.tr hb4 hb5)) hsp5 (normL_norm F).1 (near_canon g HNC.out) (by omega) (by have := closeL_len g N; have := HNL.out; omega)
        rw [show decide (normL F = closeL g N) = true from by simpa using HSW.out] at hSa
        clear hNr hsp5
        go_wp2_with fail
        refine hSa.mono ?_
        rintro e w6 ⟨rfl, hb6⟩
        have B6 := Ext.tr B5 hb6
        have e6 : Ext w2 w6 := Ext.tr hb3 (Ext.tr hb4 (Ext.tr hb5 hb6))
        have hs6 := HS3.out.below e6 e6.size
        have hF2 := fold_any g A1 i c1 F w6 HN1.out (by omega) hs6
        unfold FoldPost at hF2
        rw [HFF.out] at hF2
        have HS6 := Lib.hid hs6
        clear hSa hs6
        go_wp2_with fail
        refine hF2.mono ?_
        rintro e w7 ⟨v7, rfl, hown7, hb7⟩
        have B7 := Ext.tr B6 hb7
        have hsp := rspans_sp (IsSp.own hown7) (IsSp.mk' HN1.out hc1 (HS6.out.below hb7 hb7.size)) (by have := HFL.out; omega)
        rw [show decide (F = F) = true from by simp] at hsp
        clear hF2 hown7
        go_wp2_with (first
          | (go_at_call 22; refine hsp.mono ?_; rintro e w8 ⟨rfl, hb8⟩; have B8 := Ext.tr B7 hb8)
          | (go_at_call 11; refine (awake_any _ (hL.below B8)).mono ?_; rintro e w9 ⟨rfl, hb9⟩; have B9 := Ext.tr B8 hb9))
        go_ret
        exact ⟨rfl, B9⟩
end Go.Proofs.YtdmkfleiipfbgaaDoor
