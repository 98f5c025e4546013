/-
  Get of a map.
-/
import Derived.Test.YtlnfpolhccbnpaaII
namespace Go.Proofs.Ytlnfpolhccbnpaa
open Go Go.RowKit

theorem far2 {W : World} {q p k : Nat} {u v : Value} (hn : p ≠ q) : ((W.setCell ⟨p, 0, none⟩ u).setCell ⟨p, 1, none⟩ v).cell? ⟨q, k, none⟩ = W.cell? ⟨q, k, none⟩ := by
  rw [World.cell?_setCell_far _ _ _ _ (show p ≠ q from hn), World.cell?_setCell_far _ _ _ _ (show p ≠ q from hn)]
/-- what Get tells: value, span, is it -/
def getI (l : List Rn) (p : Int) : Int × Int × Int × Bool :=
  if (l.getD (idxA l p) r0).1 ≤ p ∧ idxA l p < l.length then ((l.getD (idxA l p) r0).2.2, (l.getD (idxA l p) r0).1, (l.getD (idxA l p) r0).2.1, true) else (0, 0, 0, false)
theorem getI_tell {l : List Rn} (hg : Good 0 none l) (p : Int) : tell l p = (if (getI l p).2.2.2 then some (getI l p).1 else Option.none) ∧ ((getI l p).2.2.2 = true → (getI l p).2.1 ≤ p ∧ p < (getI l p).2.2.1) := by
  have hs : l.take (idxA l p) ++ l.drop (idxA l p) = l := List.take_append_drop _ _
  have h1 : tell (l.take (idxA l p)) p = Option.none := tell_none fun r hr => by have := idxA_ahead (l := l) (a := p) r hr; omega
  have h2 : tell l p = tell (l.drop (idxA l p)) p := by
    conv => lhs; rw [← hs]
    rw [tell_app, h1]; rfl
  rw [h2]
  by_cases h : idxA l p < l.length
  · have e : l.drop (idxA l p) = l[idxA l p] :: l.drop (idxA l p + 1) := List.drop_eq_getElem_cons h
    have hb := idxA_behind hg (a := p) l[idxA l p] (by rw [e]; exact List.mem_cons_self ..)
    by_cases hf : l[idxA l p].1 ≤ p
    · have hG : getI l p = (l[idxA l p].2.2, l[idxA l p].1, l[idxA l p].2.1, true) := by
        unfold getI; rw [getD_at h, if_pos ⟨hf, h⟩]
      rw [hG, e]
      simp only [tell]
      rw [if_pos ⟨hf, hb⟩]
      exact ⟨rfl, fun _ => ⟨hf, hb⟩⟩
    · have hG : getI l p = (0, 0, 0, false) := by
        unfold getI; rw [getD_at h, if_neg (fun k => hf k.1)]
      rw [hG]
      refine ⟨?_, fun k => by cases k⟩
      have hg2 : Good l[idxA l p].1 Option.none (l.drop (idxA l p)) := by
        have := hg
        rw [← hs, good_app] at this
        have h3 := this.2
        rw [e] at h3 ⊢
        exact ⟨Int.le_refl _, h3.2.1, h3.2.2.1, fun _ => by simp, h3.2.2.2.2⟩
      exact tell_low hg2 (by omega)
  · have hG : getI l p = (0, 0, 0, false) := by
      unfold getI; rw [if_neg (fun k => h k.2)]
    rw [hG]
    refine ⟨?_, fun k => by cases k⟩
    rw [List.drop_of_length_le (by omega)]; rfl

set_option maxHeartbeats 4000000 in
set_option maxRecDepth 100000 in
theorem get_any (M : Value) (A : Option Addr) (n c : Nat) (l : List Rn) (p : Int) (w : World) (hM : Lists M w A n c) (hn : l.length = n) (hbig : n ≤ 1000000) (hg : Good 0 Option.none l) (hs : RnAt w w.heap.size A l) :
    Calls Try.prog 17 #[M, .int .i64 p] w fun e w' => e = .returned (.tuple #[.int .i64 (getI l p).1, .agg #[.int .i64 (getI l p).2.1, .int .i64 (getI l p).2.2.1], .bool (getI l p).2.2.2]) ∧ Ext w w' := by
  have e1 : Ext w (w.alloc (.cells #[.int .i64 0, .int .i64 0] 35)) := (Below.refl _ _).alloc (Nat.le_refl _) _
  have z1 : w.heap.size < (w.alloc (.cells #[.int .i64 0, .int .i64 0] 35)).heap.size := by simp
  have HL := Lib.hid (hM _ e1)
  have HA := Lib.hid (after_any M A n c l p _ (hM.ext e1) hn hbig hg (hs.ext e1))
  have hile := idxA_le l p
  by_cases hi : idxA l p < n
  · obtain ⟨b, o, rfl, hbz, hc⟩ := hs (by omega)
    obtain ⟨c0, c1, c2⟩ := hc (idxA l p) (by omega)
    have hgm := good_mem hg l[idxA l p] (List.getElem_mem _)
    have hbe := idxA_behind hg (a := p) l[idxA l p] (by rw [List.drop_eq_getElem_cons (by omega)]; exact List.mem_cons_self ..)
    have hG : getI l p = if l[idxA l p].1 ≤ p then (l[idxA l p].2.2, l[idxA l p].1, l[idxA l p].2.1, true) else (0, 0, 0, false) := by
      unfold getI
      rw [getD_at (by omega)]
      by_cases h : l[idxA l p].1 ≤ p
      · rw [if_pos ⟨h, by omega⟩, if_pos h]
      · rw [if_neg (fun k => h k.1), if_neg h]
    rw [hG]
    generalize getI l p = GG at *
    clear hG GG hc hM hs
    generalize l[idxA l p] = F at *
    obtain ⟨f1, f2, f3⟩ := F
    simp only at c0 c1 c2 hgm hbe ⊢
    generalize idxA l p = i at *
    have q1 : ¬ ((i : Int) = (n : Int)) := by omega
    have q2 : (i : Int) < (n : Int) := by omega
    have hhas : Hid (hasB f1 f2 p = decide (f1 ≤ p)) := by
      unfold Hid hasB
      rw [rtB_mk (by unfold opnI at hgm; omega)]
      by_cases h : f1 ≤ p <;> simp [h]; omega
    have hH := Lib.hid (fun W => has_any f1 f2 p W)
    rw [hhas.out] at hH
    clear hhas hgm
    by_cases hf : f1 ≤ p
    · simp only [hf, if_true, decide_true] at hH ⊢
      go_enter Try.func17, Try.ntmps17
      go_wp2_with (first
        | (go_at_call 37; refine (Hid.out HL).mono ?_; rintro e w1 ⟨rfl, rfl⟩)
        | (go_at_call 39; refine (Hid.out HA).mono ?_; rintro e w2 ⟨rfl, E2⟩; have D2 := E2; have X2 : Ext w w2 := Ext.tr e1 E2; obtain ⟨hc2, hf2⟩ := bcell E2; have hz2 := X2.size)
        | (go_at_call 40; with_reducible refine (hH.out _).mono ?_; rintro e w3 ⟨rfl, E3⟩; obtain ⟨hc3, hf3⟩ := bcell E3; have D3 := Ext.tr D2 E3; have X3 : Ext w w3 := Ext.tr X2 E3; have hz3 : w.heap.size < w3.heap.size ∧ b < w3.heap.size ∧ w.heap.size < w2.heap.size ∧ b < w2.heap.size := (by have := E3.size; have := E2.size; simp at this; omega)))
      have k0 := (X3.cell (p := ⟨b, o + i * 3, none⟩) hbz).trans c0
      have k1 := (X3.cell (p := ⟨b, o + i * 3 + 1, none⟩) hbz).trans c1
      have k2 := (X3.cell (p := ⟨b, o + i * 3 + 2, none⟩) hbz).trans c2
      have hrb : w.heap.size ≠ b := by omega
      go_region_held3 (fun W => W.cell? ⟨b, o + i * 3, none⟩ = some (.int .i64 f1) ∧ W.cell? ⟨b, o + i * 3 + 1, none⟩ = some (.int .i64 f2) ∧ W.cell? ⟨b, o + i * 3 + 2, none⟩ = some (.int .i64 f3)) (first | exact ⟨k0, k1, k2⟩ | exact ⟨(far2 hrb).trans k0, (far2 hrb).trans k1, (far2 hrb).trans k2⟩) (fail)
      have r30 : w3.cell? ⟨w.heap.size, 0, none⟩ = some (.int .i64 0) := (D3.cell (p := ⟨w.heap.size, 0, none⟩) z1).trans (by simp)
      have r31 : w3.cell? ⟨w.heap.size, 1, none⟩ = some (.int .i64 0) := (D3.cell (p := ⟨w.heap.size, 1, none⟩) z1).trans (by simp)
      have P0 := pair0 (W := w3) (p := w.heap.size) f1 f2 (by rw [r30]; rfl)
      have P1 := pair1 (W := w3) (p := w.heap.size) f1 f2 (by rw [r31]; rfl)
      go_wp2_with fail
      refine bodyPost_ret (v := .tuple #[.int .i64 f3, .agg #[.int .i64 f1, .int .i64 f2], .bool true]) (by simp [results, Try.results17, go_sem, P0, P1]) rfl ⟨rfl, ?_⟩
      exact Below.drew (Below.setCell (Below.setCell X3 (Nat.le_refl _) _) (Nat.le_refl _) _)
    · have hd : decide (f1 ≤ p) = false := by simpa using hf
      rw [if_neg hf]
      rw [hd] at hH
      go_enter Try.func17, Try.ntmps17
      go_wp2_with (first
        | (go_at_call 37; refine (Hid.out HL).mono ?_; rintro e w1 ⟨rfl, rfl⟩)
        | (go_at_call 39; refine (Hid.out HA).mono ?_; rintro e w2 ⟨rfl, E2⟩; have D2 := E2; have X2 : Ext w w2 := Ext.tr e1 E2; obtain ⟨hc2, hf2⟩ := bcell E2; have hz2 := X2.size)
        | (go_at_call 40; with_reducible refine (hH.out _).mono ?_; rintro e w3 ⟨rfl, E3⟩; obtain ⟨hc3, hf3⟩ := bcell E3; have D3 := Ext.tr D2 E3; have X3 : Ext w w3 := Ext.tr X2 E3; have hz3 : w.heap.size < w3.heap.size ∧ b < w3.heap.size ∧ w.heap.size < w2.heap.size ∧ b < w2.heap.size := (by have := E3.size; have := E2.size; simp at this; omega)))
      have r30 : w3.cell? ⟨w.heap.size, 0, none⟩ = some (.int .i64 0) := (D3.cell (p := ⟨w.heap.size, 0, none⟩) z1).trans (by simp)
      have r31 : w3.cell? ⟨w.heap.size, 1, none⟩ = some (.int .i64 0) := (D3.cell (p := ⟨w.heap.size, 1, none⟩) z1).trans (by simp)
      have P0 := pair0 (W := w3) (p := w.heap.size) 0 0 (by rw [r30]; rfl)
      have P1 := pair1 (W := w3) (p := w.heap.size) 0 0 (by rw [r31]; rfl)
      refine bodyPost_ret (v := .tuple #[.int .i64 0, .agg #[.int .i64 0, .int .i64 0], .bool false]) (by simp [results, Try.results17, go_sem, P0, P1]) rfl ⟨rfl, ?_⟩
      exact Below.setCell (Below.setCell X3 (Nat.le_refl _) _) (Nat.le_refl _) _
  · have hG : getI l p = (0, 0, 0, false) := by unfold getI; rw [if_neg (fun k => hi (by omega))]
    rw [hG]
    have hin : idxA l p = n := by omega
    rw [hin] at HA
    clear hM hs hG hin
    go_enter Try.func17, Try.ntmps17
    go_wp2_with (first
      | (go_at_call 37; refine (Hid.out HL).mono ?_; rintro e w1 ⟨rfl, rfl⟩)
      | (go_at_call 39; refine (Hid.out HA).mono ?_; rintro e w3 ⟨rfl, D3⟩; have X3 : Ext w w3 := Ext.tr e1 D3; obtain ⟨hc3, hf3⟩ := bcell D3; have hz3 : w.heap.size < w3.heap.size := (by have := D3.size; simp at this; omega)))
    have r30 : w3.cell? ⟨w.heap.size, 0, none⟩ = some (.int .i64 0) := (D3.cell (p := ⟨w.heap.size, 0, none⟩) z1).trans (by simp)
    have r31 : w3.cell? ⟨w.heap.size, 1, none⟩ = some (.int .i64 0) := (D3.cell (p := ⟨w.heap.size, 1, none⟩) z1).trans (by simp)
    have P0 := pair0 (W := w3) (p := w.heap.size) 0 0 (by rw [r30]; rfl)
    have P1 := pair1 (W := w3) (p := w.heap.size) 0 0 (by rw [r31]; rfl)
    refine bodyPost_ret (v := .tuple #[.int .i64 0, .agg #[.int .i64 0, .int .i64 0], .bool false]) (by simp [results, Try.results17, go_sem, P0, P1]) rfl ⟨rfl, ?_⟩
    exact Below.setCell (Below.setCell X3 (Nat.le_refl _) _) (Nat.le_refl _) _
end Go.Proofs.Ytlnfpolhccbnpaa
