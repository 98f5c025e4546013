/-
  The example that every statement of layer 8 asks beside its own: true in every start.
-/
import Derived.Test.YtomcoacndppkcaaGreatDoorUC
import Derived.Deep.RegionHeld3
namespace Go.Proofs.YtomcoacndppkcaaGreatDoor
open Go Go.RowKit
open T (Tg TgAt)

abbrev exT : ByteArray := ⟨#[97]⟩
abbrev exM : Array Value := #[.string exT, .bool false, .int .i64 (-1), .int .i64 5, .int .i64 0, .int .i64 0, .int .i64 0, .int .i64 0, .slice none 0 0, .string ⟨#[]⟩, .bool false]
/-- a request's block and a version's and a tag's, some blocks apart -/
structure AwAt (W : World) (bm bt bq : Nat) (S B : Option Addr) (ns sc m d : Nat) (rt : ByteArray) (rw : Bool) : Prop where
  lm : bm < W.heap.size
  lt : bt < W.heap.size
  lq : bq < W.heap.size
  nm : bm ≠ bq
  nt : bt ≠ bq
  cm : ∀ i, W.cell? ⟨bm, i, none⟩ = exM[i]?
  ct : ∀ i, W.cell? ⟨bt, i, none⟩ = (#[Value.string exT, Value.bool true] : Array Value)[i]?
  cq : ∀ i, W.cell? ⟨bq, i, none⟩ = (#[Value.bool false, .string ⟨#[47, 97]⟩, .slice S ns sc, .slice none 0 0, .slice B m d, .bool false, .bool false, .int .i64 (-1), .int .i64 (-1), .string rt, .bool rw] : Array Value)[i]?
  fq : ∀ i, W.frozen? ⟨bq, i, none⟩ = false
theorem AwAt.below {W W' : World} {bm bt bq : Nat} {S B : Option Addr} {ns sc m d : Nat} {rt : ByteArray} {rw : Bool} (h : AwAt W bm bt bq S B ns sc m d rt rw) (e : Below W.heap.size W W') : AwAt W' bm bt bq S B ns sc m d rt rw :=
  ⟨Nat.lt_of_lt_of_le h.lm e.size, Nat.lt_of_lt_of_le h.lt e.size, Nat.lt_of_lt_of_le h.lq e.size, h.nm, h.nt, fun i => by rw [e.cell (p := ⟨bm, i, none⟩) h.lm]; exact h.cm i, fun i => by rw [e.cell (p := ⟨bt, i, none⟩) h.lt]; exact h.ct i,
    fun i => by rw [e.cell (p := ⟨bq, i, none⟩) h.lq]; exact h.cq i, fun i => by rw [e.frozen (p := ⟨bq, i, none⟩) h.lq]; exact h.fq i⟩

theorem ck1 : cmD 0 0 [] [] false false (-1) (-1) (⟨#[]⟩, false) (exT, false) (-1) 5 0 true = 1 := by decide +kernel
theorem ck2 : cmD 0 1 [] [(exT, true)] false false (-1) (-1) (⟨#[]⟩, false) (exT, false) (-1) 5 0 true = 3 := by decide +kernel
theorem ck3 : cmD 0 0 [] [] false false (-1) (-1) (exT, true) (exT, false) (-1) 5 1 true = 2 := by decide +kernel
theorem two_nil (W : World) : TwoAt W none none 0 0 [] [] :=
  ⟨rfl, by omega, fun x hx => absurd hx (by simp), fun h => absurd h (by simp), rfl, by omega, fun x hx => absurd hx (by simp), fun h => absurd h (by simp)⟩
theorem exT_mx : T.Mx [(exT, true)] := by intro x hx; simp at hx; subst hx; decide
theorem two_one (W : World) (n : Nat) (hn : W.heap.size = n) : TwoAt (W.alloc (.cells #[.string exT, .bool true] 27)) none (some ⟨n, 0, none⟩) 0 1 [] [(exT, true)] := by
  subst hn
  exact ⟨rfl, by omega, fun x hx => absurd hx (by simp), fun h => absurd h (by simp), rfl, by omega, exT_mx, fun _ => ⟨W.heap.size, 0, rfl, by simp, fun j hj => by
    have : j = 0 := by simpa using hj
    subst this
    simp⟩⟩
theorem AwAt.set {W : World} {bm bt bq : Nat} {S B B' : Option Addr} {ns sc m d m' d' : Nat} {rt : ByteArray} {rw : Bool} (h : AwAt W bm bt bq S B ns sc m d rt rw) : AwAt (W.setCell ⟨bq, 4, none⟩ (.slice B' m' d')) bm bt bq S B' ns sc m' d' rt rw := by
  obtain ⟨lm, lt, lq, nm, nt, cm, ct, cq, fq⟩ := h
  have h4 := cq 4
  refine ⟨by simpa using lm, by simpa using lt, by simpa using lq, nm, nt, fun i => ?_, fun i => ?_, fun i => ?_, fun i => ?_⟩
  · exact (World.cell?_setCell_far W ⟨bq, 4, none⟩ ⟨bm, i, none⟩ _ (Ne.symm nm)).trans (cm i)
  · exact (World.cell?_setCell_far W ⟨bq, 4, none⟩ ⟨bt, i, none⟩ _ (Ne.symm nt)).trans (ct i)
  · by_cases hi : i = 4
    · subst hi
      rw [World.cell?_setCell_same _ _ _ h4]; rfl
    · refine (World.cell?_setCell_other W ⟨bq, 4, none⟩ ⟨bq, i, none⟩ _ fun e => hi (congrArg Addr.off e).symm).trans ?_
      rw [cq i]
      match i, hi with
      | 0, _ => rfl
      | 1, _ => rfl
      | 2, _ => rfl
      | 3, _ => rfl
      | 4, h => exact absurd rfl h
      | 5, _ => rfl
      | 6, _ => rfl
      | 7, _ => rfl
      | 8, _ => rfl
      | 9, _ => rfl
      | 10, _ => rfl
      | n + 11, _ => simp
  · rw [World.frozen?_setCell]; exact fq i

set_option maxHeartbeats 8000000 in
set_option maxRecDepth 100000 in
theorem awake_any (w : World) : Calls Tryz.prog 7 #[] w fun e w' => e = .returned (.bool true) ∧ Below w.heap.size w w' := by
  go_enter Tryz.func7, Tryz.ntmps7
  go_wp2_with fail
  with_reducible refine (cNone_any _).mono ?_
  rintro e w1 ⟨rfl, hb1⟩
  obtain ⟨hm, ht, z1, z2, B1⟩ := blk2 hb1
  go_wp2_with fail
  have hA := check_any false ⟨#[47, 97]⟩ none 0 0 none none 0 0 0 0 false false (-1) (-1) ⟨#[]⟩ false exT false (-1) 5 0 0 0 0 none 0 0 ⟨#[]⟩ false true [] []
  have hB := fun A => check_any false ⟨#[47, 97]⟩ none 0 0 none A 0 0 1 1 false false (-1) (-1) ⟨#[]⟩ false exT false (-1) 5 0 0 0 0 none 0 0 ⟨#[]⟩ false true [] [(exT, true)]
  have hC := fun S => check_any false ⟨#[47, 97]⟩ S 1 1 none none 0 0 0 0 false false (-1) (-1) exT true exT false (-1) 5 0 0 0 0 none 0 0 ⟨#[]⟩ false true [] []
  rw [ck1] at hA
  simp only [ck2] at hB
  simp only [ck3] at hC
  with_reducible refine (hA _ (two_nil _) (by decide) (by decide)).mono ?_
  rintro e w2 ⟨rfl, hb2⟩
  have A2 : AwAt w2 w.heap.size (w.heap.size + 1) w1.heap.size none none 0 0 0 0 ⟨#[]⟩ false := by
    refine AwAt.below ⟨by simp only [World.size_alloc]; omega, by simp only [World.size_alloc]; omega, by simp, by omega, by omega, fun i => ?_, fun i => ?_, fun i => ?_, fun i => ?_⟩ hb2
    all_goals (go_simp; done)
  have E2 : Ext w w2 := (Ext.tr B1 (Ext.tr ((Below.refl _ _).alloc (Nat.le_refl _) _) hb2))
  have hzz : w.heap.size ≤ w1.heap.size := by omega
  clear hA hb2 hm ht z1 z2 B1 hb1
  have A2' := Lib.hid A2
  obtain ⟨lm, lt, lq, nm, nt, cm, ct, cq, fq⟩ := A2
  have lq' : w1.heap.size ≠ w2.heap.size := by omega
  go_wp2_with fail
  with_reducible refine (hB _ _ (two_one _ w2.heap.size (by simp)) (by decide) (by decide)).mono ?_
  rintro e w3 ⟨rfl, hb3⟩
  have A3 := ((A2'.out.set (B' := some ⟨w2.heap.size, 0, none⟩) (m' := 1) (d' := 1)).below ((Below.refl _ _).alloc (Nat.le_refl _) _)).below hb3
  have E3 : Ext w w3 := Ext.tr (E2.setCell hzz _) (Ext.tr ((Below.refl _ _).alloc (Nat.le_refl _) _) hb3)
  clear hB hb3 A2' lm lt lq nm nt cm ct cq fq lq' E2
  have A3' := Lib.hid A3
  obtain ⟨lm, lt, lq, nm, nt, cm, ct, cq, fq⟩ := A3
  go_wp2_with fail
  go_region
  go_wp2_with fail
  with_reducible refine (hC _ _ (two_nil _) (by decide) (by decide)).mono ?_
  rintro e w4 ⟨rfl, hb4⟩
  have E4 : Ext w w4 := by
    refine Ext.tr (T.below_drewN (n := 1) (Below.alloc ((((E3.setCell hzz _).setCell hzz _).setCell hzz _).setCell hzz _) ?_ _)) hb4
    simpa using E3.size
  go_wp2_with fail
  go_ret
  exact ⟨rfl, E4⟩
end Go.Proofs.YtomcoacndppkcaaGreatDoor
