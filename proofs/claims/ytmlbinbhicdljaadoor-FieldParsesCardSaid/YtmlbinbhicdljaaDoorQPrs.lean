/-
  The walk of FieldParses.
-/
import Derived.Test.YtmlbinbhicdljaaDoorEP
namespace Go.Proofs.YtmlbinbhicdljaaDoor
open Go Go.RowKit

theorem goL_acc : ∀ (m : Nat) (big : Bool) (a : Nat) (acc : List Fd) (s : List UInt8), s.length ≤ m → acc.length ≤ 100 → (goL big a acc s).1.length ≤ 100
  | m, big, a, acc, s, hm, ha => by
    cases h : cutLine s with
    | none => rw [goL_none h]; simp
    | some p =>
      have hl := cutLine_len h
      by_cases h1 : 65536 < a + p.1.length + 2
      · rw [goL_long h h1]; simp
      · by_cases h2 : p.1 = []
        · rw [goL_end h h1 h2]; exact ha
        · by_cases h3 : acc.length = 100
          · rw [goL_many h h1 h2 h3]; simp
          · cases h4 : readD p.1 with
            | none => rw [goL_bad h h1 h2 h3 h4]; simp
            | some f =>
              rw [goL_go h h1 h2 h3 h4]
              exact goL_acc (m - 2) big _ _ _ (by omega) (by rw [List.length_append, List.length_singleton]; omega)
  termination_by m => m
  decreasing_by omega
theorem parseD_len (s : List UInt8) : (parseD s).1.length ≤ 100 := goL_acc s.length _ _ _ _ (Nat.le_refl _) (by simp)

set_option maxHeartbeats 8000000 in
set_option maxRecDepth 100000 in
theorem walk_FieldParses (s : ByteArray) (w : World) (hmx : MxAt w) (hs : s.size ≤ szM) :
    Calls Tryd.prog 8 #[.string s] w fun e w' => e = .returned (.bool true) ∧ Below w.heap.size w w' := by
  unfold szM at hs
  by_cases hg : 66000 < s.size
  · have g1 : ((66000 : Int) < (s.size : Int)) = True := eq_true (by omega)
    clear hg
    go_enter Tryd.func8, Tryd.ntmps8
    go_wp2_with fail
    with_reducible refine (alive_any _ hmx).mono ?_
    rintro e w1 ⟨rfl, hb1⟩
    go_wp2_with fail
    go_ret
    exact ⟨rfl, hb1⟩
  · have g1 : ((66000 : Int) < (s.size : Int)) = False := eq_false (by omega)
    have hA := fun W hW => parse_any s W (by omega) hW
    have hB := fun W => rparse_any s W (by omega)
    have hlen := parseD_len s.data.toList
    unfold parseV at hA hB
    generalize (parseD s.data.toList).1 = l at *
    generalize (parseD s.data.toList).2.1 = b at *
    generalize (parseD s.data.toList).2.2 = E at *
    have q1 : ((b : Int) == (b : Int)) = true := by simp
    have q2 : (E == E) = true := by simp
    clear hg
    go_enter Tryd.func8, Tryd.ntmps8
    go_wp2_with fail
    with_reducible refine (alive_any _ hmx).mono ?_
    rintro e w1 ⟨rfl, hb1⟩
    have hm1 := hmx.ext hb1 (Nat.le_refl _)
    go_wp2_with fail
    with_reducible refine (hA _ hm1).mono ?_
    rintro e w2 ⟨v2, rfl, hown2, hb2⟩
    have B2 := Ext.tr hb1 hb2
    go_wp2_with fail
    with_reducible refine (hB _).mono ?_
    rintro e w3 ⟨v3, rfl, hown3, hb3⟩
    have B3 := Ext.tr B2 hb3
    have is2 := (IsFd.own hown2).below hb3
    have hS := rsame_is is2 (IsFd.own hown3) (by omega)
    rw [sameF_t rfl] at hS
    clear is2 hown2 hown3 hA hB
    go_wp2_with (go_at_call 19; with_reducible refine hS.mono ?_; rintro e w4 ⟨rfl, hb4⟩)
    go_ret
    exact ⟨rfl, Ext.tr B3 hb4⟩
end Go.Proofs.YtmlbinbhicdljaaDoor
