/-
  The walk of CondStrict.
-/
import Derived.Test.YtomcoacndppkcaaUD
namespace Go.Proofs.Ytomcoacndppkcaa
open Go Go.RowKit
open T (Tg TgAt inD stD okS)

theorem ok_some {s : ByteArray} {q : Bool} (h : okS s = true) : someR s q = true := by
  have : s ≠ ⟨#[]⟩ := by rintro rfl; exact absurd h (by decide +kernel)
  unfold someR; simp [this]
theorem cm_range (s t : ByteArray) (p q : Bool) (ns : Nat) (hs : okS s = true) (hn : 0 < ns) :
    (cmD 0 0 [] [] false false (-1) (-1) (s, p) (t, q) (-1) 9 ns true == 1) = stD (t, q) (s, p) := by
  unfold cmD checkD failD sameD
  simp only [ok_some hs]
  cases stD (t, q) (s, p) <;> simp [hn]
theorem cm_match (s t : ByteArray) (p q : Bool) (ns : Nat) :
    (cmD 1 0 [(s, p)] [] false false (-1) (-1) (⟨#[]⟩, false) (t, q) (-1) 9 ns true == 1) = stD (t, q) (s, p) := by
  have h : inD [(s, p)] (t, q) true = stD (t, q) (s, p) := by
    unfold inD T.oneD; simp [T.stD_comm]
  have hr : someR ⟨#[]⟩ false = false := rfl
  unfold cmD checkD failD sameD
  rw [h]
  simp only [hr]
  cases stD (t, q) (s, p) <;> simp
/-- one tag in a block of its own -/
theorem two_tag (W : World) (n : Nat) (hn : W.heap.size = n) (s : ByteArray) (p : Bool) (hs : s.size ≤ T.szM) : TwoAt (W.alloc (.cells #[.string s, .bool p] 25)) (some ⟨n, 0, none⟩) none 1 0 [(s, p)] [] := by
  subst hn
  exact ⟨rfl, by omega, fun x hx => by simp at hx; subst hx; exact hs, fun _ => ⟨W.heap.size, 0, rfl, by simp, fun j hj => by
    have : j = 0 := by simpa using hj
    subst this
    simp⟩, rfl, by omega, fun x hx => absurd hx (by simp), fun h => absurd h (by simp)⟩

set_option maxHeartbeats 16000000 in
set_option maxRecDepth 100000 in
theorem walk_CondStrict (st : ByteArray) (qt : Bool) (su : ByteArray) (qu : Bool) (S : Option Addr) (ns sc : Nat) (w : World) (ht : st.size ≤ T.szM) (hu : su.size ≤ T.szM) :
    Calls Try.prog 5 #[.agg #[.string st, .bool qt], .agg #[.string su, .bool qu], .slice S ns sc] w fun e w' => e = .returned (.bool true) ∧ Below w.heap.size w w' := by
  have hR1 := fun W => T.rright_any st qt W (T.szM_max ht)
  have hR2 := fun W => T.rright_any su qu W (T.szM_max hu)
  have HT := Lib.hid ht
  have HU := Lib.hid hu
  unfold T.szM at ht hu
  cases h1 : okS st with
  | false =>
    rw [h1] at hR1
    clear h1 hR2
    go_enter Try.func5, Try.ntmps5
    go_wp2_with (first
      | (go_at_call 10; with_reducible refine (hR1 _).mono ?_; rintro e w1 ⟨rfl, hb1⟩; obtain ⟨a0, a1, a2, a3, l1, l2, B1⟩ := T.cells2 hb1)
      | (go_at_call 7; with_reducible refine (awake_any _).mono ?_; rintro e w3 ⟨rfl, hb3⟩; have B9 := B1.trans (hb3.mono B1.size)))
    go_ret
    exact ⟨rfl, B9⟩
  | true =>
  rw [h1] at hR1
  have H1 := Lib.hid h1
  clear h1
  cases h2 : okS su with
  | false =>
    rw [h2] at hR2
    clear h2
    go_enter Try.func5, Try.ntmps5
    go_wp2_with (first
      | (go_at_call 10; with_reducible refine (hR1 _).mono ?_; rintro e w1 ⟨rfl, hb1⟩; obtain ⟨a0, a1, a2, a3, l1, l2, B1⟩ := T.cells2 hb1)
      | (go_at_call 10; with_reducible refine (hR2 _).mono ?_; rintro e w2 ⟨rfl, hb2⟩; have C2 := hb1.trans (hb2.mono hb1.size); obtain ⟨a0, a1, a2, a3, l1, l2, B2⟩ := T.cells2 C2)
      | (go_at_call 7; with_reducible refine (awake_any _).mono ?_; rintro e w3 ⟨rfl, hb3⟩; have B9 := B2.trans (hb3.mono B2.size)))
    go_ret
    exact ⟨rfl, B9⟩
  | true =>
  rw [h2] at hR2
  have H2 := Lib.hid h2
  clear h2
  by_cases h3 : st.size > 200
  · skip
    go_enter Try.func5, Try.ntmps5
    go_wp2_with (first
      | (go_at_call 10; with_reducible refine (hR1 _).mono ?_; rintro e w1 ⟨rfl, hb1⟩; obtain ⟨a0, a1, a2, a3, l1, l2, B1⟩ := T.cells2 hb1)
      | (go_at_call 10; with_reducible refine (hR2 _).mono ?_; rintro e w2 ⟨rfl, hb2⟩; have C2 := hb1.trans (hb2.mono hb1.size); obtain ⟨a0, a1, a2, a3, l1, l2, B2⟩ := T.cells2 C2)
      | (go_at_call 7; with_reducible refine (awake_any _).mono ?_; rintro e w3 ⟨rfl, hb3⟩; have B9 := B2.trans (hb3.mono B2.size)))
    go_ret
    exact ⟨rfl, B9⟩
  by_cases h4 : su.size > 200
  · skip
    go_enter Try.func5, Try.ntmps5
    go_wp2_with (first
      | (go_at_call 10; with_reducible refine (hR1 _).mono ?_; rintro e w1 ⟨rfl, hb1⟩; obtain ⟨a0, a1, a2, a3, l1, l2, B1⟩ := T.cells2 hb1)
      | (go_at_call 10; with_reducible refine (hR2 _).mono ?_; rintro e w2 ⟨rfl, hb2⟩; have C2 := hb1.trans (hb2.mono hb1.size); obtain ⟨a0, a1, a2, a3, l1, l2, B2⟩ := T.cells2 C2)
      | (go_at_call 7; with_reducible refine (awake_any _).mono ?_; rintro e w3 ⟨rfl, hb3⟩; have B9 := B2.trans (hb3.mono B2.size)))
    go_ret
    exact ⟨rfl, B9⟩
  by_cases h5 : ns > 70
  · skip
    go_enter Try.func5, Try.ntmps5
    go_wp2_with (first
      | (go_at_call 10; with_reducible refine (hR1 _).mono ?_; rintro e w1 ⟨rfl, hb1⟩; obtain ⟨a0, a1, a2, a3, l1, l2, B1⟩ := T.cells2 hb1)
      | (go_at_call 10; with_reducible refine (hR2 _).mono ?_; rintro e w2 ⟨rfl, hb2⟩; have C2 := hb1.trans (hb2.mono hb1.size); obtain ⟨a0, a1, a2, a3, l1, l2, B2⟩ := T.cells2 C2)
      | (go_at_call 7; with_reducible refine (awake_any _).mono ?_; rintro e w3 ⟨rfl, hb3⟩; have B9 := B2.trans (hb3.mono B2.size)))
    go_ret
    exact ⟨rfl, B9⟩
  by_cases h6 : ns = 0
  · subst h6
    go_enter Try.func5, Try.ntmps5
    go_wp2_with (first
      | (go_at_call 10; with_reducible refine (hR1 _).mono ?_; rintro e w1 ⟨rfl, hb1⟩; obtain ⟨a0, a1, a2, a3, l1, l2, B1⟩ := T.cells2 hb1)
      | (go_at_call 10; with_reducible refine (hR2 _).mono ?_; rintro e w2 ⟨rfl, hb2⟩; have C2 := hb1.trans (hb2.mono hb1.size); obtain ⟨a0, a1, a2, a3, l1, l2, B2⟩ := T.cells2 C2)
      | (go_at_call 7; with_reducible refine (awake_any _).mono ?_; rintro e w3 ⟨rfl, hb3⟩; have B9 := B2.trans (hb3.mono B2.size)))
    go_ret
    exact ⟨rfl, B9⟩
  have hn0 : ((ns : Int) == 0) = false := by simpa using h6
  go_enter Try.func5, Try.ntmps5
  go_wp2_with (first
    | (go_at_call 10; with_reducible refine (hR1 _).mono ?_; rintro e w1 ⟨rfl, hb1⟩; obtain ⟨a0, a1, a2, a3, l1, l2, B1⟩ := T.cells2 hb1)
    | (go_at_call 10; with_reducible refine (hR2 _).mono ?_; rintro e w2 ⟨rfl, hb2⟩; have C2 := hb1.trans (hb2.mono hb1.size); obtain ⟨a0, a1, a2, a3, l1, l2, B2⟩ := T.cells2 C2))
  with_reducible refine (cNone_any _).mono ?_
  rintro e w3 ⟨rfl, hb3⟩
  have e3 : Ext w2 w3 := Ext.tr ((Below.refl _ _).alloc (Nat.le_refl _) _) hb3
  have C3 := C2.trans (e3.mono C2.size)
  obtain ⟨a0, a1, a2, a3, l1, l2, B3⟩ := T.cells2 C3
  obtain ⟨hm, l3⟩ := two_cells (q := w2.heap.size) rfl hb3
  clear hb1 hb2 hb3 C2 B1 B2
  go_wp2_with fail
  with_reducible refine (cNone_any _).mono ?_
  rintro e w4 ⟨rfl, hb4⟩
  have e4 : Ext w3 w4 := Ext.tr ((Below.refl _ _).alloc (Nat.le_refl _) _) hb4
  have C4 := C3.trans (e4.mono C3.size)
  obtain ⟨hq, l4⟩ := two_cells (q := w3.heap.size) rfl hb4
  replace hm : ∀ i, w4.cell? ⟨w2.heap.size, i, none⟩ = _ := fun i => (e4.cell (p := ⟨w2.heap.size, i, none⟩) l3).trans (hm i)
  replace l3 := Nat.lt_of_lt_of_le l3 e4.size
  obtain ⟨a0, a1, a2, a3, l1, l2, B4⟩ := T.cells2 C4
  clear hb4 C3 B3 e3
  generalize w2.heap.size = bm at *
  generalize w3.heap.size = bq at *
  obtain ⟨b, HB⟩ : ∃ b, Hid (stD (su, qu) (st, qt) = b) := ⟨_, rfl⟩
  have hP := check_any false ⟨#[]⟩ S ns sc (some ⟨w4.heap.size + 1, 0, none⟩) none 1 1 0 0 false false (-1) (-1) ⟨#[]⟩ false su qu (-1) 9 0 0 0 0 none 0 0 ⟨#[]⟩ false true [(st, qt)] []
  have hQ := fun W => check_any false ⟨#[]⟩ S ns sc none none 0 0 0 0 false false (-1) (-1) st qt su qu (-1) 9 0 0 0 0 none 0 0 ⟨#[]⟩ false true [] [] W (two_nil W) (T.szM_max HU.out) (T.szM_max HT.out)
  have f1 := (cm_range st su qt qu ns H1.out (by omega)).trans HB.out
  have f2 := (cm_match st su qt qu ns).trans HB.out
  generalize cmD 0 0 [] [] false false (-1) (-1) (st, qt) (su, qu) (-1) 9 ns true = X1 at *
  generalize cmD 1 0 [(st, qt)] [] false false (-1) (-1) (⟨#[]⟩, false) (su, qu) (-1) 9 ns true = X2 at *
  have f3 : (b == b) = true := by simp
  go_upto_region 8 with fail
  generalize hW6 : (w4.alloc (.cells #[Value.bool false, .string ⟨#[]⟩, .slice S ns sc, .slice (some ⟨w4.heap.size + 1, 0, none⟩) 1 1, .slice none 0 0, .bool false, .bool false, .int .i64 (-1), .int .i64 (-1), .string ⟨#[]⟩, .bool false] 29)).alloc (.cells #[.string st, .bool qt] 25) = w6
  have e6 : Ext w4 w6 := by rw [← hW6]; go_grown
  have l6 : w4.heap.size < w6.heap.size := by rw [← hW6]; simp only [World.size_alloc]; omega
  have hp : ∀ i, w6.cell? ⟨w4.heap.size, i, none⟩ = (#[Value.bool false, .string ⟨#[]⟩, .slice S ns sc, .slice (some ⟨w4.heap.size + 1, 0, none⟩) 1 1, .slice none 0 0, .bool false, .bool false, .int .i64 (-1), .int .i64 (-1), .string ⟨#[]⟩, .bool false] : Array Value)[i]? := fun i => by rw [← hW6]; clear hW6; go_simp
  have T6 : TwoAt w6 (some ⟨w4.heap.size + 1, 0, none⟩) none 1 0 [(st, qt)] [] := by rw [← hW6]; exact two_tag _ _ (by simp) st qt HT.out
  have C6 := C4.trans (e6.mono C4.size)
  replace hm : ∀ i, w6.cell? ⟨bm, i, none⟩ = _ := fun i => (e6.cell (p := ⟨bm, i, none⟩) l3).trans (hm i)
  replace hq : ∀ i, w6.cell? ⟨bq, i, none⟩ = _ := fun i => (e6.cell (p := ⟨bq, i, none⟩) l4).trans (hq i)
  replace l3 := Nat.lt_of_lt_of_le l3 e6.size
  replace l4 := Nat.lt_of_lt_of_le l4 e6.size
  clear hW6 e6 e4
  obtain ⟨a0, a1, a2, a3, l1, l2, B6⟩ := T.cells2 C6
  generalize w4.heap.size = bp at *
  go_cut [10] (fun q10 wx => q10 = .bool b ∧ wx = w6)
  case first =>
    by_cases he : st = su
    · subst he
      cases qt <;> cases qu <;>
      · go_wp2_with fail
        go_meet
        exact ⟨by rw [← HB.out]; unfold stD T.wkD; simp [H1.out, T.eqB], rfl⟩
    · have hx : ¬ st.toList = su.toList := fun q => he (T.eqB_iff.1 (by unfold T.eqB; simp [q]))
      go_wp2_with fail
      go_meet
      exact ⟨by rw [← HB.out]; unfold stD T.wkD; rw [T.eqB_comm]; simp [T.eqB, hx], rfl⟩
  case rest =>
  obtain ⟨rfl, rfl⟩ := hcut
  generalize hwc : wc = w6 at *
  clear hwc HB
  go_wp2_with fail
  with_reducible refine (hQ _).mono ?_
  rintro e w7 ⟨rfl, hb7⟩
  replace hm : ∀ i, w7.cell? ⟨bm, i, none⟩ = _ := fun i => (hb7.cell (p := ⟨bm, i, none⟩) l3).trans (hm i)
  replace hp : ∀ i, w7.cell? ⟨bp, i, none⟩ = _ := fun i => (hb7.cell (p := ⟨bp, i, none⟩) l6).trans (hp i)
  have T7 := T6.below hb7
  have B7 := B6.trans (hb7.mono B6.size)
  clear hq a0 a1 a2 a3 hb7
  go_wp2_with fail
  with_reducible refine (hP _ T7 (T.szM_max HU.out) (by decide)).mono ?_
  rintro e w8 ⟨rfl, hb8⟩
  go_wp2_with fail
  with_reducible refine (awake_any _).mono ?_
  rintro e w9 ⟨rfl, hb9⟩
  go_wp2_with fail
  go_ret
  exact ⟨rfl, Ext.tr (Ext.tr B7 hb8) hb9⟩
end Go.Proofs.Ytomcoacndppkcaa
