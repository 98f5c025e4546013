/-
  What a text is read as, by the reference: Parse.
-/
import Derived.Test.YtmlbinbhicdljaaDoorGR
namespace Go.Proofs.YtmlbinbhicdljaaDoor
open Go Go.RowKit

theorem posL_none {S : List UInt8} {a : Nat} (h : cutLine (S.drop a) = none) : posL S a = -1 := by unfold posL; rw [h]
theorem posL_some {S : List UInt8} {a : Nat} {p : List UInt8 × List UInt8} (h : cutLine (S.drop a) = some p) : posL S a = ((a + p.1.length : Nat) : Int) := by unfold posL; rw [h]
theorem ext_line {s : ByteArray} {a : Nat} {p : List UInt8 × List UInt8} (h : cutLine (s.data.toList.drop a) = some p) : (s.extract a (a + p.1.length)).data.toList = p.1 := by
  rw [ByteArray.data_extract, Array.toList_extract, List.extract_eq_take_drop, cutLine_eq _ _ h]
  simp

set_option maxHeartbeats 8000000 in
set_option maxRecDepth 20000 in
theorem rparse_any (s : ByteArray) (w : World) (hs : s.size ≤ 1000000) :
    Calls Tryd.prog 33 #[.string s] w fun e w' => ∃ v, e = .returned (parseV v s.data.toList) ∧ OwnF w' w.heap.size v (parseD s.data.toList).1 ∧ Below w.heap.size w w' := by
  obtain ⟨D, HD⟩ : ∃ D, Hid (parseD s.data.toList = D) := ⟨_, rfl⟩
  have HG0 : Hid (goL (decide (65536 < s.size)) 0 [] (s.data.toList.drop 0) = D) := by unfold Hid; rw [← HD.out, List.drop_zero]; unfold parseD; rw [Lib.size_eq]
  unfold parseV
  rw [HD.out]
  clear HD
  have HB : Hid (∀ b, b = decide (65536 < s.size) → (65536 < s.size ∧ b = true) ∨ (¬ 65536 < s.size ∧ b = false)) := by
    unfold Hid; intro b e
    by_cases h : 65536 < s.size
    · exact .inl ⟨h, by rw [e]; simpa using h⟩
    · exact .inr ⟨h, by rw [e]; simpa using h⟩
  have HB2 := Lib.hid (HB.out _ rfl)
  clear HB
  generalize decide (65536 < s.size) = big at *
  go_enter Tryd.func33, Tryd.ntmps33
  go_wp2
  go_loopw [5, 6] (fun vl ve wr => ∃ (a : Nat) (acc : List Fd), ve = .int .i64 a ∧ a ≤ s.size ∧ acc.length ≤ 100 ∧ OwnF wr w.heap.size vl acc ∧ Hid (goL big a acc (s.data.toList.drop a) = D) ∧ Below w.heap.size w wr) (fun _ ve _ => s.size - (intOf ve).toNat)
  case atStart => exact ⟨0, [], rfl, Nat.zero_le _, by simp, World.ownsRow_nil _ _ _ _, HG0, Below.refl _ _⟩
  case round =>
    clear HG0
    obtain ⟨a, acc, rfl, ha, hal, hown, HG, hbel⟩ := hrel
    have hwz := hbel.size
    have hline := fun W => rline_any s a W hs ha
    have HDL := Lib.hid (fun p => drop_line (S := s.data.toList) (a := a) (p := p))
    have d0 : (0 : Int) ≤ (a : Int) := by omega
    have d1 : (a : Int) ≤ (s.size : Int) := by omega
    cases hc : cutLine (s.data.toList.drop a) with
    | none =>
      rw [posL_none hc] at hline
      have HF : Hid (D = ([], 0, if big then 4 else 3)) := by unfold Hid; rw [← HG.out, goL_none hc]
      rcases HB2.out with ⟨hbg, hb⟩ | ⟨hbg, hb⟩
      · rw [hb, if_pos rfl] at HF
        have g1 : ((s.size : Int) ≤ 65536) = False := eq_false (by omega)
        clear HG HDL hc hbg HB2
        go_wp2_with (go_at_call 54; with_reducible refine (hline _).mono ?_; rintro e w1 ⟨rfl, rfl⟩)
        exact bodyPost_ret (v := .tuple #[.slice none 0 0, .int .i64 0, .int .i64 4]) (by simp [results, Tryd.results33, go_sem]) rfl ⟨.slice none 0 0, by rw [HF.out]; rfl, by rw [HF.out]; exact World.ownsRow_nil _ _ _ _, hbel⟩
      · rw [hb, if_neg Bool.false_ne_true] at HF
        have g1 : ((s.size : Int) ≤ 65536) = True := eq_true (by omega)
        clear HG HDL hc hbg HB2
        go_wp2_with (go_at_call 54; with_reducible refine (hline _).mono ?_; rintro e w1 ⟨rfl, rfl⟩)
        exact bodyPost_ret (v := .tuple #[.slice none 0 0, .int .i64 0, .int .i64 3]) (by simp [results, Tryd.results33, go_sem]) rfl ⟨.slice none 0 0, by rw [HF.out]; rfl, by rw [HF.out]; exact World.ownsRow_nil _ _ _ _, hbel⟩
    | some p =>
      rw [posL_some hc] at hline
      obtain ⟨hd1, hd2⟩ := HDL.out p hc
      rw [← Lib.size_eq] at hd2
      have HD1 := Lib.hid hd1
      have hel := ext_line hc
      have hR := fun W => rfield_any (s.extract a (a + p.1.length)) W (by rw [ByteArray.size_extract]; omega)
      rw [hel] at hR
      unfold FieldPost at hR
      have HS1 := Lib.hid (fun (h1 : 65536 < a + p.1.length + 2) => goL_long (big := big) (acc := acc) hc h1)
      have HS2 := Lib.hid (fun (h1 : ¬ 65536 < a + p.1.length + 2) (h2 : p.1 = []) => goL_end (big := big) (acc := acc) hc h1 h2)
      have HS3 := Lib.hid (fun (h1 : ¬ 65536 < a + p.1.length + 2) (h2 : p.1 ≠ []) (h3 : acc.length = 100) => goL_many (big := big) (acc := acc) hc h1 h2 h3)
      have HS4 := Lib.hid (fun (h1 : ¬ 65536 < a + p.1.length + 2) (h2 : p.1 ≠ []) (h3 : acc.length ≠ 100) (h4 : readD p.1 = none) => goL_bad (big := big) (acc := acc) hc h1 h2 h3 h4)
      have HS5 := Lib.hid (fun (h1 : ¬ 65536 < a + p.1.length + 2) (h2 : p.1 ≠ []) (h3 : acc.length ≠ 100) (f : Fd) (h4 : readD p.1 = some f) => goL_go (big := big) (acc := acc) hc h1 h2 h3 h4)
      have HE : Hid (p.1 = [] ↔ p.1.length = 0) := List.length_eq_zero_iff.symm
      rw [HG.out] at HS1 HS2 HS3 HS4 HS5
      clear HG HDL hc hd1 hel HB2
      obtain ⟨A2, n2, c2, hv, HN2, hc2, -⟩ := (IsFd.own hown).split
      have hn2 : n2 ≤ 100 := by have := HN2.out; omega
      subst hv
      generalize hrd : readD p.1 = rd at *
      obtain ⟨m, hml⟩ : ∃ m, Hid (p.1.length = m) := ⟨_, rfl⟩
      rw [hml.out] at hd2 HD1 HS1 HS2 HS3 HS4 HS5 HE hline hR
      have u0 : ((a + m : Nat) : Int) = (a : Int) + (m : Int) := by omega
      rw [u0] at hline
      have u1 : ((a : Int) + (m : Int) < 0) = False := eq_false (by omega)
      have u2 : IntKind.i64.wrap ((a : Int) + (m : Int) + 2) = (a : Int) + (m : Int) + 2 := IntWalk.i64_in _ (by omega)
      have u3 : (a : Int) ≤ (a : Int) + (m : Int) := by omega
      have u4 : (a : Int) + (m : Int) ≤ (s.size : Int) := by omega
      have u5 : ((a : Int) + (m : Int)).toNat = a + m := by omega
      have u6 : (0 : Int) ≤ (a : Int) + (m : Int) := by omega
      clear u0
      by_cases h1 : 65536 < a + m + 2
      · have HF : Hid (D = ([], 0, 4)) := HS1.out h1
        have h1' : ((65536 : Int) < (a : Int) + (m : Int) + 2) = True := eq_true (by omega)
        clear HS1 HS2 HS3 HS4 HS5 hrd HD1 HE hR h1
        go_wp2_with (go_at_call 54; with_reducible refine (hline _).mono ?_; rintro e w1 ⟨rfl, rfl⟩)
        exact bodyPost_ret (v := .tuple #[.slice none 0 0, .int .i64 0, .int .i64 4]) (by simp [results, Tryd.results33, go_sem]) rfl ⟨.slice none 0 0, by rw [HF.out]; rfl, by rw [HF.out]; exact World.ownsRow_nil _ _ _ _, hbel⟩
      · have h1' : ((65536 : Int) < (a : Int) + (m : Int) + 2) = False := eq_false (by omega)
        by_cases h2 : p.1 = []
        · have HF : Hid (D = (acc, a + m + 2, 0)) := HS2.out h1 h2
          have h2' : m = 0 := HE.out.1 h2
          have b2 : ((a : Int) + (m : Int) == (a : Int)) = true := beqi_t (by omega)
          have s2 : IntKind.i64.wrap ((a : Int) + 2) = (a : Int) + 2 := IntWalk.i64_in _ (by omega)
          have e2 : ((a + m + 2 : Nat) : Int) = (a : Int) + 2 := by omega
          have HE2 := Lib.hid e2
          clear HS1 HS2 HS3 HS4 HS5 hrd HD1 HE hR h2 h2' h1 e2
          go_wp2_with (go_at_call 54; with_reducible refine (hline _).mono ?_; rintro e w1 ⟨rfl, rfl⟩)
          exact bodyPost_ret (v := .tuple #[.slice A2 n2 c2, .int .i64 ((a : Int) + 2), .int .i64 0]) (by simp [results, Tryd.results33, go_sem]) rfl ⟨.slice A2 n2 c2, by rw [HF.out]; show _ = Ending.returned (.tuple #[_, .int .i64 ((a + m + 2 : Nat) : Int), _]); rw [HE2.out], by rw [HF.out]; exact hown, hbel⟩
        · have h2' : m ≠ 0 := fun e => h2 (HE.out.2 e)
          have b2 : ((a : Int) + (m : Int) == (a : Int)) = false := beqi_f (by omega)
          by_cases h3 : n2 = 100
          · have HF : Hid (D = ([], 0, 4)) := HS3.out h1 h2 (by rw [HN2.out]; exact h3)
            subst h3
            clear HS1 HS2 HS3 HS4 HS5 hrd HD1 HE hR h2 h2' h1
            go_wp2_with (go_at_call 54; with_reducible refine (hline _).mono ?_; rintro e w1 ⟨rfl, rfl⟩)
            exact bodyPost_ret (v := .tuple #[.slice none 0 0, .int .i64 0, .int .i64 4]) (by simp [results, Tryd.results33, go_sem]) rfl ⟨.slice none 0 0, by rw [HF.out]; rfl, by rw [HF.out]; exact World.ownsRow_nil _ _ _ _, hbel⟩
          · have b3 : ((n2 : Int) == 100) = false := beqi_f (by omega)
            have h3' : acc.length ≠ 100 := by rw [HN2.out]; exact h3
            cases rd with
            | none =>
              have HF : Hid (D = ([], 0, 2)) := HS4.out h1 h2 h3' rfl
              have hS : (Option.none : Option Fd).isSome = false := rfl
              rw [hS] at hR
              clear HS1 HS2 HS3 HS4 HS5 hrd HD1 h2 h2' h1 HE hS
              go_wp2_with (first
                | (go_at_call 54; with_reducible refine (hline _).mono ?_; rintro e w1 ⟨rfl, rfl⟩)
                | (go_at_call 55; with_reducible refine (hR _).mono ?_; rintro e w2 ⟨x, y, rfl, -, hb2⟩; have B2 := hbel.trans (hb2.mono hwz); clear hb2))
              exact bodyPost_ret (v := .tuple #[.slice none 0 0, .int .i64 0, .int .i64 2]) (by simp [results, Tryd.results33, go_sem]) rfl ⟨.slice none 0 0, by rw [HF.out]; rfl, by rw [HF.out]; exact World.ownsRow_nil _ _ _ _, B2.alloc B2.size _⟩
            | some f =>
              have HK : Hid (goL big (a + m + 2) (acc ++ [f]) (s.data.toList.drop (a + m + 2)) = D) := by
                unfold Hid; rw [HD1.out]; exact (HS5.out h1 h2 h3' f rfl).symm
              have hS : (some f).isSome = true := rfl
              rw [hS] at hR
              clear HS1 HS2 HS3 HS4 HS5 hrd HD1 h2 h2' h1 HE hS
              obtain ⟨x, y⟩ := f
              have hR2 : ∀ W, Calls Tryd.prog 55 #[.string (s.extract a (a + m))] W fun e w' => e = .returned (.tuple #[.agg #[.string x, .string y], .bool true]) ∧ Below W.heap.size W w' := fun W => (hR W).mono fun e w' ⟨x', y', he, hf, hb⟩ => ⟨by have := hf _ rfl; injection this with t1 t2; rw [he, t1, t2], hb⟩
              clear hR
              go_wp2_with (first
                | (go_at_call 54; with_reducible refine (hline _).mono ?_; rintro e w1 ⟨rfl, rfl⟩)
                | (go_at_call 55; with_reducible refine (hR2 _).mono ?_; rintro e w2 ⟨rfl, hb2⟩; have B2 := hbel.trans (hb2.mono hwz); have own2 := Below.ownF hown hb2; have B3 : Below w.heap.size w (w2.alloc (.cells #[.string x, .string y] 43)) := B2.alloc B2.size _; have own3 : OwnF (w2.alloc (.cells #[.string x, .string y] 43)) w.heap.size _ acc := own2.alloc _; clear hb2 hown; have tok : True := trivial)
                | (at_builtin; have _t := tok; refine app_fd_at (w2.alloc (.cells #[.string x, .string y] 43)) (w2.heap.size + 1) (by simp) (by rfl) _ _ (by rfl) w.heap.size _ acc x y (by rfl) own3 (by rfl) (by omega) B3.size ?_; intro v6 w6 hown6 hgrow; have B6 : Below w.heap.size w w6 := below_app B3 B3.size own3 hgrow; clear hgrow own3 tok))
              go_roundw
              case rel => exact ⟨a + m + 2, acc ++ [(x, y)], by go_num, hd2, by rw [List.length_append, HN2.out, List.length_singleton]; omega, hown6, HK, B6⟩
              case measure => simp [intOf]; omega
end Go.Proofs.YtmlbinbhicdljaaDoor
