/-
  What a text is read as, by the program: Parse.
-/
import Derived.Test.YtmlbinbhicdljaaDoorGP
namespace Go.Proofs.YtmlbinbhicdljaaDoor
open Go Go.RowKit

/-- no text is greater than texts can be, of a list that is read -/
theorem readD_size {s : List UInt8} {f : Fd} (h : readD s = some f) : f.1.size + f.2.size ≤ s.length := by
  unfold readD at h
  cases hc : cut58 s with
  | none => rw [hc] at h; cases h
  | some p =>
    rw [hc] at h
    simp only at h
    split at h
    · obtain rfl := Option.some.inj h
      have e := congrArg List.length (cut58_eq s p hc)
      simp only [List.length_append, List.length_cons] at e
      have h1 := trimS_len p.2 [32, 9]
      show (⟨p.1.toArray⟩ : ByteArray).size + (⟨(Lib.trimS p.2 [32, 9]).toArray⟩ : ByteArray).size ≤ _
      rw [ba_size, ba_size]; omega
    · cases h
abbrev parseV (v : Value) (s : List UInt8) : Value := .tuple #[v, .int .i64 (parseD s).2.1, .int .i64 (parseD s).2.2]

set_option maxHeartbeats 8000000 in
set_option maxRecDepth 20000 in
theorem parse_any (s : ByteArray) (w : World) (hs : s.size ≤ 1000000) (hm : MxAt w) :
    Calls Tryd.prog 32 #[.string s] w fun e w' => ∃ v, e = .returned (parseV v s.data.toList) ∧ OwnF w' w.heap.size v (parseD s.data.toList).1 ∧ Below w.heap.size w w' := by
  have hU := fun W => unended_any s W hs
  obtain ⟨D, HD⟩ : ∃ D, Hid (parseD s.data.toList = D) := ⟨_, rfl⟩
  have HG0 : Hid (goL (decide (65536 < s.size)) 0 [] (s.data.toList.drop 0) = D) := by unfold Hid; rw [← HD.out, List.drop_zero]; unfold parseD; rw [Lib.size_eq]
  unfold parseV
  rw [HD.out]
  clear HD
  generalize decide (65536 < s.size) = big at *
  go_enter Tryd.func32, Tryd.ntmps32
  go_wp2
  go_loopw [5, 6] (fun vl ve wr => ∃ (a : Nat) (acc : List Fd), ve = .int .i64 a ∧ a ≤ s.size ∧ acc.length ≤ 100 ∧ OwnF wr w.heap.size vl acc ∧ Hid (goL big a acc (s.data.toList.drop a) = D) ∧ Below w.heap.size w wr) (fun _ ve _ => s.size - (intOf ve).toNat)
  case atStart => exact ⟨0, [], rfl, Nat.zero_le _, by simp, World.ownsRow_nil _ _ _ _, HG0, Below.refl _ _⟩
  case round =>
    clear HG0
    obtain ⟨a, acc, rfl, ha, hal, hown, HG, hbel⟩ := hrel
    have hwz := hbel.size
    have hcut := cutLine_any (s.extract a s.size) wr (by rw [ByteArray.size_extract]; omega) (hm.ext hbel (Nat.le_refl _))
    rw [ba_drop] at hcut
    have HDL := Lib.hid (fun p => drop_line (S := s.data.toList) (a := a) (p := p))
    have d0 : (0 : Int) ≤ (a : Int) := by omega
    have d1 : (a : Int) ≤ (s.size : Int) := by omega
    cases hc : cutLine (s.data.toList.drop a) with
    | none =>
      rw [hc] at hcut
      have HF : Hid (D = ([], 0, if big then 4 else 3)) := by unfold Hid; rw [← HG.out, goL_none hc]
      clear HG HDL hc hm
      generalize (if big = true then (4 : Int) else 3) = E at *
      go_wp2_with (first
        | (go_at_call 51; with_reducible refine hcut.mono ?_; rintro e w1 ⟨rfl, hb1⟩; have B1 := hbel.trans (hb1.mono hwz); clear hb1)
        | (go_at_call 52; with_reducible refine (hU _).mono ?_; rintro e w2 ⟨rfl, rfl⟩))
      exact bodyPost_ret (v := .tuple #[.slice none 0 0, .int .i64 0, .int .i64 E]) (by simp [results, Tryd.results32, go_sem]) rfl ⟨.slice none 0 0, by rw [HF.out]; rfl, by rw [HF.out]; exact World.ownsRow_nil _ _ _ _, B1⟩
    | some p =>
      rw [hc] at hcut
      obtain ⟨hd1, hd2⟩ := HDL.out p hc
      rw [← Lib.size_eq] at hd2
      have HD1 := Lib.hid hd1
      have hpz : (⟨p.1.toArray⟩ : ByteArray).size = p.1.length := ba_size _
      have hem : (⟨p.1.toArray⟩ : ByteArray).toList.isEmpty = decide (p.1 = []) := ba_empty _
      have hR := fun W hW => readLine_any ⟨p.1.toArray⟩ W (by rw [hpz]; omega) hW
      rw [ba_list] at hR
      have HS1 := Lib.hid (fun (h1 : 65536 < a + p.1.length + 2) => goL_long (big := big) (acc := acc) hc h1)
      have HS2 := Lib.hid (fun (h1 : ¬ 65536 < a + p.1.length + 2) (h2 : p.1 = []) => goL_end (big := big) (acc := acc) hc h1 h2)
      have HS3 := Lib.hid (fun (h1 : ¬ 65536 < a + p.1.length + 2) (h2 : p.1 ≠ []) (h3 : acc.length = 100) => goL_many (big := big) (acc := acc) hc h1 h2 h3)
      have HS4 := Lib.hid (fun (h1 : ¬ 65536 < a + p.1.length + 2) (h2 : p.1 ≠ []) (h3 : acc.length ≠ 100) (h4 : readD p.1 = none) => goL_bad (big := big) (acc := acc) hc h1 h2 h3 h4)
      have HS5 := Lib.hid (fun (h1 : ¬ 65536 < a + p.1.length + 2) (h2 : p.1 ≠ []) (h3 : acc.length ≠ 100) (f : Fd) (h4 : readD p.1 = some f) => goL_go (big := big) (acc := acc) hc h1 h2 h3 h4)
      rw [HG.out] at HS1 HS2 HS3 HS4 HS5
      have hlv : lineV (s.extract a s.size) (some p) = .tuple #[.string ⟨p.1.toArray⟩, .string ⟨p.2.toArray⟩, .bool true] := rfl
      rw [hlv] at hcut
      clear HG HDL hc hd1 hlv
      obtain ⟨A2, n2, c2, hv, HN2, hc2, -⟩ := (IsFd.own hown).split
      have hn2 : n2 ≤ 100 := by have := HN2.out; omega
      subst hv
      generalize hrd : readD p.1 = rd at *
      generalize hp1 : (⟨p.1.toArray⟩ : ByteArray) = P1 at *
      generalize (⟨p.2.toArray⟩ : ByteArray) = P2 at *
      obtain ⟨m, hml⟩ : ∃ m, Hid (p.1.length = m) := ⟨_, rfl⟩
      rw [hml.out] at hpz hd2 HD1 HS1 HS2 HS3 HS4 HS5
      by_cases h1 : 65536 < a + m + 2
      · have HF : Hid (D = ([], 0, 4)) := HS1.out h1
        clear HS1 HS2 HS3 HS4 HS5 hrd hp1 HD1 hem hR hm
        have h1' : (65536 : Int) < (a : Int) + ((m : Int) + 2) := by omega
        clear h1
        go_wp2_with (go_at_call 51; with_reducible refine hcut.mono ?_; rintro e w1 ⟨rfl, hb1⟩; have B1 := hbel.trans (hb1.mono hwz); clear hb1)
        exact bodyPost_ret (v := .tuple #[.slice none 0 0, .int .i64 0, .int .i64 4]) (by simp [results, Tryd.results32, go_sem]) rfl ⟨.slice none 0 0, by rw [HF.out]; rfl, by rw [HF.out]; exact World.ownsRow_nil _ _ _ _, B1⟩
      · by_cases h2 : p.1 = []
        · have HF : Hid (D = (acc, a + m + 2, 0)) := HS2.out h1 h2
          rw [decide_eq_true h2] at hem
          clear HS1 HS2 HS3 HS4 HS5 hrd hp1 HD1 hR hm h2
          have h1' : ((65536 : Int) < (a : Int) + ((m : Int) + 2)) = False := eq_false (by omega)
          clear h1
          go_wp2_with (go_at_call 51; with_reducible refine hcut.mono ?_; rintro e w1 ⟨rfl, hb1⟩; have B1 := hbel.trans (hb1.mono hwz); have own1 := Below.ownF hown hb1; clear hb1)
          exact bodyPost_ret (v := .tuple #[.slice A2 n2 c2, .int .i64 ((a : Int) + ((m : Int) + 2)), .int .i64 0]) (by simp [results, Tryd.results32, go_sem]) rfl ⟨.slice A2 n2 c2, by rw [HF.out]; show _ = Ending.returned (.tuple #[_, .int .i64 ((a + m + 2 : Nat) : Int), _]); rw [show ((a + m + 2 : Nat) : Int) = (a : Int) + ((m : Int) + 2) by omega], by rw [HF.out]; exact own1, B1⟩
        · rw [decide_eq_false h2] at hem
          by_cases h3 : n2 = 100
          · have HF : Hid (D = ([], 0, 4)) := HS3.out h1 h2 (by rw [HN2.out]; exact h3)
            subst h3
            clear HS1 HS2 HS3 HS4 HS5 hrd hp1 HD1 hR hm h2
            have h1' : ((65536 : Int) < (a : Int) + ((m : Int) + 2)) = False := eq_false (by omega)
            clear h1
            go_wp2_with (go_at_call 51; with_reducible refine hcut.mono ?_; rintro e w1 ⟨rfl, hb1⟩; have B1 := hbel.trans (hb1.mono hwz); clear hb1)
            exact bodyPost_ret (v := .tuple #[.slice none 0 0, .int .i64 0, .int .i64 4]) (by simp [results, Tryd.results32, go_sem]) rfl ⟨.slice none 0 0, by rw [HF.out]; rfl, by rw [HF.out]; exact World.ownsRow_nil _ _ _ _, B1⟩
          · have b3 : ((n2 : Int) == 100) = false := beqi_f (by omega)
            have h3' : acc.length ≠ 100 := by rw [HN2.out]; exact h3
            cases rd with
            | none =>
              have HF : Hid (D = ([], 0, 2)) := HS4.out h1 h2 h3' rfl
              clear HS1 HS2 HS3 HS4 HS5 hrd hp1 HD1 h2
              have h1' : ((65536 : Int) < (a : Int) + ((m : Int) + 2)) = False := eq_false (by omega)
              clear h1
              go_wp2_with (first
                | (go_at_call 51; with_reducible refine hcut.mono ?_; rintro e w1 ⟨rfl, hb1⟩; have B1 := hbel.trans (hb1.mono hwz); have hm1 := hm.ext B1 (Nat.le_refl _); clear hb1)
                | (go_at_call 53; with_reducible refine (hR _ hm1).mono ?_; rintro e w2 ⟨rfl, hb2⟩; have B2 := B1.trans (hb2.mono B1.size); clear hb2))
              exact bodyPost_ret (v := .tuple #[.slice none 0 0, .int .i64 0, .int .i64 2]) (by simp [results, Tryd.results32, go_sem]) rfl ⟨.slice none 0 0, by rw [HF.out]; rfl, by rw [HF.out]; exact World.ownsRow_nil _ _ _ _, B2.alloc B2.size _⟩
            | some f =>
              have HK : Hid (goL big (a + m + 2) (acc ++ [f]) (s.data.toList.drop (a + m + 2)) = D) := by
                unfold Hid; rw [HD1.out]; exact (HS5.out h1 h2 h3' f rfl).symm
              obtain ⟨x, y⟩ := f
              have hrv : readV (some (x, y)) = .tuple #[.agg #[.string x, .string y], .bool true] := rfl
              rw [hrv] at hR
              clear HS1 HS2 HS3 HS4 HS5 hrd hp1 HD1 h2 hrv
              have h1' : ((65536 : Int) < (a : Int) + ((m : Int) + 2)) = False := eq_false (by omega)
              clear h1
              go_wp2_with (first
                | (go_at_call 51; with_reducible refine hcut.mono ?_; rintro e w1 ⟨rfl, hb1⟩; have B1 := hbel.trans (hb1.mono hwz); have hm1 := hm.ext B1 (Nat.le_refl _); have own1 := Below.ownF hown hb1; clear hb1 hown)
                | (go_at_call 53; with_reducible refine (hR _ hm1).mono ?_; rintro e w2 ⟨rfl, hb2⟩; have B2 := B1.trans (hb2.mono B1.size); have own2 := Below.ownF own1 hb2; have B3 : Below w.heap.size w (w2.alloc (.cells #[.string x, .string y] 43)) := B2.alloc B2.size _; have own3 : OwnF (w2.alloc (.cells #[.string x, .string y] 43)) w.heap.size _ acc := own2.alloc _; clear hb2 own1; have tok : True := trivial)
                | (at_builtin; have _t := tok; refine app_fd_at (w2.alloc (.cells #[.string x, .string y] 43)) (w2.heap.size + 1) (by simp) (by rfl) _ _ (by rfl) w.heap.size _ acc x y (by rfl) own3 (by rfl) (by omega) B3.size ?_; intro v6 w6 hown6 hgrow; have B6 : Below w.heap.size w w6 := below_app B3 B3.size own3 hgrow; clear hgrow own3 tok))
              go_roundw
              case rel => exact ⟨a + m + 2, acc ++ [(x, y)], rfl, hd2, by rw [List.length_append, HN2.out, List.length_singleton]; omega, hown6, HK, B6⟩
              case measure => simp [intOf]; omega
end Go.Proofs.YtmlbinbhicdljaaDoor
