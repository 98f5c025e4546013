/-
  What a text is read as, by the program.
-/
import Derived.Lib.QuietBelow
import Derived.Test.YtmlbinbhicdljaaDoorGM
import Derived.Test.YtmlbinbhicdljaaDoorED
namespace Go.Proofs.YtmlbinbhicdljaaDoor
open Go Go.RowKit

/-- the library's variable that strings.Cut reads is some number -/
def MxAt (w : World) : Prop := ∃ m, w.cell? ⟨0, 0, Option.none⟩ = some (.int .i64 m) ∧ 0 < w.heap.size
theorem MxAt.ext {w W : World} {B : Nat} (h : MxAt w) (e : Below B w W) (hB : w.heap.size ≤ B) : MxAt W := by
  obtain ⟨m, h1, h2⟩ := h
  exact ⟨m, by rw [e.cell (p := ⟨0, 0, Option.none⟩) (Nat.lt_of_lt_of_le h2 hB)]; exact h1, Nat.lt_of_lt_of_le h2 e.size⟩

abbrev lineV (s : ByteArray) : Option (List UInt8 × List UInt8) → Value
  | none => .tuple #[.string s, .string ⟨#[]⟩, .bool false]
  | some p => .tuple #[.string ⟨p.1.toArray⟩, .string ⟨p.2.toArray⟩, .bool true]
theorem cutLine_any (s : ByteArray) (w : World) (hs : s.size ≤ 1000000) (hm : MxAt w) :
    Calls Tryd.prog 51 #[.string s, .string ⟨#[13, 10]⟩] w fun e w' => e = .returned (lineV s (cutLine s.data.toList)) ∧ Below w.heap.size w w' := by
  obtain ⟨m, hm, _⟩ := hm
  refine (Tryd.strings_Cut s ⟨#[13, 10]⟩ m w (by omega) hm).mono fun e w' ⟨he, n, hw⟩ => ⟨?_, by rw [hw]; exact below_drewN (Below.refl _ _) n⟩
  rw [he]
  have h := cut_line s.data.toList
  have e2 : (⟨#[13, 10]⟩ : ByteArray).data.toList = [13, 10] := rfl
  rw [e2, h]
  cases cutLine s.data.toList with
  | none => show Ending.returned (.tuple #[.string ⟨s.data.toList.toArray⟩, _, _]) = _; rw [ba_eta]
  | some p => rfl
theorem cut58_any (s : ByteArray) (w : World) (hs : s.size ≤ 1000000) (hm : MxAt w) :
    Calls Tryd.prog 51 #[.string s, .string ⟨#[58]⟩] w fun e w' => e = .returned (lineV s (cut58 s.data.toList)) ∧ Below w.heap.size w w' := by
  obtain ⟨m, hm, _⟩ := hm
  refine (Tryd.strings_Cut s ⟨#[58]⟩ m w (by omega) hm).mono fun e w' ⟨he, n, hw⟩ => ⟨?_, by rw [hw]; exact below_drewN (Below.refl _ _) n⟩
  rw [he]
  have h := cut_58 s.data.toList
  have e2 : (⟨#[58]⟩ : ByteArray).data.toList = [58] := rfl
  rw [e2, h]
  cases cut58 s.data.toList with
  | none => show Ending.returned (.tuple #[.string ⟨s.data.toList.toArray⟩, _, _]) = _; rw [ba_eta]
  | some p => rfl

set_option maxHeartbeats 1000000 in
theorem unended_any (s : ByteArray) (w : World) (hs : s.size ≤ 1000000) :
    Calls Tryd.prog 52 #[.string s] w fun e w' => e = .returned (.int .i64 (if decide (65536 < s.size) = true then 4 else 3)) ∧ w' = w := by
  by_cases h : 65536 < s.size
  · rw [if_pos (by simpa using h)]
    go_enter Tryd.func52, Tryd.ntmps52
    go_wp2
    go_ret
    exact ⟨rfl, rfl⟩
  · rw [if_neg (by simpa using h)]
    go_enter Tryd.func52, Tryd.ntmps52
    go_wp2
    go_ret
    exact ⟨rfl, rfl⟩

abbrev readV : Option Fd → Value
  | none => .tuple #[.agg #[.string ⟨#[]⟩, .string ⟨#[]⟩], .bool false]
  | some f => .tuple #[.agg #[.string f.1, .string f.2], .bool true]
/-- two blocks of fields, and what came behind -/
theorem two_cells {w w1 W : World} {s t x y : ByteArray} (h0 : Below (w.alloc (.cells #[.string s, .string t] 43)).heap.size (w.alloc (.cells #[.string s, .string t] 43)) w1) (h : Below (w1.alloc (.cells #[.string x, .string y] 43)).heap.size (w1.alloc (.cells #[.string x, .string y] 43)) W) :
    W.cell? ⟨w.heap.size, 0, none⟩ = some (.string s) ∧ W.cell? ⟨w.heap.size, 1, none⟩ = some (.string t) ∧ W.frozen? ⟨w.heap.size, 0, none⟩ = false ∧ W.frozen? ⟨w.heap.size, 1, none⟩ = false ∧
    W.cell? ⟨w1.heap.size, 0, none⟩ = some (.string x) ∧ W.cell? ⟨w1.heap.size, 1, none⟩ = some (.string y) ∧ w.heap.size < w1.heap.size ∧ w1.heap.size < W.heap.size ∧ w.heap.size < W.heap.size ∧ Ext w W := by
  obtain ⟨c0, c1, c2, c3, c4, c5⟩ := one_cells h
  have h01 : Below (w.alloc (.cells #[.string s, .string t] 43)).heap.size (w.alloc (.cells #[.string s, .string t] 43)) W := h0.trans ((((Below.refl _ _).alloc (Nat.le_refl _) _).trans (h.mono (by simp))).mono h0.size)
  obtain ⟨d0, d1, d2, d3, d4, d5⟩ := one_cells h01
  have := h0.size
  simp only [World.size_alloc] at this
  exact ⟨d0, d1, d2, d3, c0, c1, by omega, c4, d4, d5⟩

set_option maxHeartbeats 8000000 in
set_option maxRecDepth 20000 in
theorem readLine_any (s : ByteArray) (w : World) (hs : s.size ≤ 1000000) (hm : MxAt w) :
    Calls Tryd.prog 53 #[.string s] w fun e w' => e = .returned (readV (readD s.data.toList)) ∧ Below w.heap.size w w' := by
  have hm1 : MxAt (w.alloc (.cells #[.string ⟨#[]⟩, .string ⟨#[]⟩] 43)) := hm.ext ((Below.refl _ _).alloc (Nat.le_refl _) _) (Nat.le_refl _)
  have hcut := cut58_any s _ hs hm1
  have hb0 : Ext w (w.alloc (.cells #[.string ⟨#[]⟩, .string ⟨#[]⟩] 43)) := (Below.refl _ _).alloc (Nat.le_refl _) _
  have HD : Hid (readD s.data.toList = match cut58 s.data.toList with
    | none => none
    | some p => if rightD (fieldOf p) = true then some (fieldOf p) else none) := rfl
  have HL := Lib.hid (cut58_eq s.data.toList)
  generalize readD s.data.toList = D at *
  cases hc : cut58 s.data.toList with
  | none =>
    rw [hc] at hcut HD
    obtain rfl := HD.out
    clear HD HL hc hm hm1
    have htr := fun W => trimx_any ⟨#[]⟩ W (by decide)
    have e0 : (⟨(Lib.trimS (⟨#[]⟩ : ByteArray).data.toList [32, 9]).toArray⟩ : ByteArray) = ⟨#[]⟩ := by kernel_rfl
    rw [e0] at htr
    clear e0
    go_enter Tryd.func53, Tryd.ntmps53
    go_wp2_with (first
      | (go_at_call 51; with_reducible refine hcut.mono ?_; rintro e w1 ⟨rfl, hb1⟩)
      | (go_at_call 42; with_reducible refine (htr _).mono ?_; rintro e w2 ⟨rfl, hb2⟩; have b2 := hb1.trans (hb2.mono hb1.size); obtain ⟨k0, k1, f0, f1, l3, E2⟩ := one_cells b2))
    have q0 : (((w2.setCell ⟨w.heap.size, 0, Option.none⟩ (.string ⟨#[]⟩)).setCell ⟨w.heap.size, 1, Option.none⟩ (.string ⟨#[]⟩)).alloc (.cells #[.string s, .string ⟨#[]⟩] 43)).cell? ⟨w.heap.size, 0, Option.none⟩ = some (.string ⟨#[]⟩) := by go_simp
    have q1 : (((w2.setCell ⟨w.heap.size, 0, Option.none⟩ (.string ⟨#[]⟩)).setCell ⟨w.heap.size, 1, Option.none⟩ (.string ⟨#[]⟩)).alloc (.cells #[.string s, .string ⟨#[]⟩] 43)).cell? ⟨w.heap.size, 1, Option.none⟩ = some (.string ⟨#[]⟩) := by go_simp
    exact bodyPost_ret (v := readV none) (by simp [results, Tryd.results53, go_sem, q0, q1]) rfl ⟨rfl, by go_grown⟩
  | some p =>
    rw [hc] at hcut HD
    have hl := HL.out p hc
    have hlen := congrArg List.length hl
    simp only [List.length_append, List.length_cons, ← Lib.size_eq] at hlen
    have htr := fun W => trimx_any ⟨p.2.toArray⟩ W (by rw [ba_size]; unfold szM; omega)
    have hpz : (⟨p.1.toArray⟩ : ByteArray).size ≤ szM := by rw [ba_size]; unfold szM; omega
    have htz : (⟨(Lib.trimS p.2 [32, 9]).toArray⟩ : ByteArray).size ≤ szM := by rw [ba_size]; have := trimS_len p.2 [32, 9]; unfold szM; omega
    have hR := fun W => right_any ⟨p.1.toArray⟩ ⟨(Lib.trimS p.2 [32, 9]).toArray⟩ W hpz htz
    have hN := fun W => newField_any ⟨p.1.toArray⟩ ⟨(Lib.trimS p.2 [32, 9]).toArray⟩ W hpz htz
    have HQ : Hid (rightD (fieldOf p) = rightD (⟨p.1.toArray⟩, ⟨(Lib.trimS p.2 [32, 9]).toArray⟩)) := rfl
    have HQ2 : Hid (fieldOf p = (⟨p.1.toArray⟩, ⟨(Lib.trimS p.2 [32, 9]).toArray⟩)) := rfl
    have hlv : lineV s (some p) = .tuple #[.string ⟨p.1.toArray⟩, .string ⟨p.2.toArray⟩, .bool true] := rfl
    rw [hlv] at hcut
    simp only at htr
    clear hl hlen hc HL hlv hm hm1
    generalize (⟨(Lib.trimS p.2 [32, 9]).toArray⟩ : ByteArray) = T at *
    generalize (⟨p.1.toArray⟩ : ByteArray) = P1 at *
    generalize (⟨p.2.toArray⟩ : ByteArray) = P2 at *
    cases hq : rightD (P1, T) with
    | false =>
      have HF : Hid (D = none) := by unfold Hid; rw [HD.out]; simp only; rw [HQ.out, hq, if_neg Bool.false_ne_true]
      obtain rfl := HF.out
      rw [hq] at hR
      clear HD HQ HQ2 hq HF
      go_enter Tryd.func53, Tryd.ntmps53
      go_wp2_with (first
        | (go_at_call 51; with_reducible refine hcut.mono ?_; rintro e w1 ⟨rfl, hb1⟩)
        | (go_at_call 42; with_reducible refine (htr _).mono ?_; rintro e w2 ⟨rfl, hb2⟩; have b2 := hb1.trans (hb2.mono hb1.size))
        | (go_at_call 28; with_reducible refine (hR _).mono ?_; rintro e w3 ⟨rfl, hb3⟩; have t2 := two_cells b2 hb3; obtain ⟨k0, k1, f0, f1, m0, m1, l1, l2, l3, E2⟩ := t2))
      exact bodyPost_ret (v := readV none) (by simp [results, Tryd.results53, go_sem, k0, k1]) rfl ⟨rfl, by go_grown⟩
    | true =>
      have HF : Hid (D = some (P1, T)) := by unfold Hid; rw [HD.out]; simp only; rw [HQ.out, hq, if_pos rfl, HQ2.out]
      obtain rfl := HF.out
      rw [hq] at hR
      clear HD HQ HQ2 hq HF
      go_enter Tryd.func53, Tryd.ntmps53
      go_wp2_with (first
        | (go_at_call 51; with_reducible refine hcut.mono ?_; rintro e w1 ⟨rfl, hb1⟩)
        | (go_at_call 42; with_reducible refine (htr _).mono ?_; rintro e w2 ⟨rfl, hb2⟩; have b2 := hb1.trans (hb2.mono hb1.size))
        | (go_at_call 28; with_reducible refine (hR _).mono ?_; rintro e w3 ⟨rfl, hb3⟩; have t2 := two_cells b2 hb3; obtain ⟨k0, k1, f0, f1, m0, m1, l1, l2, l3, E2⟩ := t2)
        | (go_at_call 38; with_reducible refine (hN _).mono ?_; rintro e w4 ⟨rfl, hb4⟩; have t4 := two_cells b2 (hb3.trans (hb4.mono hb3.size)); clear k0 k1 f0 f1 l3 E2; obtain ⟨k0, k1, f0, f1, -, -, -, -, l3, E2⟩ := t4))
      exact bodyPost_ret (v := readV (some (P1, T))) (by simp [results, Tryd.results53, go_sem, k0, k1]) rfl ⟨rfl, by go_grown⟩
end Go.Proofs.YtmlbinbhicdljaaDoor
