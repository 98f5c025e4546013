/-
  The reference's Parse by a contract.
-/
import Derived.Lib.Hide
import Derived.Lib.QuietBelow
import Derived.Test.YthbjhpfgfpkppaaGreatDoorRef01E
import Derived.Test.YthbjhpfgfpkppaaGreatDoorRef01F
import Derived.Test.YthbjhpfgfpkppaaGreatDoorParseNo
namespace Go.Proofs.YthbjhpfgfpkppaaGreatDoor
open Go Go.RowKit Go.Sort

/-- how many bytes stand ahead of the first dash -/
def dashAt (l : List UInt8) : Nat := (l.takeWhile fun c => !(c == 45)).length
def refT (t : List UInt8) : Int := if t = [] then 4611686018427387904 else numL t
def refP (l : List UInt8) : Option (Int × Int) :=
  if dashAt l < l.length then
    if rtB (numL (l.take (dashAt l))) (refT (l.drop (dashAt l + 1))) = true ∧ textL (numL (l.take (dashAt l))) (refT (l.drop (dashAt l + 1))) = l then
      some (numL (l.take (dashAt l)), refT (l.drop (dashAt l + 1))) else none
  else none
def resP : Option (Int × Int) → Value
  | none => .tuple #[.agg #[.int .i64 0, .int .i64 0], .int .i64 2]
  | some (a, b) => .tuple #[.agg #[.int .i64 a, .int .i64 b], .int .i64 0]

theorem dashAt_le (l : List UInt8) : dashAt l ≤ l.length := by
  unfold dashAt
  exact (List.takeWhile_sublist _).length_le
theorem dashAt_step : ∀ (l : List UInt8) (k : Nat), k ≤ dashAt l → (h : k < l.length) → l[k] ≠ 45 → k + 1 ≤ dashAt l
  | [], k, _, h, _ => by simp at h
  | x :: l, 0, _, _, n => by
    simp only [List.getElem_cons_zero] at n
    simp [dashAt, n]
  | x :: l, k + 1, hk, h, n => by
    by_cases e : x = 45
    · subst e; simp [dashAt] at hk
    · have e' : (!(x == 45)) = true := by simpa using e
      simp only [dashAt, List.takeWhile_cons, e', if_true, List.length_cons] at hk ⊢
      simp only [List.getElem_cons_succ] at n
      have := dashAt_step l k (by unfold dashAt; omega) (by simpa using h) n
      unfold dashAt at this
      omega
theorem dashAt_stop : ∀ (l : List UInt8) (k : Nat), k ≤ dashAt l → (h : k < l.length) → l[k] = 45 → dashAt l = k
  | [], k, _, h, _ => by simp at h
  | x :: l, 0, _, _, n => by
    simp only [List.getElem_cons_zero] at n
    simp [dashAt, n]
  | x :: l, k + 1, hk, h, n => by
    by_cases e : x = 45
    · subst e; simp [dashAt] at hk
    · have e' : (!(x == 45)) = true := by simpa using e
      simp only [dashAt, List.takeWhile_cons, e', if_true, List.length_cons] at hk ⊢
      simp only [List.getElem_cons_succ] at n
      have := dashAt_stop l k (by unfold dashAt; omega) (by simpa using h) n
      unfold dashAt at this
      omega
theorem dashAt_dig : ∀ (d r : List UInt8), (∀ x ∈ d, isDig x) → dashAt (d ++ 45 :: r) = d.length
  | [], r, _ => by simp [dashAt]
  | x :: d, r, h => by
    have hx := h x (by simp)
    have ne : (!(x == 45)) = true := by
      have : x ≠ 45 := by intro e; subst e; unfold isDig at hx; simp at hx
      simpa using this
    have ih := dashAt_dig d r (fun y hy => h y (by simp [hy]))
    unfold dashAt at ih ⊢
    rw [List.cons_append, List.takeWhile_cons, ne, if_pos rfl, List.length_cons, ih, List.length_cons]
theorem refP_text {a b : Int} (h : rtB a b = true) : refP (textL a b) = some (a, b) := by
  have h0 := rtB_t h
  have e := textL_eq h
  have ed : dashAt (textL a b) = (Lib.itoa a).length := by rw [e]; exact dashAt_dig _ _ (itoa_dig h0.1)
  have et : (textL a b).take (dashAt (textL a b)) = Lib.itoa a := by rw [ed, e, List.take_left' rfl]
  have er : (textL a b).drop (dashAt (textL a b) + 1) = tailL a b := by
    rw [ed, e, ← List.drop_drop, List.drop_left' rfl]; rfl
  have eT : refT (tailL a b) = b := by
    unfold refT
    by_cases q : tailL a b = []
    · rw [if_pos q]; exact (opB_f ((tailL_nil h).1 q)).symm
    · rw [if_neg q]
      have : opB a b = false := by
        cases o : opB a b with
        | false => rfl
        | true => exact absurd ((tailL_nil h).2 o) q
      unfold tailL
      rw [this, if_neg (by decide)]
      exact numL_itoa (by omega) h0.2.2
  have eF : numL (Lib.itoa a) = a := numL_itoa h0.1 (by omega)
  unfold refP
  rw [et, er, eT, eF, if_pos (by rw [ed, e]; simp), if_pos ⟨h, rfl⟩]
theorem refP_none {l : List UInt8} (h : ∀ a b, rtB a b = true → l ≠ textL a b) : refP l = none := by
  unfold refP
  split
  · split
    · rename_i q; exact absurd q.2.symm (h _ _ q.1)
    · rfl
  · rfl

set_option maxHeartbeats 1600000 in
theorem rparse_any (s : ByteArray) (w : World) (hs : s.size ≤ 1000000) :
    Calls Tryz.prog 28 #[.string s] w fun e w' => e = .returned (resP (refP s.data.toList)) ∧ Below w.heap.size w w' := by
  have hlen := size_toList s
  go_enter Tryz.func28, Tryz.ntmps28
  go_wp2_with fail
  go_loop [4] (fun i => ∃ k : Nat, k ≤ s.size ∧ i = .int .i64 k ∧ Hid (k ≤ dashAt s.data.toList)) (fun i => s.size - (intOf i).toNat)
  case atStart => exact ⟨0, Nat.zero_le _, rfl, Nat.zero_le _⟩
  case round =>
    obtain ⟨k, hk, rfl, HK⟩ := hrel
    by_cases hlt : k < s.size
    · by_cases hc : (s[k].toNat : Int) = 45
      · have HD : Hid (dashAt s.data.toList = k) := dashAt_stop _ k HK.out (by rw [hlen]; exact hlt) (by
          apply UInt8.toNat_inj.1
          have : (s.data.toList[k]'(by rw [hlen]; exact hlt)) = s[k] := rfl
          rw [this]; show s[k].toNat = 45; omega)
        have c1 : ((s[k].toNat : Int) == 45) = true := by simpa using hc
        have c2 : ((s[k].toNat : Int) != 45) = false := by simpa using hc
        clear hc HK hlen
        have hF := number_any (s.extract 0 k)
        have e1 : (s.extract 0 k).data.toList = s.data.toList.take k := by
          rw [ByteArray.data_extract]; simp
        rw [e1] at hF
        have hR : refP s.data.toList = if rtB (numL (s.data.toList.take k)) (refT (s.data.toList.drop (k + 1))) = true ∧ textL (numL (s.data.toList.take k)) (refT (s.data.toList.drop (k + 1))) = s.data.toList then some (numL (s.data.toList.take k), refT (s.data.toList.drop (k + 1))) else none := by
          unfold refP; rw [HD.out, if_pos (by rw [size_toList]; exact hlt)]
        have bF := numL_bd (s.data.toList.take k)
        generalize numL (s.data.toList.take k) = F at hF hR bF
        have HF : Hid (∀ w, Calls Tryz.prog 49 #[.string (s.extract 0 k)] w fun e w' => e = .returned (.int .i64 F) ∧ w' = w) := fun w => hF w (by simp [ByteArray.size_extract]; omega)
        clear hF e1
        by_cases hlast : k + 1 < s.size
        · have hG := number_any (s.extract (k + 1) s.size)
          have e2 : (s.extract (k + 1) s.size).data.toList = s.data.toList.drop (k + 1) := by
            rw [ByteArray.data_extract]; show (s.data.extract (k + 1) s.data.size).toList = _; simp; exact List.take_of_length_le (by rw [List.length_drop, size_toList]; omega)
          rw [e2] at hG
          rw [show refT (s.data.toList.drop (k + 1)) = numL (s.data.toList.drop (k + 1)) from by unfold refT; rw [if_neg (by intro q; have := congrArg List.length q; rw [List.length_drop, size_toList] at this; simp at this; omega)]] at hR
          have bG := numL_bd (s.data.toList.drop (k + 1))
          generalize numL (s.data.toList.drop (k + 1)) = G at hG hR bG
          have HG : Hid (∀ w, Calls Tryz.prog 49 #[.string (s.extract (k + 1) s.size)] w fun e w' => e = .returned (.int .i64 G) ∧ w' = w) := fun w => hG w (by simp [ByteArray.size_extract]; omega)
          have HR := Lib.hid hR
          clear hG e2 hR
          cases hr : rtB F G with
          | false =>
            have HP : Hid (resP (refP s.data.toList) = .tuple #[.agg #[.int .i64 0, .int .i64 0], .int .i64 2]) := by unfold Hid; rw [HR.out, if_neg (by rw [hr]; simp)]; rfl
            go_wp2_with fail
            with_reducible refine (HF.out _).mono ?_
            rintro e w9 ⟨rfl, rfl⟩
            go_wp2_with fail
            with_reducible refine (end_any _).mono ?_
            rintro e w9 ⟨rfl, rfl⟩
            go_wp2_with fail
            with_reducible refine (HG.out _).mono ?_
            rintro e w9 ⟨rfl, rfl⟩
            go_wp2_with fail
            with_reducible refine (rright_any F G _).mono ?_
            rintro e w1 ⟨rfl, hb1⟩
            have B1 := bel (w := w) (by go_grown) hb1
            have c3 : w1.cell? ⟨w.heap.size, 0, none⟩ = some (.int .i64 (0)) := by rw [hb1.cell (p := ⟨w.heap.size, 0, none⟩) (by simp only [World.size_alloc]; omega)]; simp [go_sem]
            have c4 : w1.cell? ⟨w.heap.size, 1, none⟩ = some (.int .i64 (0)) := by rw [hb1.cell (p := ⟨w.heap.size, 1, none⟩) (by simp only [World.size_alloc]; omega)]; simp [go_sem]
            have c5 : w1.cell? ⟨w.heap.size + 1, 0, none⟩ = some (.int .i64 (F)) := by rw [hb1.cell (p := ⟨w.heap.size + 1, 0, none⟩) (by simp only [World.size_alloc]; omega)]; simp [go_sem]
            have c6 : w1.cell? ⟨w.heap.size + 1, 1, none⟩ = some (.int .i64 (G)) := by rw [hb1.cell (p := ⟨w.heap.size + 1, 1, none⟩) (by simp only [World.size_alloc]; omega)]; simp [go_sem]
            have f0 : w1.frozen? ⟨w.heap.size, 0, none⟩ = false := by rw [hb1.frozen (p := ⟨w.heap.size, 0, none⟩) (by simp only [World.size_alloc]; omega)]; simp [go_sem]
            have f1 : w1.frozen? ⟨w.heap.size, 1, none⟩ = false := by rw [hb1.frozen (p := ⟨w.heap.size, 1, none⟩) (by simp only [World.size_alloc]; omega)]; simp [go_sem]
            have z1 : w.heap.size < w1.heap.size ∧ w.heap.size + 1 < w1.heap.size := by have := hb1.size; simp only [World.size_alloc] at this; omega
            clear hb1
            go_wp2_with fail
            exact bodyPost_ret (v := .tuple #[.agg #[.int .i64 0, .int .i64 0], .int .i64 2]) (by simp [results, Tryz.results28, go_sem, *]) rfl ⟨by rw [HP.out], by go_grown⟩
          | true =>
            by_cases hq : textL F G = s.data.toList
            · have HP : Hid (resP (refP s.data.toList) = .tuple #[.agg #[.int .i64 F, .int .i64 G], .int .i64 0]) := by unfold Hid; rw [HR.out, if_pos ⟨hr, hq⟩]; rfl
              have he : (textL F G == s.toList) = true := by rw [ByteArray.toList_eq, hq]; simp
              clear hq
              go_wp2_with fail
              with_reducible refine (HF.out _).mono ?_
              rintro e w9 ⟨rfl, rfl⟩
              go_wp2_with fail
              with_reducible refine (end_any _).mono ?_
              rintro e w9 ⟨rfl, rfl⟩
              go_wp2_with fail
              with_reducible refine (HG.out _).mono ?_
              rintro e w9 ⟨rfl, rfl⟩
              go_wp2_with fail
              with_reducible refine (rright_any F G _).mono ?_
              rintro e w1 ⟨rfl, hb1⟩
              have B1 := bel (w := w) (by go_grown) hb1
              have c3 : w1.cell? ⟨w.heap.size, 0, none⟩ = some (.int .i64 (0)) := by rw [hb1.cell (p := ⟨w.heap.size, 0, none⟩) (by simp only [World.size_alloc]; omega)]; simp [go_sem]
              have c4 : w1.cell? ⟨w.heap.size, 1, none⟩ = some (.int .i64 (0)) := by rw [hb1.cell (p := ⟨w.heap.size, 1, none⟩) (by simp only [World.size_alloc]; omega)]; simp [go_sem]
              have c5 : w1.cell? ⟨w.heap.size + 1, 0, none⟩ = some (.int .i64 (F)) := by rw [hb1.cell (p := ⟨w.heap.size + 1, 0, none⟩) (by simp only [World.size_alloc]; omega)]; simp [go_sem]
              have c6 : w1.cell? ⟨w.heap.size + 1, 1, none⟩ = some (.int .i64 (G)) := by rw [hb1.cell (p := ⟨w.heap.size + 1, 1, none⟩) (by simp only [World.size_alloc]; omega)]; simp [go_sem]
              have f0 : w1.frozen? ⟨w.heap.size, 0, none⟩ = false := by rw [hb1.frozen (p := ⟨w.heap.size, 0, none⟩) (by simp only [World.size_alloc]; omega)]; simp [go_sem]
              have f1 : w1.frozen? ⟨w.heap.size, 1, none⟩ = false := by rw [hb1.frozen (p := ⟨w.heap.size, 1, none⟩) (by simp only [World.size_alloc]; omega)]; simp [go_sem]
              have z1 : w.heap.size < w1.heap.size ∧ w.heap.size + 1 < w1.heap.size := by have := hb1.size; simp only [World.size_alloc] at this; omega
              clear hb1
              go_wp2_with fail
              with_reducible refine (rtext_any F G _).mono ?_
              rintro e w2 ⟨rfl, hb2⟩
              have B2 := bel (w := w) B1 hb2
              have d3 : w2.cell? ⟨w.heap.size, 0, none⟩ = some (.int .i64 (0)) := by rw [hb2.cell (p := ⟨w.heap.size, 0, none⟩) (by show w.heap.size < w1.heap.size; omega)]; exact c3
              have d4 : w2.cell? ⟨w.heap.size, 1, none⟩ = some (.int .i64 (0)) := by rw [hb2.cell (p := ⟨w.heap.size, 1, none⟩) (by show w.heap.size < w1.heap.size; omega)]; exact c4
              have d5 : w2.cell? ⟨w.heap.size + 1, 0, none⟩ = some (.int .i64 (F)) := by rw [hb2.cell (p := ⟨w.heap.size + 1, 0, none⟩) (by show w.heap.size + 1 < w1.heap.size; omega)]; exact c5
              have d6 : w2.cell? ⟨w.heap.size + 1, 1, none⟩ = some (.int .i64 (G)) := by rw [hb2.cell (p := ⟨w.heap.size + 1, 1, none⟩) (by show w.heap.size + 1 < w1.heap.size; omega)]; exact c6
              have g0 : w2.frozen? ⟨w.heap.size, 0, none⟩ = false := by rw [hb2.frozen (p := ⟨w.heap.size, 0, none⟩) (by show w.heap.size < w1.heap.size; omega)]; exact f0
              have g1 : w2.frozen? ⟨w.heap.size, 1, none⟩ = false := by rw [hb2.frozen (p := ⟨w.heap.size, 1, none⟩) (by show w.heap.size < w1.heap.size; omega)]; exact f1
              clear hb2 c3 c4 c5 c6 f0 f1
              go_wp2_with fail
              exact bodyPost_ret (v := .tuple #[.agg #[.int .i64 F, .int .i64 G], .int .i64 0]) (by simp [results, Tryz.results28, go_sem, *]) rfl ⟨by rw [HP.out], by go_grown⟩
            · have HP : Hid (resP (refP s.data.toList) = .tuple #[.agg #[.int .i64 0, .int .i64 0], .int .i64 2]) := by unfold Hid; rw [HR.out, if_neg (fun q => hq q.2)]; rfl
              have he := ne_of_toList (fun q => hq q.symm)
              clear hq
              go_wp2_with fail
              with_reducible refine (HF.out _).mono ?_
              rintro e w9 ⟨rfl, rfl⟩
              go_wp2_with fail
              with_reducible refine (end_any _).mono ?_
              rintro e w9 ⟨rfl, rfl⟩
              go_wp2_with fail
              with_reducible refine (HG.out _).mono ?_
              rintro e w9 ⟨rfl, rfl⟩
              go_wp2_with fail
              with_reducible refine (rright_any F G _).mono ?_
              rintro e w1 ⟨rfl, hb1⟩
              have B1 := bel (w := w) (by go_grown) hb1
              have c3 : w1.cell? ⟨w.heap.size, 0, none⟩ = some (.int .i64 (0)) := by rw [hb1.cell (p := ⟨w.heap.size, 0, none⟩) (by simp only [World.size_alloc]; omega)]; simp [go_sem]
              have c4 : w1.cell? ⟨w.heap.size, 1, none⟩ = some (.int .i64 (0)) := by rw [hb1.cell (p := ⟨w.heap.size, 1, none⟩) (by simp only [World.size_alloc]; omega)]; simp [go_sem]
              have c5 : w1.cell? ⟨w.heap.size + 1, 0, none⟩ = some (.int .i64 (F)) := by rw [hb1.cell (p := ⟨w.heap.size + 1, 0, none⟩) (by simp only [World.size_alloc]; omega)]; simp [go_sem]
              have c6 : w1.cell? ⟨w.heap.size + 1, 1, none⟩ = some (.int .i64 (G)) := by rw [hb1.cell (p := ⟨w.heap.size + 1, 1, none⟩) (by simp only [World.size_alloc]; omega)]; simp [go_sem]
              have f0 : w1.frozen? ⟨w.heap.size, 0, none⟩ = false := by rw [hb1.frozen (p := ⟨w.heap.size, 0, none⟩) (by simp only [World.size_alloc]; omega)]; simp [go_sem]
              have f1 : w1.frozen? ⟨w.heap.size, 1, none⟩ = false := by rw [hb1.frozen (p := ⟨w.heap.size, 1, none⟩) (by simp only [World.size_alloc]; omega)]; simp [go_sem]
              have z1 : w.heap.size < w1.heap.size ∧ w.heap.size + 1 < w1.heap.size := by have := hb1.size; simp only [World.size_alloc] at this; omega
              clear hb1
              go_wp2_with fail
              with_reducible refine (rtext_any F G _).mono ?_
              rintro e w2 ⟨rfl, hb2⟩
              have B2 := bel (w := w) B1 hb2
              have d3 : w2.cell? ⟨w.heap.size, 0, none⟩ = some (.int .i64 (0)) := by rw [hb2.cell (p := ⟨w.heap.size, 0, none⟩) (by show w.heap.size < w1.heap.size; omega)]; exact c3
              have d4 : w2.cell? ⟨w.heap.size, 1, none⟩ = some (.int .i64 (0)) := by rw [hb2.cell (p := ⟨w.heap.size, 1, none⟩) (by show w.heap.size < w1.heap.size; omega)]; exact c4
              have d5 : w2.cell? ⟨w.heap.size + 1, 0, none⟩ = some (.int .i64 (F)) := by rw [hb2.cell (p := ⟨w.heap.size + 1, 0, none⟩) (by show w.heap.size + 1 < w1.heap.size; omega)]; exact c5
              have d6 : w2.cell? ⟨w.heap.size + 1, 1, none⟩ = some (.int .i64 (G)) := by rw [hb2.cell (p := ⟨w.heap.size + 1, 1, none⟩) (by show w.heap.size + 1 < w1.heap.size; omega)]; exact c6
              have g0 : w2.frozen? ⟨w.heap.size, 0, none⟩ = false := by rw [hb2.frozen (p := ⟨w.heap.size, 0, none⟩) (by show w.heap.size < w1.heap.size; omega)]; exact f0
              have g1 : w2.frozen? ⟨w.heap.size, 1, none⟩ = false := by rw [hb2.frozen (p := ⟨w.heap.size, 1, none⟩) (by show w.heap.size < w1.heap.size; omega)]; exact f1
              clear hb2 c3 c4 c5 c6 f0 f1
              go_wp2_with fail
              exact bodyPost_ret (v := .tuple #[.agg #[.int .i64 0, .int .i64 0], .int .i64 2]) (by simp [results, Tryz.results28, go_sem, *]) rfl ⟨by rw [HP.out], by go_grown⟩
        · rw [show refT (s.data.toList.drop (k + 1)) = 4611686018427387904 from by unfold refT; rw [if_pos (List.drop_eq_nil_of_le (by rw [size_toList]; omega))]] at hR
          have HR := Lib.hid hR
          clear hR
          cases hr : rtB F 4611686018427387904 with
          | false =>
            have HP : Hid (resP (refP s.data.toList) = .tuple #[.agg #[.int .i64 0, .int .i64 0], .int .i64 2]) := by unfold Hid; rw [HR.out, if_neg (by rw [hr]; simp)]; rfl
            go_wp2_with fail
            with_reducible refine (HF.out _).mono ?_
            rintro e w9 ⟨rfl, rfl⟩
            go_wp2_with fail
            with_reducible refine (end_any _).mono ?_
            rintro e w9 ⟨rfl, rfl⟩
            go_wp2_with fail
            with_reducible refine (rright_any F 4611686018427387904 _).mono ?_
            rintro e w1 ⟨rfl, hb1⟩
            have B1 := bel (w := w) (by go_grown) hb1
            have c3 : w1.cell? ⟨w.heap.size, 0, none⟩ = some (.int .i64 (0)) := by rw [hb1.cell (p := ⟨w.heap.size, 0, none⟩) (by simp only [World.size_alloc]; omega)]; simp [go_sem]
            have c4 : w1.cell? ⟨w.heap.size, 1, none⟩ = some (.int .i64 (0)) := by rw [hb1.cell (p := ⟨w.heap.size, 1, none⟩) (by simp only [World.size_alloc]; omega)]; simp [go_sem]
            have c5 : w1.cell? ⟨w.heap.size + 1, 0, none⟩ = some (.int .i64 (F)) := by rw [hb1.cell (p := ⟨w.heap.size + 1, 0, none⟩) (by simp only [World.size_alloc]; omega)]; simp [go_sem]
            have c6 : w1.cell? ⟨w.heap.size + 1, 1, none⟩ = some (.int .i64 (4611686018427387904)) := by rw [hb1.cell (p := ⟨w.heap.size + 1, 1, none⟩) (by simp only [World.size_alloc]; omega)]; simp [go_sem]
            have f0 : w1.frozen? ⟨w.heap.size, 0, none⟩ = false := by rw [hb1.frozen (p := ⟨w.heap.size, 0, none⟩) (by simp only [World.size_alloc]; omega)]; simp [go_sem]
            have f1 : w1.frozen? ⟨w.heap.size, 1, none⟩ = false := by rw [hb1.frozen (p := ⟨w.heap.size, 1, none⟩) (by simp only [World.size_alloc]; omega)]; simp [go_sem]
            have z1 : w.heap.size < w1.heap.size ∧ w.heap.size + 1 < w1.heap.size := by have := hb1.size; simp only [World.size_alloc] at this; omega
            clear hb1
            go_wp2_with fail
            exact bodyPost_ret (v := .tuple #[.agg #[.int .i64 0, .int .i64 0], .int .i64 2]) (by simp [results, Tryz.results28, go_sem, *]) rfl ⟨by rw [HP.out], by go_grown⟩
          | true =>
            by_cases hq : textL F 4611686018427387904 = s.data.toList
            · have HP : Hid (resP (refP s.data.toList) = .tuple #[.agg #[.int .i64 F, .int .i64 4611686018427387904], .int .i64 0]) := by unfold Hid; rw [HR.out, if_pos ⟨hr, hq⟩]; rfl
              have he : (textL F 4611686018427387904 == s.toList) = true := by rw [ByteArray.toList_eq, hq]; simp
              clear hq
              go_wp2_with fail
              with_reducible refine (HF.out _).mono ?_
              rintro e w9 ⟨rfl, rfl⟩
              go_wp2_with fail
              with_reducible refine (end_any _).mono ?_
              rintro e w9 ⟨rfl, rfl⟩
              go_wp2_with fail
              with_reducible refine (rright_any F 4611686018427387904 _).mono ?_
              rintro e w1 ⟨rfl, hb1⟩
              have B1 := bel (w := w) (by go_grown) hb1
              have c3 : w1.cell? ⟨w.heap.size, 0, none⟩ = some (.int .i64 (0)) := by rw [hb1.cell (p := ⟨w.heap.size, 0, none⟩) (by simp only [World.size_alloc]; omega)]; simp [go_sem]
              have c4 : w1.cell? ⟨w.heap.size, 1, none⟩ = some (.int .i64 (0)) := by rw [hb1.cell (p := ⟨w.heap.size, 1, none⟩) (by simp only [World.size_alloc]; omega)]; simp [go_sem]
              have c5 : w1.cell? ⟨w.heap.size + 1, 0, none⟩ = some (.int .i64 (F)) := by rw [hb1.cell (p := ⟨w.heap.size + 1, 0, none⟩) (by simp only [World.size_alloc]; omega)]; simp [go_sem]
              have c6 : w1.cell? ⟨w.heap.size + 1, 1, none⟩ = some (.int .i64 (4611686018427387904)) := by rw [hb1.cell (p := ⟨w.heap.size + 1, 1, none⟩) (by simp only [World.size_alloc]; omega)]; simp [go_sem]
              have f0 : w1.frozen? ⟨w.heap.size, 0, none⟩ = false := by rw [hb1.frozen (p := ⟨w.heap.size, 0, none⟩) (by simp only [World.size_alloc]; omega)]; simp [go_sem]
              have f1 : w1.frozen? ⟨w.heap.size, 1, none⟩ = false := by rw [hb1.frozen (p := ⟨w.heap.size, 1, none⟩) (by simp only [World.size_alloc]; omega)]; simp [go_sem]
              have z1 : w.heap.size < w1.heap.size ∧ w.heap.size + 1 < w1.heap.size := by have := hb1.size; simp only [World.size_alloc] at this; omega
              clear hb1
              go_wp2_with fail
              with_reducible refine (rtext_any F 4611686018427387904 _).mono ?_
              rintro e w2 ⟨rfl, hb2⟩
              have B2 := bel (w := w) B1 hb2
              have d3 : w2.cell? ⟨w.heap.size, 0, none⟩ = some (.int .i64 (0)) := by rw [hb2.cell (p := ⟨w.heap.size, 0, none⟩) (by show w.heap.size < w1.heap.size; omega)]; exact c3
              have d4 : w2.cell? ⟨w.heap.size, 1, none⟩ = some (.int .i64 (0)) := by rw [hb2.cell (p := ⟨w.heap.size, 1, none⟩) (by show w.heap.size < w1.heap.size; omega)]; exact c4
              have d5 : w2.cell? ⟨w.heap.size + 1, 0, none⟩ = some (.int .i64 (F)) := by rw [hb2.cell (p := ⟨w.heap.size + 1, 0, none⟩) (by show w.heap.size + 1 < w1.heap.size; omega)]; exact c5
              have d6 : w2.cell? ⟨w.heap.size + 1, 1, none⟩ = some (.int .i64 (4611686018427387904)) := by rw [hb2.cell (p := ⟨w.heap.size + 1, 1, none⟩) (by show w.heap.size + 1 < w1.heap.size; omega)]; exact c6
              have g0 : w2.frozen? ⟨w.heap.size, 0, none⟩ = false := by rw [hb2.frozen (p := ⟨w.heap.size, 0, none⟩) (by show w.heap.size < w1.heap.size; omega)]; exact f0
              have g1 : w2.frozen? ⟨w.heap.size, 1, none⟩ = false := by rw [hb2.frozen (p := ⟨w.heap.size, 1, none⟩) (by show w.heap.size < w1.heap.size; omega)]; exact f1
              clear hb2 c3 c4 c5 c6 f0 f1
              go_wp2_with fail
              exact bodyPost_ret (v := .tuple #[.agg #[.int .i64 F, .int .i64 4611686018427387904], .int .i64 0]) (by simp [results, Tryz.results28, go_sem, *]) rfl ⟨by rw [HP.out], by go_grown⟩
            · have HP : Hid (resP (refP s.data.toList) = .tuple #[.agg #[.int .i64 0, .int .i64 0], .int .i64 2]) := by unfold Hid; rw [HR.out, if_neg (fun q => hq q.2)]; rfl
              have he := ne_of_toList (fun q => hq q.symm)
              clear hq
              go_wp2_with fail
              with_reducible refine (HF.out _).mono ?_
              rintro e w9 ⟨rfl, rfl⟩
              go_wp2_with fail
              with_reducible refine (end_any _).mono ?_
              rintro e w9 ⟨rfl, rfl⟩
              go_wp2_with fail
              with_reducible refine (rright_any F 4611686018427387904 _).mono ?_
              rintro e w1 ⟨rfl, hb1⟩
              have B1 := bel (w := w) (by go_grown) hb1
              have c3 : w1.cell? ⟨w.heap.size, 0, none⟩ = some (.int .i64 (0)) := by rw [hb1.cell (p := ⟨w.heap.size, 0, none⟩) (by simp only [World.size_alloc]; omega)]; simp [go_sem]
              have c4 : w1.cell? ⟨w.heap.size, 1, none⟩ = some (.int .i64 (0)) := by rw [hb1.cell (p := ⟨w.heap.size, 1, none⟩) (by simp only [World.size_alloc]; omega)]; simp [go_sem]
              have c5 : w1.cell? ⟨w.heap.size + 1, 0, none⟩ = some (.int .i64 (F)) := by rw [hb1.cell (p := ⟨w.heap.size + 1, 0, none⟩) (by simp only [World.size_alloc]; omega)]; simp [go_sem]
              have c6 : w1.cell? ⟨w.heap.size + 1, 1, none⟩ = some (.int .i64 (4611686018427387904)) := by rw [hb1.cell (p := ⟨w.heap.size + 1, 1, none⟩) (by simp only [World.size_alloc]; omega)]; simp [go_sem]
              have f0 : w1.frozen? ⟨w.heap.size, 0, none⟩ = false := by rw [hb1.frozen (p := ⟨w.heap.size, 0, none⟩) (by simp only [World.size_alloc]; omega)]; simp [go_sem]
              have f1 : w1.frozen? ⟨w.heap.size, 1, none⟩ = false := by rw [hb1.frozen (p := ⟨w.heap.size, 1, none⟩) (by simp only [World.size_alloc]; omega)]; simp [go_sem]
              have z1 : w.heap.size < w1.heap.size ∧ w.heap.size + 1 < w1.heap.size := by have := hb1.size; simp only [World.size_alloc] at this; omega
              clear hb1
              go_wp2_with fail
              with_reducible refine (rtext_any F 4611686018427387904 _).mono ?_
              rintro e w2 ⟨rfl, hb2⟩
              have B2 := bel (w := w) B1 hb2
              have d3 : w2.cell? ⟨w.heap.size, 0, none⟩ = some (.int .i64 (0)) := by rw [hb2.cell (p := ⟨w.heap.size, 0, none⟩) (by show w.heap.size < w1.heap.size; omega)]; exact c3
              have d4 : w2.cell? ⟨w.heap.size, 1, none⟩ = some (.int .i64 (0)) := by rw [hb2.cell (p := ⟨w.heap.size, 1, none⟩) (by show w.heap.size < w1.heap.size; omega)]; exact c4
              have d5 : w2.cell? ⟨w.heap.size + 1, 0, none⟩ = some (.int .i64 (F)) := by rw [hb2.cell (p := ⟨w.heap.size + 1, 0, none⟩) (by show w.heap.size + 1 < w1.heap.size; omega)]; exact c5
              have d6 : w2.cell? ⟨w.heap.size + 1, 1, none⟩ = some (.int .i64 (4611686018427387904)) := by rw [hb2.cell (p := ⟨w.heap.size + 1, 1, none⟩) (by show w.heap.size + 1 < w1.heap.size; omega)]; exact c6
              have g0 : w2.frozen? ⟨w.heap.size, 0, none⟩ = false := by rw [hb2.frozen (p := ⟨w.heap.size, 0, none⟩) (by show w.heap.size < w1.heap.size; omega)]; exact f0
              have g1 : w2.frozen? ⟨w.heap.size, 1, none⟩ = false := by rw [hb2.frozen (p := ⟨w.heap.size, 1, none⟩) (by show w.heap.size < w1.heap.size; omega)]; exact f1
              clear hb2 c3 c4 c5 c6 f0 f1
              go_wp2_with fail
              exact bodyPost_ret (v := .tuple #[.agg #[.int .i64 0, .int .i64 0], .int .i64 2]) (by simp [results, Tryz.results28, go_sem, *]) rfl ⟨by rw [HP.out], by go_grown⟩
      · have HS : Hid (k + 1 ≤ dashAt s.data.toList) := dashAt_step _ k HK.out (by rw [hlen]; exact hlt) (by
          intro e
          have : (s.data.toList[k]'(by rw [hlen]; exact hlt)) = s[k] := rfl
          rw [this] at e; apply hc; rw [e]; rfl)
        have c1 : ((s[k].toNat : Int) == 45) = false := by simpa using hc
        have c2 : ((s[k].toNat : Int) != 45) = true := by simpa using hc
        clear hc HK hlen
        go_wp2_with fail
        go_round
        case rel => exact ⟨k + 1, by omega, by go_num, HS⟩
        case measure => simp [intOf]; omega
    · have HN : Hid (resP (refP s.data.toList) = .tuple #[.agg #[.int .i64 0, .int .i64 0], .int .i64 2]) := by
        unfold Hid refP
        rw [if_neg (by have := HK.out; rw [hlen]; omega)]; rfl
      have hke : k = s.size := by omega
      clear HK hlen
      subst hke
      go_wp2_with fail
      exact bodyPost_ret (v := .tuple #[.agg #[.int .i64 0, .int .i64 0], .int .i64 2]) (by simp [results, Tryz.results28, go_sem, *]) rfl ⟨by rw [HN.out], by go_grown⟩
end Go.Proofs.YthbjhpfgfpkppaaGreatDoor
