/-
  The reference's Align by a contract.
-/
import Derived.Lib.Hide
import Derived.Test.YtbhbnkblnfaomaaDoorRef01A
namespace Go.Proofs.YtbhbnkblnfaomaaDoor
open Go Go.RowKit

theorem ral_facts {a b u : Int} (h0 : 0 ≤ a) (h1 : a ≤ b) (hu : 1 ≤ u) :
    0 ≤ a / u * u ∧ a / u * u ≤ a ∧ a / u * u = a - a % u ∧ 0 ≤ b % u ∧ b % u < u ∧ 0 ≤ b / u ∧ b / u ≤ b ∧ b / u * u = b - b % u ∧ (b / u + 1) * u = b - b % u + u ∧ 0 ≤ a / u ∧ a / u ≤ a := by
  have e1 := Int.emod_add_mul_ediv a u
  have e2 := Int.emod_add_mul_ediv b u
  have e3 : a / u * u = u * (a / u) := Int.mul_comm _ _
  have e4 : b / u * u = u * (b / u) := Int.mul_comm _ _
  have e5 : (b / u + 1) * u = b / u * u + u := by rw [Int.add_mul, Int.one_mul]
  have m1 := Int.emod_nonneg a (show u ≠ 0 by omega)
  have m2 := Int.emod_nonneg b (show u ≠ 0 by omega)
  have m3 := Int.emod_lt_of_pos b (show 0 < u by omega)
  have d1 := Int.ediv_nonneg h0 (show 0 ≤ u by omega)
  have d2 := Int.ediv_nonneg (show 0 ≤ b by omega) (show 0 ≤ u by omega)
  have d3 := Int.ediv_le_self (a := b) u (by omega)
  have d4 := Int.ediv_le_self (a := a) u (by omega)
  have p1 := Int.mul_nonneg d1 (show 0 ≤ u by omega)
  refine ⟨p1, by omega, by omega, m2, m3, d2, d3, by omega, by omega, d1, d4⟩
theorem end_again {w : World} {a n : Nat} : Calls Tryd.prog 35 #[] (w.drewN (a + n)) fun e w' => e = .returned (.int .i64 4611686018427387904) ∧ ∃ m, w' = w.drewN (a + m) :=
  (end_any _).mono fun _ _ ⟨he, hw⟩ => ⟨he, n, hw⟩
/-- the least whole number of units that isn't below b -/
theorem up_eq {b u : Int} (hu : 1 ≤ u) : (b + u - 1) / u * u = if b % u = 0 then b else b - b % u + u := by
  have e2 := Int.emod_add_mul_ediv b u
  have m2 := Int.emod_nonneg b (show u ≠ 0 by omega)
  have m3 := Int.emod_lt_of_pos b (show 0 < u by omega)
  split
  · rename_i h
    have : (b + u - 1) / u = b / u := by
      have : b + u - 1 = (u - 1) + u * (b / u) := by omega
      rw [this, Int.add_mul_ediv_left _ _ (by omega), Int.ediv_eq_zero_of_lt (by omega) (by omega), Int.zero_add]
    rw [this, Int.mul_comm]; omega
  · rename_i h
    have : (b + u - 1) / u = b / u + 1 := by
      have : b + u - 1 = (b % u - 1) + u * (b / u + 1) := by rw [Int.mul_add, Int.mul_one]; omega
      rw [this, Int.add_mul_ediv_left _ _ (by omega), Int.ediv_eq_zero_of_lt (by omega) (by omega), Int.zero_add]
    rw [this, Int.add_mul, Int.one_mul, Int.mul_comm (b / u) u]; omega

set_option maxHeartbeats 1600000 in
theorem ralign_any (a b u : Int) (w : World) :
    Calls Tryd.prog 29 #[.agg #[.int .i64 a, .int .i64 b], .int .i64 u] w fun e w' => e = .returned (.tuple #[.agg #[.int .i64 (alF a b u), .int .i64 (alT a b u)], .int .i64 (alE a b u)]) ∧ Below w.heap.size w w' := by
  cases hr : rtB a b with
  | false =>
    have HF := Lib.hid (show Ending.returned (.tuple #[.agg #[.int .i64 0, .int .i64 0], .int .i64 1]) = .returned (.tuple #[.agg #[.int .i64 (alF a b u), .int .i64 (alT a b u)], .int .i64 (alE a b u)]) from by
        have hm : alB a b u = false := by simp [alB, hr]
        simp [alF, alT, alE, hm])
    go_enter Tryd.func29, Tryd.ntmps29
    go_wp2_with (go_at_call 14; with_reducible refine (rright_any a b _).mono ?_; rintro e w1 ⟨rfl, hb1⟩; obtain ⟨hc1, hf1⟩ := bcell hb1; have hz1 := lt2 hb1; have B1 := bel (w := w) (by go_grown) hb1)
    exact bodyPost_ret (v := .tuple #[.agg #[.int .i64 0, .int .i64 0], .int .i64 1]) (by simp [results, Tryd.results29, go_sem, hc1]) rfl ⟨HF.out, by go_grown⟩
  | true =>
    by_cases h1 : 1 ≤ u
    · by_cases h2 : u ≤ 1099511627776
      · have h0 := rtB_t hr
        obtain ⟨f1, f2, f3, f4, f5, f6, f7, f8, f9, f10, f11⟩ := ral_facts h0.1 h0.2.1 h1
        have hu0 : ¬ u = 0 := by omega
        have hup := up_eq (b := b) h1
        have hok : alB a b u = true := by simp [alB, hr, h1, h2]
        have hF : alF a b u = a / u * u := by unfold alF; rw [if_pos hok]; omega
        have HFF := Lib.hid hF; clear hF
        have HUP := Lib.hid hup; clear hup
        have HOK := Lib.hid hok; clear hok
        have g1 : (b / u + 1) * u ≤ b + u := by omega
        have g2 : 0 ≤ (b / u + 1) * u := by omega
        have F9 := Lib.hid f9
        clear f3 f8 f9
        by_cases hm : b % u = 0
        · have m1 : (b % u == 0) = true := by simpa using hm
          have m2 : (b % u != 0) = false := by simpa using hm
          have HF := Lib.hid (show Ending.returned (.tuple #[.agg #[.int .i64 (a / u * u), .int .i64 b], .int .i64 0]) = .returned (.tuple #[.agg #[.int .i64 (alF a b u), .int .i64 (alT a b u)], .int .i64 (alE a b u)]) from by have ht : alT a b u = b := (by unfold alT; rw [if_pos HOK.out, HUP.out]; rw [if_pos hm]; unfold mnI; omega); rw [ht, HFF.out]; simp [alE, HOK.out])
          go_enter Tryd.func29, Tryd.ntmps29
          go_wp2_with fail
          with_reducible refine (rright_any a b _).mono ?_
          rintro e w1 ⟨rfl, hb1⟩
          obtain ⟨hc1, hf1⟩ := bcell hb1
          have B1 := bel (w := w) (by go_grown) hb1
          have c0 : w1.cell? ⟨w.heap.size, 0, none⟩ = some (.int .i64 a) := by rw [hc1 (w.heap.size) 0 (by simp only [World.size_alloc]; omega)]; simp [go_sem]
          have c1 : w1.cell? ⟨w.heap.size, 1, none⟩ = some (.int .i64 b) := by rw [hc1 (w.heap.size) 1 (by simp only [World.size_alloc]; omega)]; simp [go_sem]
          have c2 : w1.cell? ⟨w.heap.size + 1, 0, none⟩ = some (.int .i64 0) := by rw [hc1 (w.heap.size + 1) 0 (by simp only [World.size_alloc]; omega)]; simp [go_sem]
          have c3 : w1.cell? ⟨w.heap.size + 1, 1, none⟩ = some (.int .i64 0) := by rw [hc1 (w.heap.size + 1) 1 (by simp only [World.size_alloc]; omega)]; simp [go_sem]
          have f0 : w1.frozen? ⟨w.heap.size, 0, none⟩ = false := by rw [hf1 (w.heap.size) 0 (by simp only [World.size_alloc]; omega)]; simp [go_sem]
          have f1 : w1.frozen? ⟨w.heap.size, 1, none⟩ = false := by rw [hf1 (w.heap.size) 1 (by simp only [World.size_alloc]; omega)]; simp [go_sem]
          have f2 : w1.frozen? ⟨w.heap.size + 1, 0, none⟩ = false := by rw [hf1 (w.heap.size + 1) 0 (by simp only [World.size_alloc]; omega)]; simp [go_sem]
          have f3 : w1.frozen? ⟨w.heap.size + 1, 1, none⟩ = false := by rw [hf1 (w.heap.size + 1) 1 (by simp only [World.size_alloc]; omega)]; simp [go_sem]
          clear hc1 hf1 hb1
          go_wp2
          go_quiet ((go_at_call 35; exact Calls.quiet_of_same (end_any _)))
          go_wp2
          go_quiet ((go_at_call 35; first | exact end_again | exact Calls.quiet_of_same (end_any _)))
          go_wp2_with (go_at_call 35; refine (end_any _).mono ?_; rintro e w2 ⟨rfl, rfl⟩)
          exact bodyPost_ret (v := .tuple #[.agg #[.int .i64 (a / u * u), .int .i64 b], .int .i64 0]) (by simp [results, Tryd.results29, go_sem, *]) rfl ⟨HF.out, by repeat' (first | with_reducible assumption | with_reducible refine Below.setCell ?_ ?_ _ | with_reducible refine below_drewN ?_ _ | go_size)⟩
        · have m1 : (b % u == 0) = false := by simpa using hm
          have m2 : (b % u != 0) = true := by simpa using hm
          by_cases hbo : b = 4611686018427387904
          · have n1 : (b == 4611686018427387904) = true := by simpa using hbo
            have n2 : (b != 4611686018427387904) = false := by simpa using hbo
            have HF := Lib.hid (show Ending.returned (.tuple #[.agg #[.int .i64 (a / u * u), .int .i64 b], .int .i64 0]) = .returned (.tuple #[.agg #[.int .i64 (alF a b u), .int .i64 (alT a b u)], .int .i64 (alE a b u)]) from by have ht : alT a b u = b := (by unfold alT; rw [if_pos HOK.out, HUP.out]; rw [if_neg hm]; unfold mnI; omega); rw [ht, HFF.out]; simp [alE, HOK.out])
            have HBO := Lib.hid hbo; clear hbo
            go_enter Tryd.func29, Tryd.ntmps29
            go_wp2_with fail
            with_reducible refine (rright_any a b _).mono ?_
            rintro e w1 ⟨rfl, hb1⟩
            obtain ⟨hc1, hf1⟩ := bcell hb1
            have B1 := bel (w := w) (by go_grown) hb1
            have c0 : w1.cell? ⟨w.heap.size, 0, none⟩ = some (.int .i64 a) := by rw [hc1 (w.heap.size) 0 (by simp only [World.size_alloc]; omega)]; simp [go_sem]
            have c1 : w1.cell? ⟨w.heap.size, 1, none⟩ = some (.int .i64 b) := by rw [hc1 (w.heap.size) 1 (by simp only [World.size_alloc]; omega)]; simp [go_sem]
            have c2 : w1.cell? ⟨w.heap.size + 1, 0, none⟩ = some (.int .i64 0) := by rw [hc1 (w.heap.size + 1) 0 (by simp only [World.size_alloc]; omega)]; simp [go_sem]
            have c3 : w1.cell? ⟨w.heap.size + 1, 1, none⟩ = some (.int .i64 0) := by rw [hc1 (w.heap.size + 1) 1 (by simp only [World.size_alloc]; omega)]; simp [go_sem]
            have f0 : w1.frozen? ⟨w.heap.size, 0, none⟩ = false := by rw [hf1 (w.heap.size) 0 (by simp only [World.size_alloc]; omega)]; simp [go_sem]
            have f1 : w1.frozen? ⟨w.heap.size, 1, none⟩ = false := by rw [hf1 (w.heap.size) 1 (by simp only [World.size_alloc]; omega)]; simp [go_sem]
            have f2 : w1.frozen? ⟨w.heap.size + 1, 0, none⟩ = false := by rw [hf1 (w.heap.size + 1) 0 (by simp only [World.size_alloc]; omega)]; simp [go_sem]
            have f3 : w1.frozen? ⟨w.heap.size + 1, 1, none⟩ = false := by rw [hf1 (w.heap.size + 1) 1 (by simp only [World.size_alloc]; omega)]; simp [go_sem]
            clear hc1 hf1 hb1
            go_wp2
            go_quiet ((go_at_call 35; exact Calls.quiet_of_same (end_any _)))
            go_wp2
            go_quiet ((go_at_call 35; first | exact end_again | exact Calls.quiet_of_same (end_any _)))
            go_wp2_with (go_at_call 35; refine (end_any _).mono ?_; rintro e w2 ⟨rfl, rfl⟩)
            exact bodyPost_ret (v := .tuple #[.agg #[.int .i64 (a / u * u), .int .i64 b], .int .i64 0]) (by simp [results, Tryd.results29, go_sem, *]) rfl ⟨HF.out, by repeat' (first | with_reducible assumption | with_reducible refine Below.setCell ?_ ?_ _ | with_reducible refine below_drewN ?_ _ | go_size)⟩
          · have n1 : (b == 4611686018427387904) = false := by simpa using hbo
            have n2 : (b != 4611686018427387904) = true := by simpa using hbo
            by_cases hz : (b / u + 1) * u ≤ 4611686018427387904
            · have HF := Lib.hid (show Ending.returned (.tuple #[.agg #[.int .i64 (a / u * u), .int .i64 ((b / u + 1) * u)], .int .i64 0]) = .returned (.tuple #[.agg #[.int .i64 (alF a b u), .int .i64 (alT a b u)], .int .i64 (alE a b u)]) from by have ht : alT a b u = ((b / u + 1) * u) := (by unfold alT; rw [if_pos HOK.out, HUP.out]; rw [if_neg hm, F9.out]; rw [F9.out] at hz; unfold mnI; omega); rw [ht, HFF.out]; simp [alE, HOK.out])
              go_enter Tryd.func29, Tryd.ntmps29
              go_wp2_with fail
              with_reducible refine (rright_any a b _).mono ?_
              rintro e w1 ⟨rfl, hb1⟩
              obtain ⟨hc1, hf1⟩ := bcell hb1
              have B1 := bel (w := w) (by go_grown) hb1
              have c0 : w1.cell? ⟨w.heap.size, 0, none⟩ = some (.int .i64 a) := by rw [hc1 (w.heap.size) 0 (by simp only [World.size_alloc]; omega)]; simp [go_sem]
              have c1 : w1.cell? ⟨w.heap.size, 1, none⟩ = some (.int .i64 b) := by rw [hc1 (w.heap.size) 1 (by simp only [World.size_alloc]; omega)]; simp [go_sem]
              have c2 : w1.cell? ⟨w.heap.size + 1, 0, none⟩ = some (.int .i64 0) := by rw [hc1 (w.heap.size + 1) 0 (by simp only [World.size_alloc]; omega)]; simp [go_sem]
              have c3 : w1.cell? ⟨w.heap.size + 1, 1, none⟩ = some (.int .i64 0) := by rw [hc1 (w.heap.size + 1) 1 (by simp only [World.size_alloc]; omega)]; simp [go_sem]
              have f0 : w1.frozen? ⟨w.heap.size, 0, none⟩ = false := by rw [hf1 (w.heap.size) 0 (by simp only [World.size_alloc]; omega)]; simp [go_sem]
              have f1 : w1.frozen? ⟨w.heap.size, 1, none⟩ = false := by rw [hf1 (w.heap.size) 1 (by simp only [World.size_alloc]; omega)]; simp [go_sem]
              have f2 : w1.frozen? ⟨w.heap.size + 1, 0, none⟩ = false := by rw [hf1 (w.heap.size + 1) 0 (by simp only [World.size_alloc]; omega)]; simp [go_sem]
              have f3 : w1.frozen? ⟨w.heap.size + 1, 1, none⟩ = false := by rw [hf1 (w.heap.size + 1) 1 (by simp only [World.size_alloc]; omega)]; simp [go_sem]
              clear hc1 hf1 hb1
              go_wp2
              go_quiet ((go_at_call 35; exact Calls.quiet_of_same (end_any _)))
              go_wp2
              go_quiet ((go_at_call 35; first | exact end_again | exact Calls.quiet_of_same (end_any _)))
              go_wp2_with (go_at_call 35; refine (end_any _).mono ?_; rintro e w2 ⟨rfl, rfl⟩)
              exact bodyPost_ret (v := .tuple #[.agg #[.int .i64 (a / u * u), .int .i64 ((b / u + 1) * u)], .int .i64 0]) (by simp [results, Tryd.results29, go_sem, *]) rfl ⟨HF.out, by repeat' (first | with_reducible assumption | with_reducible refine Below.setCell ?_ ?_ _ | with_reducible refine below_drewN ?_ _ | go_size)⟩
            · have HF := Lib.hid (show Ending.returned (.tuple #[.agg #[.int .i64 (a / u * u), .int .i64 4611686018427387904], .int .i64 0]) = .returned (.tuple #[.agg #[.int .i64 (alF a b u), .int .i64 (alT a b u)], .int .i64 (alE a b u)]) from by have ht : alT a b u = 4611686018427387904 := (by unfold alT; rw [if_pos HOK.out, HUP.out]; rw [if_neg hm]; rw [F9.out] at hz; unfold mnI; omega); rw [ht, HFF.out]; simp [alE, HOK.out])
              go_enter Tryd.func29, Tryd.ntmps29
              go_wp2_with fail
              with_reducible refine (rright_any a b _).mono ?_
              rintro e w1 ⟨rfl, hb1⟩
              obtain ⟨hc1, hf1⟩ := bcell hb1
              have B1 := bel (w := w) (by go_grown) hb1
              have c0 : w1.cell? ⟨w.heap.size, 0, none⟩ = some (.int .i64 a) := by rw [hc1 (w.heap.size) 0 (by simp only [World.size_alloc]; omega)]; simp [go_sem]
              have c1 : w1.cell? ⟨w.heap.size, 1, none⟩ = some (.int .i64 b) := by rw [hc1 (w.heap.size) 1 (by simp only [World.size_alloc]; omega)]; simp [go_sem]
              have c2 : w1.cell? ⟨w.heap.size + 1, 0, none⟩ = some (.int .i64 0) := by rw [hc1 (w.heap.size + 1) 0 (by simp only [World.size_alloc]; omega)]; simp [go_sem]
              have c3 : w1.cell? ⟨w.heap.size + 1, 1, none⟩ = some (.int .i64 0) := by rw [hc1 (w.heap.size + 1) 1 (by simp only [World.size_alloc]; omega)]; simp [go_sem]
              have f0 : w1.frozen? ⟨w.heap.size, 0, none⟩ = false := by rw [hf1 (w.heap.size) 0 (by simp only [World.size_alloc]; omega)]; simp [go_sem]
              have f1 : w1.frozen? ⟨w.heap.size, 1, none⟩ = false := by rw [hf1 (w.heap.size) 1 (by simp only [World.size_alloc]; omega)]; simp [go_sem]
              have f2 : w1.frozen? ⟨w.heap.size + 1, 0, none⟩ = false := by rw [hf1 (w.heap.size + 1) 0 (by simp only [World.size_alloc]; omega)]; simp [go_sem]
              have f3 : w1.frozen? ⟨w.heap.size + 1, 1, none⟩ = false := by rw [hf1 (w.heap.size + 1) 1 (by simp only [World.size_alloc]; omega)]; simp [go_sem]
              clear hc1 hf1 hb1
              go_wp2
              go_quiet ((go_at_call 35; exact Calls.quiet_of_same (end_any _)))
              revert nq
              intro n1
              go_wp2
              go_quiet ((go_at_call 35; first | exact end_again | exact Calls.quiet_of_same (end_any _)))
              revert nq
              intro n2
              have e0 : ((((w1.setCell ⟨w.heap.size, 0, none⟩ (.int .i64 (a / u * u))).drewN n1).setCell ⟨w.heap.size, 1, none⟩ (.int .i64 ((b / u + 1) * u))).drewN n2).cell? ⟨w.heap.size, 0, none⟩ = some (.int .i64 (a / u * u)) := by simp [go_sem, *]
              have e1 : ((((w1.setCell ⟨w.heap.size, 0, none⟩ (.int .i64 (a / u * u))).drewN n1).setCell ⟨w.heap.size, 1, none⟩ (.int .i64 ((b / u + 1) * u))).drewN n2).cell? ⟨w.heap.size, 1, none⟩ = some (.int .i64 ((b / u + 1) * u)) := by simp [go_sem, *]
              have e2 : ((((w1.setCell ⟨w.heap.size, 0, none⟩ (.int .i64 (a / u * u))).drewN n1).setCell ⟨w.heap.size, 1, none⟩ (.int .i64 ((b / u + 1) * u))).drewN n2).cell? ⟨w.heap.size + 1, 0, none⟩ = some (.int .i64 (0)) := by simp [go_sem, *]
              have e3 : ((((w1.setCell ⟨w.heap.size, 0, none⟩ (.int .i64 (a / u * u))).drewN n1).setCell ⟨w.heap.size, 1, none⟩ (.int .i64 ((b / u + 1) * u))).drewN n2).cell? ⟨w.heap.size + 1, 1, none⟩ = some (.int .i64 (0)) := by simp [go_sem, *]
              have k0 : ((((w1.setCell ⟨w.heap.size, 0, none⟩ (.int .i64 (a / u * u))).drewN n1).setCell ⟨w.heap.size, 1, none⟩ (.int .i64 ((b / u + 1) * u))).drewN n2).frozen? ⟨w.heap.size, 0, none⟩ = false := by simp [go_sem, *]
              have k1 : ((((w1.setCell ⟨w.heap.size, 0, none⟩ (.int .i64 (a / u * u))).drewN n1).setCell ⟨w.heap.size, 1, none⟩ (.int .i64 ((b / u + 1) * u))).drewN n2).frozen? ⟨w.heap.size, 1, none⟩ = false := by simp [go_sem, *]
              have k2 : ((((w1.setCell ⟨w.heap.size, 0, none⟩ (.int .i64 (a / u * u))).drewN n1).setCell ⟨w.heap.size, 1, none⟩ (.int .i64 ((b / u + 1) * u))).drewN n2).frozen? ⟨w.heap.size + 1, 0, none⟩ = false := by simp [go_sem, *]
              have k3 : ((((w1.setCell ⟨w.heap.size, 0, none⟩ (.int .i64 (a / u * u))).drewN n1).setCell ⟨w.heap.size, 1, none⟩ (.int .i64 ((b / u + 1) * u))).drewN n2).frozen? ⟨w.heap.size + 1, 1, none⟩ = false := by simp [go_sem, *]
              have B2 : Below w.heap.size w ((((w1.setCell ⟨w.heap.size, 0, none⟩ (.int .i64 (a / u * u))).drewN n1).setCell ⟨w.heap.size, 1, none⟩ (.int .i64 ((b / u + 1) * u))).drewN n2) := by repeat' (first | with_reducible assumption | with_reducible refine Below.setCell ?_ ?_ _ | with_reducible refine below_drewN ?_ _ | go_size)
              clear c0 c1 c2 c3 f0 f1 f2 f3 B1
              generalize (((w1.setCell ⟨w.heap.size, 0, none⟩ (.int .i64 (a / u * u))).drewN n1).setCell ⟨w.heap.size, 1, none⟩ (.int .i64 ((b / u + 1) * u))).drewN n2 = w5 at *
              go_wp2_with (go_at_call 35; refine (end_any _).mono ?_; rintro e w2 ⟨rfl, rfl⟩)
              exact bodyPost_ret (v := .tuple #[.agg #[.int .i64 (a / u * u), .int .i64 4611686018427387904], .int .i64 0]) (by simp [results, Tryd.results29, go_sem, *]) rfl ⟨HF.out, by repeat' (first | with_reducible assumption | with_reducible refine Below.setCell ?_ ?_ _ | with_reducible refine below_drewN ?_ _ | go_size)⟩
      · have HF := Lib.hid (show Ending.returned (.tuple #[.agg #[.int .i64 0, .int .i64 0], .int .i64 1]) = .returned (.tuple #[.agg #[.int .i64 (alF a b u), .int .i64 (alT a b u)], .int .i64 (alE a b u)]) from by
          have hm : alB a b u = false := by simp [alB]; omega
          simp [alF, alT, alE, hm])
        go_enter Tryd.func29, Tryd.ntmps29
        go_wp2_with (go_at_call 14; with_reducible refine (rright_any a b _).mono ?_; rintro e w1 ⟨rfl, hb1⟩; obtain ⟨hc1, hf1⟩ := bcell hb1; have hz1 := lt2 hb1; have B1 := bel (w := w) (by go_grown) hb1)
        exact bodyPost_ret (v := .tuple #[.agg #[.int .i64 0, .int .i64 0], .int .i64 1]) (by simp [results, Tryd.results29, go_sem, hc1]) rfl ⟨HF.out, by go_grown⟩
    · have HF := Lib.hid (show Ending.returned (.tuple #[.agg #[.int .i64 0, .int .i64 0], .int .i64 1]) = .returned (.tuple #[.agg #[.int .i64 (alF a b u), .int .i64 (alT a b u)], .int .i64 (alE a b u)]) from by
        have hm : alB a b u = false := by simp [alB]; omega
        simp [alF, alT, alE, hm])
      go_enter Tryd.func29, Tryd.ntmps29
      go_wp2_with (go_at_call 14; with_reducible refine (rright_any a b _).mono ?_; rintro e w1 ⟨rfl, hb1⟩; obtain ⟨hc1, hf1⟩ := bcell hb1; have hz1 := lt2 hb1; have B1 := bel (w := w) (by go_grown) hb1)
      exact bodyPost_ret (v := .tuple #[.agg #[.int .i64 0, .int .i64 0], .int .i64 1]) (by simp [results, Tryd.results29, go_sem, hc1]) rfl ⟨HF.out, by go_grown⟩
end Go.Proofs.YtbhbnkblnfaomaaDoor
