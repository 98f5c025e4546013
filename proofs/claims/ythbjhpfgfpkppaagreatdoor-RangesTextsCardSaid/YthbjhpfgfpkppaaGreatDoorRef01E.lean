/-
  The reference's Num and Text by contracts.
-/
import Derived.Lib.Hide
import Derived.Lib.QuietBelow
import Derived.Laws.IdiomStrings
import Derived.Test.YthbjhpfgfpkppaaGreatDoorRef01A
import Derived.Test.YthbjhpfgfpkppaaGreatDoorSpanMath
namespace Go.Proofs.YthbjhpfgfpkppaaGreatDoor
open Go Go.RowKit Go.Sort

theorem itoa_small {n : Int} (h0 : 0 ≤ n) (h1 : n < 10) : Lib.itoa n = [UInt8.ofNat (48 + n.toNat)] := by
  rw [itoa_dec h0, Lib.decDigits_one (by omega)]
theorem itoa_more {n : Int} (h1 : 10 ≤ n) : Lib.itoa n = Lib.itoa (n / 10) ++ Lib.itoa (n % 10) := by
  have e1 : (n / 10).toNat = n.toNat / 10 := by omega
  have e2 : (n % 10).toNat = n.toNat % 10 := by omega
  rw [itoa_dec (by omega), itoa_dec (by omega), itoa_small (n := n % 10) (by omega) (by omega), e1, e2]
  conv => lhs; rw [Lib.decDigits, dif_neg (by omega)]

set_option maxHeartbeats 800000 in
theorem num_small (n : Int) (w : World) (h0 : 0 ≤ n) (h1 : n < 10) :
    Calls Tryz.prog 46 #[.int .i64 n] w fun e w' => e = .returned (.string ⟨(Lib.itoa n).toArray⟩) ∧ Below w.heap.size w w' := by
  obtain ⟨c, hc, hd⟩ : ∃ c : UInt8, Lib.itoa n = [c] ∧ c.toNat = 48 + n.toNat := ⟨_, itoa_small h0 h1, dig_of (by omega)⟩
  have HI := Lib.hid hc; clear hc
  have hcv := Go.run_convert_bytes_back (P := Tryz.prog) (w.alloc (.cells #[.int .u8 (48 + n)] 5)) 75 9 5 ⟨w.heap.size, 0, none⟩ 1 [c] Tryz.underlying75 Tryz.underlying5 Tryz.underlying9 (fun j hj => by
    have : j = 0 := by simpa using hj
    subst this
    simp [Addr.add, hd]; omega)
  simp only [List.length_cons, List.length_nil, Nat.zero_add] at hcv
  clear hd
  go_enter Tryz.func46, Tryz.ntmps46
  go_wp2_with fail
  go_ret
  exact ⟨by rw [HI.out]; rfl, by go_grown⟩

set_option maxHeartbeats 800000 in
theorem num_any : ∀ (k : Nat) (n : Int) (w : World), n.toNat ≤ k → 0 ≤ n → n ≤ 4611686018427387904 →
    Calls Tryz.prog 46 #[.int .i64 n] w fun e w' => e = .returned (.string ⟨(Lib.itoa n).toArray⟩) ∧ Below w.heap.size w w' := by
  intro k
  induction k with
  | zero => intro n w hk h0 _; exact num_small n w h0 (by omega)
  | succ k ih =>
    intro n w hk h0 h2
    by_cases h1 : n < 10
    · exact num_small n w h0 h1
    · have IH := Lib.hid ih
      clear ih
      have l1 := itoa_len (a := n / 10) (by omega) (by omega)
      have l2 := itoa_len (a := n % 10) (by omega) (by omega)
      have HF : Hid (Ending.returned (.string (⟨(Lib.itoa (n / 10)).toArray⟩ ++ ⟨(Lib.itoa (n % 10)).toArray⟩ : ByteArray)) = .returned (.string ⟨(Lib.itoa n).toArray⟩)) := by
        unfold Hid; rw [ba_append, ← itoa_more (by omega)]
      go_enter Tryz.func46, Tryz.ntmps46
      go_wp2_with fail
      with_reducible refine (IH.out (n / 10) _ (by omega) (by omega) (by omega)).mono ?_
      rintro e w1 ⟨rfl, hb1⟩
      go_wp2_with fail
      with_reducible refine (num_small (n % 10) _ (by omega) (by omega)).mono ?_
      rintro e w2 ⟨rfl, hb2⟩
      go_wp2_with fail
      go_ret
      exact ⟨HF.out, bel hb1 hb2⟩

theorem rg {P : Program} {f : FuncId} {args : Array Value} {w : World} {v : Value} (h : ∀ W, Below w.heap.size w W → Calls P f args W fun e w' => e = .returned v ∧ Below W.heap.size W w') :
    ∀ d os, Calls P f args (grow (redrawn w d) os) fun e w'' => e = .returned v ∧ ∃ p : Regrown, w'' = grow (redrawn w p.d) p.os :=
  fun d os => Calls.regrown_of (h _ (below_regrown w d os))

set_option maxHeartbeats 2000000 in
theorem rtext_any (a b : Int) (w : World) :
    Calls Tryz.prog 25 #[.agg #[.int .i64 a, .int .i64 b]] w fun e w' => e = .returned (.string ⟨(textL a b).toArray⟩) ∧ Below w.heap.size w w' := by
  cases hr : rtB a b with
  | false =>
    have HF : Hid (Ending.returned (.string ⟨#[]⟩) = .returned (.string ⟨(textL a b).toArray⟩)) := by unfold Hid; simp [textL, hr]
    go_enter Tryz.func25, Tryz.ntmps25
    go_wp2_with (go_at_call 44; with_reducible refine (rright_any a b _).mono ?_; rintro e w1 ⟨rfl, hb1⟩; obtain ⟨hc1, hf1⟩ := bcell hb1; have hz1 := lt1 hb1; have B1 := bel (w := w) (by go_grown) hb1)
    go_ret
    exact ⟨HF.out, by go_grown⟩
  | true =>
    have h0 := rtB_t hr
    have la := itoa_len (a := a) (by omega) (by omega)
    have lb := itoa_len (a := b) (by omega) (by omega)
    by_cases hb : b = 4611686018427387904
    · subst hb
      by_cases ha : a = 4611686018427387904
      · subst ha
        have ho : opB 4611686018427387904 4611686018427387904 = false := by decide
        have HF : Hid (Ending.returned (.string (⟨(Lib.itoa 4611686018427387904).toArray⟩ ++ ⟨#[45]⟩ ++ ⟨(Lib.itoa 4611686018427387904).toArray⟩ : ByteArray)) = .returned (.string ⟨(textL 4611686018427387904 4611686018427387904).toArray⟩)) := by unfold Hid; rw [show (⟨#[45]⟩ : ByteArray) = ⟨[45].toArray⟩ from rfl, ba_append, ba_append]; simp [textL, hr, ho]
        go_enter Tryz.func25, Tryz.ntmps25
        go_wp2_with fail
        with_reducible refine (rright_any 4611686018427387904 4611686018427387904 _).mono ?_
        rintro e w1 ⟨rfl, hb1⟩
        have B1 := bel (w := w) (by go_grown) hb1
        have c0 : w1.cell? ⟨w.heap.size, 0, none⟩ = some (.int .i64 4611686018427387904) := by rw [hb1.cell (p := ⟨w.heap.size, 0, none⟩) (by simp only [World.size_alloc]; omega)]; simp [go_sem]
        have c1 : w1.cell? ⟨w.heap.size, 1, none⟩ = some (.int .i64 4611686018427387904) := by rw [hb1.cell (p := ⟨w.heap.size, 1, none⟩) (by simp only [World.size_alloc]; omega)]; simp [go_sem]
        clear hb1
        go_wp2_with fail
        go_quiet ((go_at_call 45; exact Calls.quiet_of_same (end_any _)))
        have k0 := cell_regrown (w := w1.drewN nq) (show (w1.drewN nq).cell? ⟨w.heap.size, 0, none⟩ = some (.int .i64 4611686018427387904) from c0)
        have k1 := cell_regrown (w := w1.drewN nq) (show (w1.drewN nq).cell? ⟨w.heap.size, 1, none⟩ = some (.int .i64 4611686018427387904) from c1)
        have n1 : ¬ 9223372036854775807 < (Lib.itoa 4611686018427387904).length + 1 := by omega
        have n2 : ¬ 9223372036854775807 < (Lib.itoa 4611686018427387904).length + 1 + (Lib.itoa 4611686018427387904).length := by omega
        have q1 := rg (w := w1.drewN nq) (fun W _ => num_any _ 4611686018427387904 W (Nat.le_refl _) (by omega) (by omega))
        have q2 := rg (w := w1.drewN nq) (fun W _ => num_any _ 4611686018427387904 W (Nat.le_refl _) (by omega) (by omega))
        have B2 : Below w.heap.size w (w1.drewN nq) := below_drewN B1 _
        clear c0 c1 B1
        go_wp2_with fail
        generalize w1.drewN nq = w2 at *
        refine wp_region_quiet_below (by kernel_rfl) (by kernel_rfl) ?_
        repeat (quiet_step (first | with_reducible exact q1 _ _ | with_reducible exact q2 _ _))
        refine wpQuiet_nil ?_
        intro _ hw'
        obtain ⟨⟨dq, osq⟩, hw''⟩ := hw'
        subst hw''
        go_wp2_with fail
        go_ret
        exact ⟨HF.out, bel B2 (below_regrown _ dq osq)⟩
      · have ha1 : (a == 4611686018427387904) = false := by simpa using ha
        have ha2 : (a != 4611686018427387904) = true := by simpa using ha
        have ho : opB a 4611686018427387904 = true := by simp [opB, ha]
        have HF : Hid (Ending.returned (.string (⟨(Lib.itoa a).toArray⟩ ++ ⟨#[45]⟩ : ByteArray)) = .returned (.string ⟨(textL a 4611686018427387904).toArray⟩)) := by unfold Hid; rw [show (⟨#[45]⟩ : ByteArray) = ⟨[45].toArray⟩ from rfl, ba_append]; simp [textL, hr, ho]
        clear ha
        go_enter Tryz.func25, Tryz.ntmps25
        go_wp2_with fail
        with_reducible refine (rright_any a 4611686018427387904 _).mono ?_
        rintro e w1 ⟨rfl, hb1⟩
        have B1 := bel (w := w) (by go_grown) hb1
        have c0 : w1.cell? ⟨w.heap.size, 0, none⟩ = some (.int .i64 a) := by rw [hb1.cell (p := ⟨w.heap.size, 0, none⟩) (by simp only [World.size_alloc]; omega)]; simp [go_sem]
        have c1 : w1.cell? ⟨w.heap.size, 1, none⟩ = some (.int .i64 4611686018427387904) := by rw [hb1.cell (p := ⟨w.heap.size, 1, none⟩) (by simp only [World.size_alloc]; omega)]; simp [go_sem]
        clear hb1
        go_wp2_with fail
        go_quiet ((go_at_call 45; exact Calls.quiet_of_same (end_any _)))
        go_wp2_with fail
        with_reducible refine (num_any _ a _ (Nat.le_refl _) (by omega) (by omega)).mono ?_
        rintro e w2 ⟨rfl, hb2⟩
        go_wp2_with fail
        go_ret
        exact ⟨HF.out, bel (below_drewN B1 _) hb2⟩
    · have hb1' : (b == 4611686018427387904) = false := by simpa using hb
      have ho : opB a b = false := by simp [opB, hb]
      have HF : Hid (Ending.returned (.string (⟨(Lib.itoa a).toArray⟩ ++ ⟨#[45]⟩ ++ ⟨(Lib.itoa b).toArray⟩ : ByteArray)) = .returned (.string ⟨(textL a b).toArray⟩)) := by unfold Hid; rw [show (⟨#[45]⟩ : ByteArray) = ⟨[45].toArray⟩ from rfl, ba_append, ba_append]; simp [textL, hr, ho]
      clear hb
      go_enter Tryz.func25, Tryz.ntmps25
      go_wp2_with fail
      with_reducible refine (rright_any a b _).mono ?_
      rintro e w1 ⟨rfl, hb1⟩
      have B1 := bel (w := w) (by go_grown) hb1
      have c0 : w1.cell? ⟨w.heap.size, 0, none⟩ = some (.int .i64 a) := by rw [hb1.cell (p := ⟨w.heap.size, 0, none⟩) (by simp only [World.size_alloc]; omega)]; simp [go_sem]
      have c1 : w1.cell? ⟨w.heap.size, 1, none⟩ = some (.int .i64 b) := by rw [hb1.cell (p := ⟨w.heap.size, 1, none⟩) (by simp only [World.size_alloc]; omega)]; simp [go_sem]
      clear hb1
      go_wp2_with fail
      go_quiet ((go_at_call 45; exact Calls.quiet_of_same (end_any _)))
      have k0 := cell_regrown (w := w1.drewN nq) (show (w1.drewN nq).cell? ⟨w.heap.size, 0, none⟩ = some (.int .i64 a) from c0)
      have k1 := cell_regrown (w := w1.drewN nq) (show (w1.drewN nq).cell? ⟨w.heap.size, 1, none⟩ = some (.int .i64 b) from c1)
      have n1 : ¬ 9223372036854775807 < (Lib.itoa a).length + 1 := by omega
      have n2 : ¬ 9223372036854775807 < (Lib.itoa a).length + 1 + (Lib.itoa b).length := by omega
      have q1 := rg (w := w1.drewN nq) (fun W _ => num_any _ a W (Nat.le_refl _) (by omega) (by omega))
      have q2 := rg (w := w1.drewN nq) (fun W _ => num_any _ b W (Nat.le_refl _) (by omega) (by omega))
      have B2 : Below w.heap.size w (w1.drewN nq) := below_drewN B1 _
      clear c0 c1 B1
      go_wp2_with fail
      generalize w1.drewN nq = w2 at *
      refine wp_region_quiet_below (by kernel_rfl) (by kernel_rfl) ?_
      repeat (quiet_step (first | with_reducible exact q1 _ _ | with_reducible exact q2 _ _))
      refine wpQuiet_nil ?_
      intro _ hw'
      obtain ⟨⟨dq, osq⟩, hw''⟩ := hw'
      subst hw''
      go_wp2_with fail
      go_ret
      exact ⟨HF.out, bel B2 (below_regrown _ dq osq)⟩
end Go.Proofs.YthbjhpfgfpkppaaGreatDoor
