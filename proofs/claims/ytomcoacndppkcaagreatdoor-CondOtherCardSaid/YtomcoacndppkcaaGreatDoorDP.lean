/-
  The day of a tick, of the program.
-/
import Derived.Test.YtomcoacndppkcaaGreatDoorDO
import Derived.Deep.LoopGhost
namespace Go.Proofs.YtomcoacndppkcaaGreatDoor.D
open Go Go.RowKit

/-- the memory of the loop over months -/
structure OfAt (w : World) (y m d c k : Int) (wr : World) : Prop where
  ext : Ext w wr
  sz : w.heap.size + 1 + 1 < wr.heap.size
  s0 : wr.cell? ⟨w.heap.size + 1 + 1, 0, none⟩ = some (.int .i64 y)
  s1 : wr.cell? ⟨w.heap.size + 1, 0, none⟩ = some (.int .i64 c)
  s2 : wr.cell? ⟨w.heap.size + 1 + 1, 1, none⟩ = some (.int .i64 m)
  s3 : wr.cell? ⟨w.heap.size + 1 + 1, 2, none⟩ = some (.int .i64 d)
  s4 : wr.cell? ⟨w.heap.size + 1 + 1, 3, none⟩ = some (.int .i64 k)
  t0 : wr.cell? ⟨w.heap.size, 0, none⟩ = some (.int .i64 0)
  t1 : wr.cell? ⟨w.heap.size, 1, none⟩ = some (.int .i64 0)
  t2 : wr.cell? ⟨w.heap.size, 2, none⟩ = some (.int .i64 0)
  t3 : wr.cell? ⟨w.heap.size, 3, none⟩ = some (.int .i64 0)
  u0 : ∀ o, wr.frozen? ⟨w.heap.size + 1, o, none⟩ = false
  u1 : ∀ o, wr.frozen? ⟨w.heap.size + 1 + 1, o, none⟩ = false
  u2 : ∀ o, wr.frozen? ⟨w.heap.size, o, none⟩ = false
theorem OfAt.drew {w wr : World} {y m d c k : Int} (h : OfAt w y m d c k wr) : OfAt w y m d c k wr.drew := by
  obtain ⟨a, b, c0, c1, c2, c3, c4, c5, c6, c7, c8, f0, f1, f2⟩ := h
  exact ⟨a.drew, b, c0, c1, c2, c3, c4, c5, c6, c7, c8, f0, f1, f2⟩
theorem OfAt.drewN {w wr : World} {y m d c k : Int} (h : OfAt w y m d c k wr) (n : Nat) : OfAt w y m d c k (wr.drewN n) := by
  obtain ⟨a, b, c0, c1, c2, c3, c4, c5, c6, c7, c8, f0, f1, f2⟩ := h
  exact ⟨below_drewN a n, b, c0, c1, c2, c3, c4, c5, c6, c7, c8, f0, f1, f2⟩
theorem OfAt.setC {w wr : World} {y m d c k : Int} (h : OfAt w y m d c k wr) (c' : Int) : OfAt w y m d c' k (wr.setCell ⟨w.heap.size + 1, 0, none⟩ (.int .i64 c')) := by
  obtain ⟨a, b, c0, c1, c2, c3, c4, c5, c6, c7, c8, f0, f1, f2⟩ := h
  exact ⟨a.setCell (by show w.heap.size ≤ w.heap.size + 1; omega) _, by go_simp, by go_simp, by go_simp, by go_simp, by go_simp, by go_simp, by go_simp, by go_simp, by go_simp, by go_simp, fun o => by go_simp, fun o => by go_simp, fun o => by go_simp⟩
theorem OfAt.setM {w wr : World} {y m d c k : Int} (h : OfAt w y m d c k wr) (m' : Int) : OfAt w y m' d c k (wr.setCell ⟨w.heap.size + 1 + 1, 1, none⟩ (.int .i64 m')) := by
  obtain ⟨a, b, c0, c1, c2, c3, c4, c5, c6, c7, c8, f0, f1, f2⟩ := h
  exact ⟨a.setCell (by show w.heap.size ≤ w.heap.size + 1 + 1; omega) _, by go_simp, by go_simp, by go_simp, by go_simp, by go_simp, by go_simp, by go_simp, by go_simp, by go_simp, by go_simp, fun o => by go_simp, fun o => by go_simp, fun o => by go_simp⟩
theorem OfAt.setY {w wr : World} {y m d c k : Int} (h : OfAt w y m d c k wr) (y' : Int) : OfAt w y' m d c k (wr.setCell ⟨w.heap.size + 1 + 1, 0, none⟩ (.int .i64 y')) := by
  obtain ⟨a, b, c0, c1, c2, c3, c4, c5, c6, c7, c8, f0, f1, f2⟩ := h
  exact ⟨a.setCell (by show w.heap.size ≤ w.heap.size + 1 + 1; omega) _, by go_simp, by go_simp, by go_simp, by go_simp, by go_simp, by go_simp, by go_simp, by go_simp, by go_simp, by go_simp, fun o => by go_simp, fun o => by go_simp, fun o => by go_simp⟩
theorem OfAt.setD {w wr : World} {y m d c k : Int} (h : OfAt w y m d c k wr) (d' : Int) : OfAt w y m d' c k (wr.setCell ⟨w.heap.size + 1 + 1, 2, none⟩ (.int .i64 d')) := by
  obtain ⟨a, b, c0, c1, c2, c3, c4, c5, c6, c7, c8, f0, f1, f2⟩ := h
  exact ⟨a.setCell (by show w.heap.size ≤ w.heap.size + 1 + 1; omega) _, by go_simp, by go_simp, by go_simp, by go_simp, by go_simp, by go_simp, by go_simp, by go_simp, by go_simp, by go_simp, fun o => by go_simp, fun o => by go_simp, fun o => by go_simp⟩

set_option maxRecDepth 20000 in
set_option maxHeartbeats 4000000 in
theorem of_no (t : Int) (w : World) (h : inT t = false) :
    Calls Tryz.prog 59 #[.int .i64 t] w fun e w' => e = .returned (ofR t) ∧ Below w.heap.size w w' := by
  have HF := Lib.hid (ofR_no h)
  have hI := fun W => isTick_any t W
  rw [h] at hI
  clear h
  go_enter Tryz.func59, Tryz.ntmps59
  go_wp2_with (go_at_call 58; ((with_reducible refine (hI _).mono ?_); rintro e w' ⟨rfl, rfl⟩))
  exact bodyPost_ret (v := .tuple #[.agg #[.int .i64 0, .int .i64 0, .int .i64 0, .int .i64 0], .int .i64 0]) (by simp [results, Tryz.results59, go_sem]) rfl ⟨by rw [HF.out], by go_grown⟩

set_option maxRecDepth 20000 in
set_option maxHeartbeats 4000000 in
theorem of_yes (t : Int) (w : World) (h : inT t = true) (hw : LaidD w) :
    Calls Tryz.prog 59 #[.int .i64 t] w fun e w' => e = .returned (ofR t) ∧ Below w.heap.size w w' := by
  have HF := Lib.hid (ofR_yes h)
  have hI := fun W => isTick_any t W
  rw [h] at hI
  obtain ⟨h0, h9⟩ := inT_iff.1 h
  clear h
  have hD : ∀ W (y j : Int), Ext w W → 1 ≤ j → j ≤ 12 → Calls Tryz.prog 86 #[.int .i64 y, .int .i64 j] W fun e w' => e = .returned (.int .i64 (mdays y j)) ∧ w' = W := fun W y j hW h1 h2 => (days_any y W (hw.below hW) j h1 h2).mono fun _ _ h => ⟨h.1, h.2.symm⟩
  have hA := fun (y : Int) W => ahead_any y W
  clear hw
  have n0 : 0 ≤ t / 86400 := by omega
  have n9 : t / 86400 ≤ 2932896 := by omega
  go_enter Tryz.func59, Tryz.ntmps59
  go_wp2_with (first | (go_at_call 58; ((with_reducible refine (hI _).mono ?_); rintro e w' ⟨rfl, rfl⟩)) | fail)
  obtain ⟨k, hk⟩ : ∃ k, k = (4 + t / 86400) % 7 := ⟨_, rfl⟩
  have HK : Hid (k = (t / 86400 + 4) % 7) := Lib.hid (by omega)
  rw [← hk]
  clear hk
  generalize t / 86400 = n at *
  have b0 : Below w.heap.size w (((w.alloc (.cells #[.int .i64 0, .int .i64 0, .int .i64 0, .int .i64 0] 83)).alloc (.cells #[.int .i64 n] 3)).alloc (.cells #[.int .i64 0, .int .i64 1, .int .i64 0, .int .i64 k] 83)) := by go_grown
  refine (search_any (w.heap.size + 1) n _ n0 n9 (by simp) (by go_simp)).mono ?_
  rintro e w1 ⟨i, rfl, hi, hb1⟩
  obtain ⟨hc, hf⟩ := bcell hb1
  have q0 : w1.cell? ⟨w.heap.size + 1, 0, none⟩ = some (.int .i64 n) := by rw [hc _ _ (by simp only [World.size_alloc]; omega)]; go_simp
  have q1 : w1.cell? ⟨w.heap.size + 1 + 1, 0, none⟩ = some (.int .i64 0) := by rw [hc _ _ (by simp only [World.size_alloc]; omega)]; go_simp
  have q2 : w1.cell? ⟨w.heap.size + 1 + 1, 1, none⟩ = some (.int .i64 1) := by rw [hc _ _ (by simp only [World.size_alloc]; omega)]; go_simp
  have q3 : w1.cell? ⟨w.heap.size + 1 + 1, 2, none⟩ = some (.int .i64 0) := by rw [hc _ _ (by simp only [World.size_alloc]; omega)]; go_simp
  have q4 : w1.cell? ⟨w.heap.size + 1 + 1, 3, none⟩ = some (.int .i64 k) := by rw [hc _ _ (by simp only [World.size_alloc]; omega)]; go_simp
  have r0 : w1.cell? ⟨w.heap.size, 0, none⟩ = some (.int .i64 0) := by rw [hc _ _ (by simp only [World.size_alloc]; omega)]; go_simp
  have r1 : w1.cell? ⟨w.heap.size, 1, none⟩ = some (.int .i64 0) := by rw [hc _ _ (by simp only [World.size_alloc]; omega)]; go_simp
  have r2 : w1.cell? ⟨w.heap.size, 2, none⟩ = some (.int .i64 0) := by rw [hc _ _ (by simp only [World.size_alloc]; omega)]; go_simp
  have r3 : w1.cell? ⟨w.heap.size, 3, none⟩ = some (.int .i64 0) := by rw [hc _ _ (by simp only [World.size_alloc]; omega)]; go_simp
  have f0 : ∀ o, w1.frozen? ⟨w.heap.size + 1, o, none⟩ = false := fun o => by rw [hf _ _ (by simp only [World.size_alloc]; omega)]; go_simp
  have f1 : ∀ o, w1.frozen? ⟨w.heap.size + 1 + 1, o, none⟩ = false := fun o => by rw [hf _ _ (by simp only [World.size_alloc]; omega)]; go_simp
  have f2 : ∀ o, w1.frozen? ⟨w.heap.size, o, none⟩ = false := fun o => by rw [hf _ _ (by simp only [World.size_alloc]; omega)]; go_simp
  have z1 : w.heap.size + 1 + 1 < w1.heap.size := by have := hb1.size; simp at this; omega
  have E1 : Ext w w1 := Ext.tr b0 hb1
  clear hc hf hb1 b0
  have i0 : i ≤ 8029 := by have := yrO_spec n0 n9; unfold yO at hi; omega
  have hab := ahead_bd (y := 1970 + (i : Int)) (by omega) (by omega)
  have hY := yrO_spec n0 n9
  have HY := Lib.hid hi
  have hYa : ahead (1970 + (i : Int)) ≤ n := by rw [hi]; exact hY.1
  have hYb : n ≤ ahead (1970 + (i : Int)) + 366 := by have := ahead_succ (y := 1970 + (i : Int)) (by omega); have := lpI_bd (1970 + (i : Int)); have h := hY.2.1; unfold yO at hi; rw [← hi] at h; omega
  clear hi hY
  go_wp2
  obtain ⟨y, hy⟩ : ∃ y, y = 1970 + (i : Int) := ⟨_, rfl⟩
  rw [← hy] at hab hYa hYb HY ⊢
  have hy1 : 1970 ≤ y := by omega
  have hy2 : y ≤ 9999 := by omega
  clear hy i0
  have D0 : OfAt w 0 1 0 n k w1 := ⟨E1, z1, q1, q0, q2, q3, q4, r0, r1, r2, r3, f0, f1, f2⟩
  have D1 := (D0.setY y).drew
  have E2 := D1.ext
  have s0 := D1.s0
  have s1 := D1.s1
  have u0 := D1.u0
  have hA2 : ∀ W, Calls Tryz.prog 85 #[.int .i64 y] W fun e w' => e = .returned (.int .i64 (ahead y)) ∧ w' = W := fun W => (hA y W (by omega) (by omega)).mono fun _ _ h => ⟨h.1, h.2.symm⟩
  refine still_tail 5 (by kernel_rfl) (by kernel_rfl) _ rfl ?_
  generalize (w1.setCell ⟨w.heap.size + 1 + 1, 0, none⟩ (.int .i64 y)).drew = w2 at *
  clear q0 q1 q2 q3 q4 r0 r1 r2 r3 f0 f1 f2 z1 E1 D0
  simp only [List.take_succ_cons, List.take_zero, List.drop_succ_cons, List.drop_zero]
  repeat (first | still_step | still_call (hA2 _))
  refine wpStill_nil ?_
  have D2 := Lib.hid (D1.setC (n - ahead y))
  clear D1
  go_wp2
  have HL : Hid (lO n = n - ahead y) := Lib.hid (by have := HY.out; unfold yO at this; unfold lO; rw [← this])
  generalize hAy : ahead y = A at *
  have HAy := Lib.hid hAy
  clear hAy hA hA2 hI s0 s1 u0 E2
  go_loopg [] 12 (fun gk wr => ∃ m : Int, 1 ≤ m ∧ m ≤ 12 ∧ (gk : Int) = 13 - m ∧ Hid (cum y m ≤ n - A) ∧ OfAt w y m 0 (n - A - cum y m) k wr)
  case atStart => exact ⟨1, by omega, by omega, by omega, Lib.hid (by rw [cum_1]; omega), by rw [cum_1, Int.sub_zero]; exact D2.out⟩
  case round =>
    obtain ⟨m, m1, m2, hgk, HC, D⟩ := hrel
    have hcb := cum_bd y m m1 m2
    have hmb := mdays_bd y m
    have HS := Lib.hid (cum_succ y m m1 m2)
    have hcl := HC.out
    have hDm : ∀ W, Ext w W → Calls Tryz.prog 86 #[.int .i64 y, .int .i64 m] W fun e w' => e = .returned (.int .i64 (mdays y m)) ∧ w' = W := fun W hW => hD W y m hW m1 m2
    have E := D.ext
    have s0 := D.s0
    have s1 := D.s1
    have s2 := D.s2
    have u0 := D.u0
    have u1 := D.u1
    clear hD D2
    have HD := Lib.hid D
    clear D
    by_cases hd : mdays y m ≤ n - A - cum y m
    · go_wp2
      go_quiet ((go_at_call 86; exact Calls.quiet_of_same (hDm _ (below_drewN E _))))
      go_wp2
      have D3 := (HD.out.drewN nq).drew
      have s0' := D3.s0
      have s1' := D3.s1
      have s2' := D3.s2
      have u0' := D3.u0
      have u1' := D3.u1
      have E' := D3.ext
      have hDn := hDm (wr.drewN nq).drew E'
      have sw : IntKind.i64.wrap (n - A - cum y m - mdays y m) = n - A - cum y m - mdays y m := IntWalk.i64_in _ (by omega)
      refine still_tail 7 (by kernel_rfl) (by kernel_rfl) _ rfl ?_
      generalize (wr.drewN nq).drew = w3 at *
      clear s0 s1 s2 u0 u1 E hDm E'
      simp only [List.take_succ_cons, List.take_zero, List.drop_succ_cons, List.drop_zero]
      repeat (first | still_step | still_call hDn)
      refine wpStill_nil ?_
      have m3 : m < 12 := by
        refine Int.not_le.1 fun h => ?_
        have e : m = 12 := by omega
        have s := HS.out
        rw [e, show (12 : Int) + 1 = 13 by rfl, cum_13] at s
        have := ahead_succ (y := y) (by omega)
        rw [e] at hd
        have := HAy.out
        have hY := yrO_spec n0 n9
        have hy := HY.out
        unfold yO at hy
        rw [← hy] at hY
        omega
      have D4 := Lib.hid ((D3.setC (n - A - cum y m - mdays y m)).setM (m + 1))
      clear D3 hDn HD
      go_wp2
      go_roundg (gk - 1)
      case measure => omega
      case rel => exact ⟨m + 1, by omega, by omega, by omega, Lib.hid (by rw [HS.out]; omega), by rw [HS.out, ← Int.sub_sub]; exact D4.out⟩
    · have hd' : decide (mdays y m ≤ n - A - cum y m) = false := by simpa using hd
      have HM : Hid (mO n = m) := Lib.hid (month_uniq m1 m2 (by rw [← HY.out, HL.out]; omega) (by rw [← HY.out, HL.out, HS.out]; omega) n0 n9)
      have HDd : Hid (dO n = n - A - cum y m + 1) := Lib.hid (by unfold dO; rw [← HY.out, HM.out, HL.out])
      go_wp2
      go_quiet ((go_at_call 86; exact Calls.quiet_of_same (hDm _ (below_drewN E _))))
      have D3 := HD.out.drewN nq
      have s0' := D3.s0
      have s1' := D3.s1
      have s2' := D3.s2
      have s3' := D3.s3
      have s4' := D3.s4
      have t0' := D3.t0
      have t1' := D3.t1
      have t2' := D3.t2
      have t3' := D3.t3
      have u0' := D3.u0
      have u1' := D3.u1
      have u2' := D3.u2
      have z' := D3.sz
      have D4 := D3.setD (n - A - cum y m + 1)
      have E4 := Lib.hid D4.ext
      generalize wr.drewN nq = w3 at *
      clear s0 s1 s2 u0 u1 E hDm HD D3 D4 HS
      go_wp2
      refine bodyPost_ret (v := .tuple #[.agg #[.int .i64 y, .int .i64 m, .int .i64 (n - A - cum y m + 1), .int .i64 k], .int .i64 (t % 86400)]) (by simp only [results, Tryz.results59]; go_simp) rfl ⟨?_, ?_⟩
      · rw [HF.out, HM.out, HDd.out, ← HK.out, show yO n = y from HY.out.symm]
      · exact (((E4.out.setCell (Nat.le_refl _) _).setCell (Nat.le_refl _) _).setCell (Nat.le_refl _) _).setCell (Nat.le_refl _) _
theorem of_any (t : Int) (w : World) (hw : LaidD w) :
    Calls Tryz.prog 59 #[.int .i64 t] w fun e w' => e = .returned (ofR t) ∧ Below w.heap.size w w' := by
  cases h : inT t with
  | true => exact of_yes t w h hw
  | false => exact of_no t w h
end Go.Proofs.YtomcoacndppkcaaGreatDoor.D
