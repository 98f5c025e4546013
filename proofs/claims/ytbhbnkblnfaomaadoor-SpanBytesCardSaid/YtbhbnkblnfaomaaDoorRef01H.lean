/-
  The reference's All by a contract: a row of the call's own, whatever numbers it holds.
-/
import Derived.Lib.Hide
import Derived.WalkSpells
import Derived.Deep.RegionHeld3
import Derived.Deep.AppendLies
import Derived.KernelRfl
import Derived.Test.YtbhbnkblnfaomaaDoorRef01A
namespace Go.Proofs.YtbhbnkblnfaomaaDoor
open Go Go.RowKit

theorem infoI64 : (Tryd.prog.info? 2).map (fun i => (i.zero, i.size, i.bytes)) = some (some (.int .i64 0), 1, 8) := by kernel_rfl
/-- every number fits -/
def Fits (zs : List Int) : Prop := ∀ z ∈ zs, -9223372036854775808 ≤ z ∧ z ≤ 9223372036854775807
/-- what All leaves -/
def AllPost (w w' : World) (e : Ending) : Prop := ∃ (v : Value) (zs : List Int), e = .returned v ∧ w'.ownsRow w.heap.size 2 1 v zs.length (zs.map (Value.int .i64)) ∧ zs.length ≤ 100 ∧ Fits zs ∧ Below w.heap.size w w'

theorem own_ne {w : World} {base e size n b : Nat} {v : Value} {xs : List Value} (h : w.ownsRow base e size v n xs) (hb : b < base) : v.ownBlock ≠ some b := by
  obtain ⟨_, ⟨rfl, _⟩ | ⟨g, cap, cur, rfl, hg, _⟩⟩ := h
  · simp [Value.ownBlock]
  · simp only [Value.ownBlock]; intro q; injection q with q; omega
theorem below_app {w W W1 : World} {o : Obj} {v : Value} {e size n : Nat} {xs : List Value} (hbel : Below w.heap.size w W) (hown : W.ownsRow w.heap.size e size v n xs) (hg : ((W.alloc o).drew).grownBy W1 v.ownBlock) : Below w.heap.size w W1 := by
  have hs := hbel.size
  refine ((hbel.alloc hs o).drew).grown hg (by simp; omega) ?_
  intro k hk
  obtain ⟨_, ⟨rfl, _⟩ | ⟨g, cap, cur, rfl, hge, _⟩⟩ := hown
  · simp [Value.ownBlock] at hk
  · simp only [Value.ownBlock] at hk; injection hk with hk; omega
theorem cell_at {w W : World} {lb k : Nat} {x : Value} (hlb : lb < w.heap.size) (hb : Below w.heap.size w W) (h : w.cell? ⟨lb, k, none⟩ = some x) : W.cell? ⟨lb, k, none⟩ = some x := by
  rw [hb.cell (p := ⟨lb, k, none⟩) hlb]; exact h
theorem drewN_own {w : World} {base e size n q : Nat} {v : Value} {xs : List Value} (h : w.ownsRow base e size v n xs) : (w.drewN q).ownsRow base e size v n xs := h
theorem end_left (w : World) : Calls Tryd.prog 35 #[] w fun e w' => e = .returned (.int .i64 4611686018427387904) ∧ w = w' :=
  (end_any w).mono fun _ _ ⟨he, hw⟩ => ⟨he, hw.symm⟩

set_option maxHeartbeats 8000000 in
set_option maxRecDepth 100000 in
theorem rall_any (lb : Nat) (a b c d : Int) (w : World) (hlb : lb < w.heap.size)
    (h0 : w.cell? ⟨lb, 0, none⟩ = some (.int .i64 a)) (h1 : w.cell? ⟨lb, 1, none⟩ = some (.int .i64 b)) (h2 : w.cell? ⟨lb, 2, none⟩ = some (.int .i64 c)) (h3 : w.cell? ⟨lb, 3, none⟩ = some (.int .i64 d))
    (ba : -9223372036854775808 ≤ a ∧ a ≤ 9223372036854775807) (bb : -9223372036854775808 ≤ b ∧ b ≤ 9223372036854775807) (bc : -9223372036854775808 ≤ c ∧ c ≤ 9223372036854775807) (bd : -9223372036854775808 ≤ d ∧ d ≤ 9223372036854775807) :
    Calls Tryd.prog 34 #[.slice (some ⟨lb, 0, none⟩) 2 2] w fun e w' => AllPost w w' e := by
  obtain ⟨i0, hi, hz0, hz1, hz2⟩ := info_parts infoI64
  have H0 := Lib.hid h0; have H1 := Lib.hid h1; have H2 := Lib.hid h2; have H3 := Lib.hid h3
  clear h0 h1 h2 h3
  go_enter Tryd.func34, Tryd.ntmps34
  go_wp2_with (go_at_call 35; refine (end_left _).mono ?_; rintro e w2 ⟨rfl, rfl⟩)
  go_loopw [3, 4] (fun v i wr => ∃ (k : Nat) (zs : List Int), k ≤ 2 ∧ i = .int .i64 k ∧ wr.ownsRow w.heap.size 2 1 v zs.length (zs.map (Value.int .i64)) ∧ zs.length ≤ 3 + 6 * k ∧ Hid (Fits zs) ∧ Below w.heap.size w wr) (fun _ i _ => 2 - (intOf i).toNat)
  case atStart =>
    refine ⟨0, [0, 1, 4611686018427387903], by omega, rfl, ⟨rfl, .inr ⟨w.heap.size, 3, #[.int .i64 0, .int .i64 1, .int .i64 4611686018427387903], rfl, Nat.le_refl _, ?_, by decide, by decide, rfl, rfl⟩⟩, by decide, ?_, by go_grown⟩
    · show (w.heap.push _)[w.heap.size]? = _; simp
    · intro z hz; simp at hz; rcases hz with rfl | rfl | rfl <;> omega
  case round =>
    obtain ⟨k, zs, hk, rfl, hown, hlen, HF, hbel⟩ := hrel
    by_cases hlt : k < 2
    · --ROUND
      by_cases hk0 : k = 0
      · subst hk0
        have x0 := cell_at hlb hbel H0.out
        have x1 := cell_at hlb hbel H1.out
        have hB := hbel.size
        have ag := own_ne hown hlb
        go_wp2_with fail
        go_region_held3 (fun w' => w'.cell? ⟨lb, 0, none⟩ = some (.int .i64 a) ∧ w'.cell? ⟨lb, 1, none⟩ = some (.int .i64 b))
          (first
            | go_keep
            | (go_split_ands
               refine ⟨?_, ?_⟩
               · (rw [hgrow.cell_far _ (by simp; omega) (Ne.symm ag)]; assumption)
               · (rw [hgrow.cell_far _ (by simp; omega) (Ne.symm ag)]; assumption)))
          ((refine step_append_lies _ (by rfl) _ _ _ (by rfl) w.heap.size 2 i0 _ 1 8 Tryd.underlying39 hi hz0 hz1 hz2 rfl (by omega) _ zs.length (zs.map (Value.int .i64)) (by rfl) ((hown.alloc _).drew)
              ⟨wr.heap.size, 0, none⟩ 2 2 [.int .i64 a, .int .i64 b] (by rfl) (by rfl) (World.news_of_block (cs := #[.int .i64 a, .int .i64 b]) (t := 2) (fr := (0, 0)) (heap_alloc_new wr _)) (by simp [Value.oneCell'])
              (by omega) (by unfold maxLen; omega) (by omega) (by simp; omega) (wr.heap.size + 1) (by simp) ?_; intro g1 cap1 w1 hown1 hgrow hat hltw))
        have B1 := below_app hbel hown hgrow
        clear hgrow hat hltw hown x0 x1 hB ag hbel
        by_cases cX : -9 < a
        · by_cases oX : a < 4611686018427387904
          · have x0 := cell_at hlb B1 H0.out
            have x1 := cell_at hlb B1 H1.out
            go_wp2_with fail
            go_quiet ((go_at_call 35; exact Calls.quiet_of_same (end_any _)))
            have hown1q := drewN_own (q := nq) hown1
            have B1q := below_drewN B1 nq
            clear hown1 B1 x0 x1
            generalize w1.drewN nq = q1 at *
            have x0 := cell_at hlb B1q H0.out
            have x1 := cell_at hlb B1q H1.out
            have hB := B1q.size
            have ag := own_ne hown1q hlb
            go_wp2_with fail
            go_region_held3 (fun w' => w'.cell? ⟨lb, 0, none⟩ = some (.int .i64 a) ∧ w'.cell? ⟨lb, 1, none⟩ = some (.int .i64 b))
              (first
                | go_keep
                | (go_split_ands
                   refine ⟨?_, ?_⟩
                   · (rw [hgrow.cell_far _ (by simp; omega) (Ne.symm ag)]; assumption)
                   · (rw [hgrow.cell_far _ (by simp; omega) (Ne.symm ag)]; assumption)))
              ((refine step_append_lies _ (by rfl) _ _ _ (by rfl) w.heap.size 2 i0 _ 1 8 Tryd.underlying39 hi hz0 hz1 hz2 rfl (by omega) _ (zs.length + 2) (zs.map (Value.int .i64) ++ [.int .i64 a, .int .i64 b]) (by rfl) ((hown1q.alloc _).drew)
                  ⟨q1.heap.size, 0, none⟩ 2 2 [.int .i64 (IntKind.i64.wrap (a - 1)), .int .i64 (IntKind.i64.wrap (a + 1))] (by rfl) (by rfl) (World.news_of_block (cs := #[.int .i64 (IntKind.i64.wrap (a - 1)), .int .i64 (IntKind.i64.wrap (a + 1))]) (t := 2) (fr := (0, 0)) (heap_alloc_new q1 _)) (by simp [Value.oneCell'])
                  (by omega) (by unfold maxLen; omega) (by omega) (by simp; omega) (q1.heap.size + 1) (by simp) ?_; intro g2 cap2 w2 hown2 hgrow hat hltw))
            have B2 := below_app B1q hown1q hgrow
            clear hgrow hat hltw hown1q x0 x1 hB ag B1q
            by_cases cY : -9 < b
            · by_cases oY : b < 4611686018427387904
              · have x0 := cell_at hlb B2 H0.out
                have x1 := cell_at hlb B2 H1.out
                go_wp2_with fail
                go_quiet ((go_at_call 35; exact Calls.quiet_of_same (end_any _)))
                have hown2q := drewN_own (q := nq) hown2
                have B2q := below_drewN B2 nq
                clear hown2 B2 x0 x1
                generalize w2.drewN nq = q2 at *
                have x0 := cell_at hlb B2q H0.out
                have x1 := cell_at hlb B2q H1.out
                have hB := B2q.size
                have ag := own_ne hown2q hlb
                go_wp2_with fail
                go_region_held3 (fun w' => w'.cell? ⟨lb, 0, none⟩ = some (.int .i64 a) ∧ w'.cell? ⟨lb, 1, none⟩ = some (.int .i64 b))
                  (first
                    | go_keep
                    | (go_split_ands
                       refine ⟨?_, ?_⟩
                       · (rw [hgrow.cell_far _ (by simp; omega) (Ne.symm ag)]; assumption)
                       · (rw [hgrow.cell_far _ (by simp; omega) (Ne.symm ag)]; assumption)))
                  ((refine step_append_lies _ (by rfl) _ _ _ (by rfl) w.heap.size 2 i0 _ 1 8 Tryd.underlying39 hi hz0 hz1 hz2 rfl (by omega) _ ((zs.length + 2) + 2) ((zs.map (Value.int .i64) ++ [.int .i64 a, .int .i64 b]) ++ [.int .i64 (IntKind.i64.wrap (a - 1)), .int .i64 (IntKind.i64.wrap (a + 1))]) (by rfl) ((hown2q.alloc _).drew)
                      ⟨q2.heap.size, 0, none⟩ 2 2 [.int .i64 (IntKind.i64.wrap (b - 1)), .int .i64 (IntKind.i64.wrap (b + 1))] (by rfl) (by rfl) (World.news_of_block (cs := #[.int .i64 (IntKind.i64.wrap (b - 1)), .int .i64 (IntKind.i64.wrap (b + 1))]) (t := 2) (fr := (0, 0)) (heap_alloc_new q2 _)) (by simp [Value.oneCell'])
                      (by omega) (by unfold maxLen; omega) (by omega) (by simp; omega) (q2.heap.size + 1) (by simp) ?_; intro g3 cap3 w3 hown3 hgrow hat hltw))
                have B3 := below_app B2q hown2q hgrow
                clear hgrow hat hltw hown2q x0 x1 hB ag B2q
                have HY := Lib.hid (show w3.ownsRow w.heap.size 2 1 (.slice (some ⟨g3, 0, none⟩) (((zs.length + 2) + 2) + 2) cap3) (zs ++ [a, b, a - 1, a + 1, b - 1, b + 1]).length ((zs ++ [a, b, a - 1, a + 1, b - 1, b + 1]).map (Value.int .i64)) from by simpa [show IntKind.i64.wrap (a - 1) = a - 1 from IntWalk.i64_in _ (by omega), show IntKind.i64.wrap (a + 1) = a + 1 from IntWalk.i64_in _ (by omega), show IntKind.i64.wrap (b - 1) = b - 1 from IntWalk.i64_in _ (by omega), show IntKind.i64.wrap (b + 1) = b + 1 from IntWalk.i64_in _ (by omega)] using hown3)
                have HFY : Hid (Fits (zs ++ [a, b, a - 1, a + 1, b - 1, b + 1])) := by unfold Hid; have hf := HF.out; intro z hz; rcases List.mem_append.1 hz with hz | hz; exact hf z hz; (simp only [List.mem_cons, List.not_mem_nil, or_false] at hz; omega)
                go_wp2_with fail
                go_roundw
                case rel => exact ⟨0 + 1, zs ++ [a, b, a - 1, a + 1, b - 1, b + 1], by omega, by go_num, HY.out, by simp; omega, HFY, B3⟩
                case measure => simp [intOf]
              · have x0 := cell_at hlb B2 H0.out
                have x1 := cell_at hlb B2 H1.out
                go_wp2_with fail
                go_quiet ((go_at_call 35; exact Calls.quiet_of_same (end_any _)))
                have hown2q := drewN_own (q := nq) hown2
                have B2q := below_drewN B2 nq
                clear hown2 B2 x0 x1
                generalize w2.drewN nq = q2 at *
                have HY := Lib.hid (show q2.ownsRow w.heap.size 2 1 (.slice (some ⟨g2, 0, none⟩) ((zs.length + 2) + 2) cap2) (zs ++ [a, b, a - 1, a + 1]).length ((zs ++ [a, b, a - 1, a + 1]).map (Value.int .i64)) from by simpa [show IntKind.i64.wrap (a - 1) = a - 1 from IntWalk.i64_in _ (by omega), show IntKind.i64.wrap (a + 1) = a + 1 from IntWalk.i64_in _ (by omega)] using hown2q)
                have HFY : Hid (Fits (zs ++ [a, b, a - 1, a + 1])) := by unfold Hid; have hf := HF.out; intro z hz; rcases List.mem_append.1 hz with hz | hz; exact hf z hz; (simp only [List.mem_cons, List.not_mem_nil, or_false] at hz; omega)
                go_wp2_with fail
                go_roundw
                case rel => exact ⟨0 + 1, zs ++ [a, b, a - 1, a + 1], by omega, by go_num, HY.out, by simp; omega, HFY, B2q⟩
                case measure => simp [intOf]
            · have cY' : decide (-9 < b) = false := by simpa using cY
              have x0 := cell_at hlb B2 H0.out
              have x1 := cell_at hlb B2 H1.out
              go_wp2_with fail
              go_quiet ((go_at_call 35; exact Calls.quiet_of_same (end_any _)))
              have hown2q := drewN_own (q := nq) hown2
              have B2q := below_drewN B2 nq
              clear hown2 B2 x0 x1
              generalize w2.drewN nq = q2 at *
              have HY := Lib.hid (show q2.ownsRow w.heap.size 2 1 (.slice (some ⟨g2, 0, none⟩) ((zs.length + 2) + 2) cap2) (zs ++ [a, b, a - 1, a + 1]).length ((zs ++ [a, b, a - 1, a + 1]).map (Value.int .i64)) from by simpa [show IntKind.i64.wrap (a - 1) = a - 1 from IntWalk.i64_in _ (by omega), show IntKind.i64.wrap (a + 1) = a + 1 from IntWalk.i64_in _ (by omega)] using hown2q)
              have HFY : Hid (Fits (zs ++ [a, b, a - 1, a + 1])) := by unfold Hid; have hf := HF.out; intro z hz; rcases List.mem_append.1 hz with hz | hz; exact hf z hz; (simp only [List.mem_cons, List.not_mem_nil, or_false] at hz; omega)
              go_wp2_with fail
              go_roundw
              case rel => exact ⟨0 + 1, zs ++ [a, b, a - 1, a + 1], by omega, by go_num, HY.out, by simp; omega, HFY, B2q⟩
              case measure => simp [intOf]
          · have x0 := cell_at hlb B1 H0.out
            have x1 := cell_at hlb B1 H1.out
            go_wp2_with fail
            go_quiet ((go_at_call 35; exact Calls.quiet_of_same (end_any _)))
            have hown1q := drewN_own (q := nq) hown1
            have B1q := below_drewN B1 nq
            clear hown1 B1 x0 x1
            generalize w1.drewN nq = q1 at *
            by_cases cY : -9 < b
            · by_cases oY : b < 4611686018427387904
              · have x0 := cell_at hlb B1q H0.out
                have x1 := cell_at hlb B1q H1.out
                go_wp2_with fail
                go_quiet ((go_at_call 35; exact Calls.quiet_of_same (end_any _)))
                have hown1qq := drewN_own (q := nq) hown1q
                have B1qq := below_drewN B1q nq
                clear hown1q B1q x0 x1
                generalize q1.drewN nq = q1 at *
                have x0 := cell_at hlb B1qq H0.out
                have x1 := cell_at hlb B1qq H1.out
                have hB := B1qq.size
                have ag := own_ne hown1qq hlb
                go_wp2_with fail
                go_region_held3 (fun w' => w'.cell? ⟨lb, 0, none⟩ = some (.int .i64 a) ∧ w'.cell? ⟨lb, 1, none⟩ = some (.int .i64 b))
                  (first
                    | go_keep
                    | (go_split_ands
                       refine ⟨?_, ?_⟩
                       · (rw [hgrow.cell_far _ (by simp; omega) (Ne.symm ag)]; assumption)
                       · (rw [hgrow.cell_far _ (by simp; omega) (Ne.symm ag)]; assumption)))
                  ((refine step_append_lies _ (by rfl) _ _ _ (by rfl) w.heap.size 2 i0 _ 1 8 Tryd.underlying39 hi hz0 hz1 hz2 rfl (by omega) _ (zs.length + 2) (zs.map (Value.int .i64) ++ [.int .i64 a, .int .i64 b]) (by rfl) ((hown1qq.alloc _).drew)
                      ⟨q1.heap.size, 0, none⟩ 2 2 [.int .i64 (IntKind.i64.wrap (b - 1)), .int .i64 (IntKind.i64.wrap (b + 1))] (by rfl) (by rfl) (World.news_of_block (cs := #[.int .i64 (IntKind.i64.wrap (b - 1)), .int .i64 (IntKind.i64.wrap (b + 1))]) (t := 2) (fr := (0, 0)) (heap_alloc_new q1 _)) (by simp [Value.oneCell'])
                      (by omega) (by unfold maxLen; omega) (by omega) (by simp; omega) (q1.heap.size + 1) (by simp) ?_; intro g2 cap2 w2 hown2 hgrow hat hltw))
                have B2 := below_app B1qq hown1qq hgrow
                clear hgrow hat hltw hown1qq x0 x1 hB ag B1qq
                have HY := Lib.hid (show w2.ownsRow w.heap.size 2 1 (.slice (some ⟨g2, 0, none⟩) ((zs.length + 2) + 2) cap2) (zs ++ [a, b, b - 1, b + 1]).length ((zs ++ [a, b, b - 1, b + 1]).map (Value.int .i64)) from by simpa [show IntKind.i64.wrap (b - 1) = b - 1 from IntWalk.i64_in _ (by omega), show IntKind.i64.wrap (b + 1) = b + 1 from IntWalk.i64_in _ (by omega)] using hown2)
                have HFY : Hid (Fits (zs ++ [a, b, b - 1, b + 1])) := by unfold Hid; have hf := HF.out; intro z hz; rcases List.mem_append.1 hz with hz | hz; exact hf z hz; (simp only [List.mem_cons, List.not_mem_nil, or_false] at hz; omega)
                go_wp2_with fail
                go_roundw
                case rel => exact ⟨0 + 1, zs ++ [a, b, b - 1, b + 1], by omega, by go_num, HY.out, by simp; omega, HFY, B2⟩
                case measure => simp [intOf]
              · have x0 := cell_at hlb B1q H0.out
                have x1 := cell_at hlb B1q H1.out
                go_wp2_with fail
                go_quiet ((go_at_call 35; exact Calls.quiet_of_same (end_any _)))
                have hown1qq := drewN_own (q := nq) hown1q
                have B1qq := below_drewN B1q nq
                clear hown1q B1q x0 x1
                generalize q1.drewN nq = q1 at *
                have HY := Lib.hid (show q1.ownsRow w.heap.size 2 1 (.slice (some ⟨g1, 0, none⟩) (zs.length + 2) cap1) (zs ++ [a, b]).length ((zs ++ [a, b]).map (Value.int .i64)) from by simpa using hown1qq)
                have HFY : Hid (Fits (zs ++ [a, b])) := by unfold Hid; have hf := HF.out; intro z hz; rcases List.mem_append.1 hz with hz | hz; exact hf z hz; (simp only [List.mem_cons, List.not_mem_nil, or_false] at hz; omega)
                go_wp2_with fail
                go_roundw
                case rel => exact ⟨0 + 1, zs ++ [a, b], by omega, by go_num, HY.out, by simp; omega, HFY, B1qq⟩
                case measure => simp [intOf]
            · have cY' : decide (-9 < b) = false := by simpa using cY
              have x0 := cell_at hlb B1q H0.out
              have x1 := cell_at hlb B1q H1.out
              go_wp2_with fail
              go_quiet ((go_at_call 35; exact Calls.quiet_of_same (end_any _)))
              have hown1qq := drewN_own (q := nq) hown1q
              have B1qq := below_drewN B1q nq
              clear hown1q B1q x0 x1
              generalize q1.drewN nq = q1 at *
              have HY := Lib.hid (show q1.ownsRow w.heap.size 2 1 (.slice (some ⟨g1, 0, none⟩) (zs.length + 2) cap1) (zs ++ [a, b]).length ((zs ++ [a, b]).map (Value.int .i64)) from by simpa using hown1qq)
              have HFY : Hid (Fits (zs ++ [a, b])) := by unfold Hid; have hf := HF.out; intro z hz; rcases List.mem_append.1 hz with hz | hz; exact hf z hz; (simp only [List.mem_cons, List.not_mem_nil, or_false] at hz; omega)
              go_wp2_with fail
              go_roundw
              case rel => exact ⟨0 + 1, zs ++ [a, b], by omega, by go_num, HY.out, by simp; omega, HFY, B1qq⟩
              case measure => simp [intOf]
        · have cX' : decide (-9 < a) = false := by simpa using cX
          have x0 := cell_at hlb B1 H0.out
          have x1 := cell_at hlb B1 H1.out
          go_wp2_with fail
          go_quiet ((go_at_call 35; exact Calls.quiet_of_same (end_any _)))
          have hown1q := drewN_own (q := nq) hown1
          have B1q := below_drewN B1 nq
          clear hown1 B1 x0 x1
          generalize w1.drewN nq = q1 at *
          by_cases cY : -9 < b
          · by_cases oY : b < 4611686018427387904
            · have x0 := cell_at hlb B1q H0.out
              have x1 := cell_at hlb B1q H1.out
              go_wp2_with fail
              go_quiet ((go_at_call 35; exact Calls.quiet_of_same (end_any _)))
              have hown1qq := drewN_own (q := nq) hown1q
              have B1qq := below_drewN B1q nq
              clear hown1q B1q x0 x1
              generalize q1.drewN nq = q1 at *
              have x0 := cell_at hlb B1qq H0.out
              have x1 := cell_at hlb B1qq H1.out
              have hB := B1qq.size
              have ag := own_ne hown1qq hlb
              go_wp2_with fail
              go_region_held3 (fun w' => w'.cell? ⟨lb, 0, none⟩ = some (.int .i64 a) ∧ w'.cell? ⟨lb, 1, none⟩ = some (.int .i64 b))
                (first
                  | go_keep
                  | (go_split_ands
                     refine ⟨?_, ?_⟩
                     · (rw [hgrow.cell_far _ (by simp; omega) (Ne.symm ag)]; assumption)
                     · (rw [hgrow.cell_far _ (by simp; omega) (Ne.symm ag)]; assumption)))
                ((refine step_append_lies _ (by rfl) _ _ _ (by rfl) w.heap.size 2 i0 _ 1 8 Tryd.underlying39 hi hz0 hz1 hz2 rfl (by omega) _ (zs.length + 2) (zs.map (Value.int .i64) ++ [.int .i64 a, .int .i64 b]) (by rfl) ((hown1qq.alloc _).drew)
                    ⟨q1.heap.size, 0, none⟩ 2 2 [.int .i64 (IntKind.i64.wrap (b - 1)), .int .i64 (IntKind.i64.wrap (b + 1))] (by rfl) (by rfl) (World.news_of_block (cs := #[.int .i64 (IntKind.i64.wrap (b - 1)), .int .i64 (IntKind.i64.wrap (b + 1))]) (t := 2) (fr := (0, 0)) (heap_alloc_new q1 _)) (by simp [Value.oneCell'])
                    (by omega) (by unfold maxLen; omega) (by omega) (by simp; omega) (q1.heap.size + 1) (by simp) ?_; intro g2 cap2 w2 hown2 hgrow hat hltw))
              have B2 := below_app B1qq hown1qq hgrow
              clear hgrow hat hltw hown1qq x0 x1 hB ag B1qq
              have HY := Lib.hid (show w2.ownsRow w.heap.size 2 1 (.slice (some ⟨g2, 0, none⟩) ((zs.length + 2) + 2) cap2) (zs ++ [a, b, b - 1, b + 1]).length ((zs ++ [a, b, b - 1, b + 1]).map (Value.int .i64)) from by simpa [show IntKind.i64.wrap (b - 1) = b - 1 from IntWalk.i64_in _ (by omega), show IntKind.i64.wrap (b + 1) = b + 1 from IntWalk.i64_in _ (by omega)] using hown2)
              have HFY : Hid (Fits (zs ++ [a, b, b - 1, b + 1])) := by unfold Hid; have hf := HF.out; intro z hz; rcases List.mem_append.1 hz with hz | hz; exact hf z hz; (simp only [List.mem_cons, List.not_mem_nil, or_false] at hz; omega)
              go_wp2_with fail
              go_roundw
              case rel => exact ⟨0 + 1, zs ++ [a, b, b - 1, b + 1], by omega, by go_num, HY.out, by simp; omega, HFY, B2⟩
              case measure => simp [intOf]
            · have x0 := cell_at hlb B1q H0.out
              have x1 := cell_at hlb B1q H1.out
              go_wp2_with fail
              go_quiet ((go_at_call 35; exact Calls.quiet_of_same (end_any _)))
              have hown1qq := drewN_own (q := nq) hown1q
              have B1qq := below_drewN B1q nq
              clear hown1q B1q x0 x1
              generalize q1.drewN nq = q1 at *
              have HY := Lib.hid (show q1.ownsRow w.heap.size 2 1 (.slice (some ⟨g1, 0, none⟩) (zs.length + 2) cap1) (zs ++ [a, b]).length ((zs ++ [a, b]).map (Value.int .i64)) from by simpa using hown1qq)
              have HFY : Hid (Fits (zs ++ [a, b])) := by unfold Hid; have hf := HF.out; intro z hz; rcases List.mem_append.1 hz with hz | hz; exact hf z hz; (simp only [List.mem_cons, List.not_mem_nil, or_false] at hz; omega)
              go_wp2_with fail
              go_roundw
              case rel => exact ⟨0 + 1, zs ++ [a, b], by omega, by go_num, HY.out, by simp; omega, HFY, B1qq⟩
              case measure => simp [intOf]
          · have cY' : decide (-9 < b) = false := by simpa using cY
            have x0 := cell_at hlb B1q H0.out
            have x1 := cell_at hlb B1q H1.out
            go_wp2_with fail
            go_quiet ((go_at_call 35; exact Calls.quiet_of_same (end_any _)))
            have hown1qq := drewN_own (q := nq) hown1q
            have B1qq := below_drewN B1q nq
            clear hown1q B1q x0 x1
            generalize q1.drewN nq = q1 at *
            have HY := Lib.hid (show q1.ownsRow w.heap.size 2 1 (.slice (some ⟨g1, 0, none⟩) (zs.length + 2) cap1) (zs ++ [a, b]).length ((zs ++ [a, b]).map (Value.int .i64)) from by simpa using hown1qq)
            have HFY : Hid (Fits (zs ++ [a, b])) := by unfold Hid; have hf := HF.out; intro z hz; rcases List.mem_append.1 hz with hz | hz; exact hf z hz; (simp only [List.mem_cons, List.not_mem_nil, or_false] at hz; omega)
            go_wp2_with fail
            go_roundw
            case rel => exact ⟨0 + 1, zs ++ [a, b], by omega, by go_num, HY.out, by simp; omega, HFY, B1qq⟩
            case measure => simp [intOf]
      · obtain rfl : k = 1 := by omega
        have x0 := cell_at hlb hbel H2.out
        have x1 := cell_at hlb hbel H3.out
        have hB := hbel.size
        have ag := own_ne hown hlb
        go_wp2_with fail
        go_region_held3 (fun w' => w'.cell? ⟨lb, 2, none⟩ = some (.int .i64 c) ∧ w'.cell? ⟨lb, 3, none⟩ = some (.int .i64 d))
          (first
            | go_keep
            | (go_split_ands
               refine ⟨?_, ?_⟩
               · (rw [hgrow.cell_far _ (by simp; omega) (Ne.symm ag)]; assumption)
               · (rw [hgrow.cell_far _ (by simp; omega) (Ne.symm ag)]; assumption)))
          ((refine step_append_lies _ (by rfl) _ _ _ (by rfl) w.heap.size 2 i0 _ 1 8 Tryd.underlying39 hi hz0 hz1 hz2 rfl (by omega) _ zs.length (zs.map (Value.int .i64)) (by rfl) ((hown.alloc _).drew)
              ⟨wr.heap.size, 0, none⟩ 2 2 [.int .i64 c, .int .i64 d] (by rfl) (by rfl) (World.news_of_block (cs := #[.int .i64 c, .int .i64 d]) (t := 2) (fr := (0, 0)) (heap_alloc_new wr _)) (by simp [Value.oneCell'])
              (by omega) (by unfold maxLen; omega) (by omega) (by simp; omega) (wr.heap.size + 1) (by simp) ?_; intro g1 cap1 w1 hown1 hgrow hat hltw))
        have B1 := below_app hbel hown hgrow
        clear hgrow hat hltw hown x0 x1 hB ag hbel
        by_cases cX : -9 < c
        · by_cases oX : c < 4611686018427387904
          · have x0 := cell_at hlb B1 H2.out
            have x1 := cell_at hlb B1 H3.out
            go_wp2_with fail
            go_quiet ((go_at_call 35; exact Calls.quiet_of_same (end_any _)))
            have hown1q := drewN_own (q := nq) hown1
            have B1q := below_drewN B1 nq
            clear hown1 B1 x0 x1
            generalize w1.drewN nq = q1 at *
            have x0 := cell_at hlb B1q H2.out
            have x1 := cell_at hlb B1q H3.out
            have hB := B1q.size
            have ag := own_ne hown1q hlb
            go_wp2_with fail
            go_region_held3 (fun w' => w'.cell? ⟨lb, 2, none⟩ = some (.int .i64 c) ∧ w'.cell? ⟨lb, 3, none⟩ = some (.int .i64 d))
              (first
                | go_keep
                | (go_split_ands
                   refine ⟨?_, ?_⟩
                   · (rw [hgrow.cell_far _ (by simp; omega) (Ne.symm ag)]; assumption)
                   · (rw [hgrow.cell_far _ (by simp; omega) (Ne.symm ag)]; assumption)))
              ((refine step_append_lies _ (by rfl) _ _ _ (by rfl) w.heap.size 2 i0 _ 1 8 Tryd.underlying39 hi hz0 hz1 hz2 rfl (by omega) _ (zs.length + 2) (zs.map (Value.int .i64) ++ [.int .i64 c, .int .i64 d]) (by rfl) ((hown1q.alloc _).drew)
                  ⟨q1.heap.size, 0, none⟩ 2 2 [.int .i64 (IntKind.i64.wrap (c - 1)), .int .i64 (IntKind.i64.wrap (c + 1))] (by rfl) (by rfl) (World.news_of_block (cs := #[.int .i64 (IntKind.i64.wrap (c - 1)), .int .i64 (IntKind.i64.wrap (c + 1))]) (t := 2) (fr := (0, 0)) (heap_alloc_new q1 _)) (by simp [Value.oneCell'])
                  (by omega) (by unfold maxLen; omega) (by omega) (by simp; omega) (q1.heap.size + 1) (by simp) ?_; intro g2 cap2 w2 hown2 hgrow hat hltw))
            have B2 := below_app B1q hown1q hgrow
            clear hgrow hat hltw hown1q x0 x1 hB ag B1q
            by_cases cY : -9 < d
            · by_cases oY : d < 4611686018427387904
              · have x0 := cell_at hlb B2 H2.out
                have x1 := cell_at hlb B2 H3.out
                go_wp2_with fail
                go_quiet ((go_at_call 35; exact Calls.quiet_of_same (end_any _)))
                have hown2q := drewN_own (q := nq) hown2
                have B2q := below_drewN B2 nq
                clear hown2 B2 x0 x1
                generalize w2.drewN nq = q2 at *
                have x0 := cell_at hlb B2q H2.out
                have x1 := cell_at hlb B2q H3.out
                have hB := B2q.size
                have ag := own_ne hown2q hlb
                go_wp2_with fail
                go_region_held3 (fun w' => w'.cell? ⟨lb, 2, none⟩ = some (.int .i64 c) ∧ w'.cell? ⟨lb, 3, none⟩ = some (.int .i64 d))
                  (first
                    | go_keep
                    | (go_split_ands
                       refine ⟨?_, ?_⟩
                       · (rw [hgrow.cell_far _ (by simp; omega) (Ne.symm ag)]; assumption)
                       · (rw [hgrow.cell_far _ (by simp; omega) (Ne.symm ag)]; assumption)))
                  ((refine step_append_lies _ (by rfl) _ _ _ (by rfl) w.heap.size 2 i0 _ 1 8 Tryd.underlying39 hi hz0 hz1 hz2 rfl (by omega) _ ((zs.length + 2) + 2) ((zs.map (Value.int .i64) ++ [.int .i64 c, .int .i64 d]) ++ [.int .i64 (IntKind.i64.wrap (c - 1)), .int .i64 (IntKind.i64.wrap (c + 1))]) (by rfl) ((hown2q.alloc _).drew)
                      ⟨q2.heap.size, 0, none⟩ 2 2 [.int .i64 (IntKind.i64.wrap (d - 1)), .int .i64 (IntKind.i64.wrap (d + 1))] (by rfl) (by rfl) (World.news_of_block (cs := #[.int .i64 (IntKind.i64.wrap (d - 1)), .int .i64 (IntKind.i64.wrap (d + 1))]) (t := 2) (fr := (0, 0)) (heap_alloc_new q2 _)) (by simp [Value.oneCell'])
                      (by omega) (by unfold maxLen; omega) (by omega) (by simp; omega) (q2.heap.size + 1) (by simp) ?_; intro g3 cap3 w3 hown3 hgrow hat hltw))
                have B3 := below_app B2q hown2q hgrow
                clear hgrow hat hltw hown2q x0 x1 hB ag B2q
                have HY := Lib.hid (show w3.ownsRow w.heap.size 2 1 (.slice (some ⟨g3, 0, none⟩) (((zs.length + 2) + 2) + 2) cap3) (zs ++ [c, d, c - 1, c + 1, d - 1, d + 1]).length ((zs ++ [c, d, c - 1, c + 1, d - 1, d + 1]).map (Value.int .i64)) from by simpa [show IntKind.i64.wrap (c - 1) = c - 1 from IntWalk.i64_in _ (by omega), show IntKind.i64.wrap (c + 1) = c + 1 from IntWalk.i64_in _ (by omega), show IntKind.i64.wrap (d - 1) = d - 1 from IntWalk.i64_in _ (by omega), show IntKind.i64.wrap (d + 1) = d + 1 from IntWalk.i64_in _ (by omega)] using hown3)
                have HFY : Hid (Fits (zs ++ [c, d, c - 1, c + 1, d - 1, d + 1])) := by unfold Hid; have hf := HF.out; intro z hz; rcases List.mem_append.1 hz with hz | hz; exact hf z hz; (simp only [List.mem_cons, List.not_mem_nil, or_false] at hz; omega)
                go_wp2_with fail
                go_roundw
                case rel => exact ⟨1 + 1, zs ++ [c, d, c - 1, c + 1, d - 1, d + 1], by omega, by go_num, HY.out, by simp; omega, HFY, B3⟩
                case measure => simp [intOf]
              · have x0 := cell_at hlb B2 H2.out
                have x1 := cell_at hlb B2 H3.out
                go_wp2_with fail
                go_quiet ((go_at_call 35; exact Calls.quiet_of_same (end_any _)))
                have hown2q := drewN_own (q := nq) hown2
                have B2q := below_drewN B2 nq
                clear hown2 B2 x0 x1
                generalize w2.drewN nq = q2 at *
                have HY := Lib.hid (show q2.ownsRow w.heap.size 2 1 (.slice (some ⟨g2, 0, none⟩) ((zs.length + 2) + 2) cap2) (zs ++ [c, d, c - 1, c + 1]).length ((zs ++ [c, d, c - 1, c + 1]).map (Value.int .i64)) from by simpa [show IntKind.i64.wrap (c - 1) = c - 1 from IntWalk.i64_in _ (by omega), show IntKind.i64.wrap (c + 1) = c + 1 from IntWalk.i64_in _ (by omega)] using hown2q)
                have HFY : Hid (Fits (zs ++ [c, d, c - 1, c + 1])) := by unfold Hid; have hf := HF.out; intro z hz; rcases List.mem_append.1 hz with hz | hz; exact hf z hz; (simp only [List.mem_cons, List.not_mem_nil, or_false] at hz; omega)
                go_wp2_with fail
                go_roundw
                case rel => exact ⟨1 + 1, zs ++ [c, d, c - 1, c + 1], by omega, by go_num, HY.out, by simp; omega, HFY, B2q⟩
                case measure => simp [intOf]
            · have cY' : decide (-9 < d) = false := by simpa using cY
              have x0 := cell_at hlb B2 H2.out
              have x1 := cell_at hlb B2 H3.out
              go_wp2_with fail
              go_quiet ((go_at_call 35; exact Calls.quiet_of_same (end_any _)))
              have hown2q := drewN_own (q := nq) hown2
              have B2q := below_drewN B2 nq
              clear hown2 B2 x0 x1
              generalize w2.drewN nq = q2 at *
              have HY := Lib.hid (show q2.ownsRow w.heap.size 2 1 (.slice (some ⟨g2, 0, none⟩) ((zs.length + 2) + 2) cap2) (zs ++ [c, d, c - 1, c + 1]).length ((zs ++ [c, d, c - 1, c + 1]).map (Value.int .i64)) from by simpa [show IntKind.i64.wrap (c - 1) = c - 1 from IntWalk.i64_in _ (by omega), show IntKind.i64.wrap (c + 1) = c + 1 from IntWalk.i64_in _ (by omega)] using hown2q)
              have HFY : Hid (Fits (zs ++ [c, d, c - 1, c + 1])) := by unfold Hid; have hf := HF.out; intro z hz; rcases List.mem_append.1 hz with hz | hz; exact hf z hz; (simp only [List.mem_cons, List.not_mem_nil, or_false] at hz; omega)
              go_wp2_with fail
              go_roundw
              case rel => exact ⟨1 + 1, zs ++ [c, d, c - 1, c + 1], by omega, by go_num, HY.out, by simp; omega, HFY, B2q⟩
              case measure => simp [intOf]
          · have x0 := cell_at hlb B1 H2.out
            have x1 := cell_at hlb B1 H3.out
            go_wp2_with fail
            go_quiet ((go_at_call 35; exact Calls.quiet_of_same (end_any _)))
            have hown1q := drewN_own (q := nq) hown1
            have B1q := below_drewN B1 nq
            clear hown1 B1 x0 x1
            generalize w1.drewN nq = q1 at *
            by_cases cY : -9 < d
            · by_cases oY : d < 4611686018427387904
              · have x0 := cell_at hlb B1q H2.out
                have x1 := cell_at hlb B1q H3.out
                go_wp2_with fail
                go_quiet ((go_at_call 35; exact Calls.quiet_of_same (end_any _)))
                have hown1qq := drewN_own (q := nq) hown1q
                have B1qq := below_drewN B1q nq
                clear hown1q B1q x0 x1
                generalize q1.drewN nq = q1 at *
                have x0 := cell_at hlb B1qq H2.out
                have x1 := cell_at hlb B1qq H3.out
                have hB := B1qq.size
                have ag := own_ne hown1qq hlb
                go_wp2_with fail
                go_region_held3 (fun w' => w'.cell? ⟨lb, 2, none⟩ = some (.int .i64 c) ∧ w'.cell? ⟨lb, 3, none⟩ = some (.int .i64 d))
                  (first
                    | go_keep
                    | (go_split_ands
                       refine ⟨?_, ?_⟩
                       · (rw [hgrow.cell_far _ (by simp; omega) (Ne.symm ag)]; assumption)
                       · (rw [hgrow.cell_far _ (by simp; omega) (Ne.symm ag)]; assumption)))
                  ((refine step_append_lies _ (by rfl) _ _ _ (by rfl) w.heap.size 2 i0 _ 1 8 Tryd.underlying39 hi hz0 hz1 hz2 rfl (by omega) _ (zs.length + 2) (zs.map (Value.int .i64) ++ [.int .i64 c, .int .i64 d]) (by rfl) ((hown1qq.alloc _).drew)
                      ⟨q1.heap.size, 0, none⟩ 2 2 [.int .i64 (IntKind.i64.wrap (d - 1)), .int .i64 (IntKind.i64.wrap (d + 1))] (by rfl) (by rfl) (World.news_of_block (cs := #[.int .i64 (IntKind.i64.wrap (d - 1)), .int .i64 (IntKind.i64.wrap (d + 1))]) (t := 2) (fr := (0, 0)) (heap_alloc_new q1 _)) (by simp [Value.oneCell'])
                      (by omega) (by unfold maxLen; omega) (by omega) (by simp; omega) (q1.heap.size + 1) (by simp) ?_; intro g2 cap2 w2 hown2 hgrow hat hltw))
                have B2 := below_app B1qq hown1qq hgrow
                clear hgrow hat hltw hown1qq x0 x1 hB ag B1qq
                have HY := Lib.hid (show w2.ownsRow w.heap.size 2 1 (.slice (some ⟨g2, 0, none⟩) ((zs.length + 2) + 2) cap2) (zs ++ [c, d, d - 1, d + 1]).length ((zs ++ [c, d, d - 1, d + 1]).map (Value.int .i64)) from by simpa [show IntKind.i64.wrap (d - 1) = d - 1 from IntWalk.i64_in _ (by omega), show IntKind.i64.wrap (d + 1) = d + 1 from IntWalk.i64_in _ (by omega)] using hown2)
                have HFY : Hid (Fits (zs ++ [c, d, d - 1, d + 1])) := by unfold Hid; have hf := HF.out; intro z hz; rcases List.mem_append.1 hz with hz | hz; exact hf z hz; (simp only [List.mem_cons, List.not_mem_nil, or_false] at hz; omega)
                go_wp2_with fail
                go_roundw
                case rel => exact ⟨1 + 1, zs ++ [c, d, d - 1, d + 1], by omega, by go_num, HY.out, by simp; omega, HFY, B2⟩
                case measure => simp [intOf]
              · have x0 := cell_at hlb B1q H2.out
                have x1 := cell_at hlb B1q H3.out
                go_wp2_with fail
                go_quiet ((go_at_call 35; exact Calls.quiet_of_same (end_any _)))
                have hown1qq := drewN_own (q := nq) hown1q
                have B1qq := below_drewN B1q nq
                clear hown1q B1q x0 x1
                generalize q1.drewN nq = q1 at *
                have HY := Lib.hid (show q1.ownsRow w.heap.size 2 1 (.slice (some ⟨g1, 0, none⟩) (zs.length + 2) cap1) (zs ++ [c, d]).length ((zs ++ [c, d]).map (Value.int .i64)) from by simpa using hown1qq)
                have HFY : Hid (Fits (zs ++ [c, d])) := by unfold Hid; have hf := HF.out; intro z hz; rcases List.mem_append.1 hz with hz | hz; exact hf z hz; (simp only [List.mem_cons, List.not_mem_nil, or_false] at hz; omega)
                go_wp2_with fail
                go_roundw
                case rel => exact ⟨1 + 1, zs ++ [c, d], by omega, by go_num, HY.out, by simp; omega, HFY, B1qq⟩
                case measure => simp [intOf]
            · have cY' : decide (-9 < d) = false := by simpa using cY
              have x0 := cell_at hlb B1q H2.out
              have x1 := cell_at hlb B1q H3.out
              go_wp2_with fail
              go_quiet ((go_at_call 35; exact Calls.quiet_of_same (end_any _)))
              have hown1qq := drewN_own (q := nq) hown1q
              have B1qq := below_drewN B1q nq
              clear hown1q B1q x0 x1
              generalize q1.drewN nq = q1 at *
              have HY := Lib.hid (show q1.ownsRow w.heap.size 2 1 (.slice (some ⟨g1, 0, none⟩) (zs.length + 2) cap1) (zs ++ [c, d]).length ((zs ++ [c, d]).map (Value.int .i64)) from by simpa using hown1qq)
              have HFY : Hid (Fits (zs ++ [c, d])) := by unfold Hid; have hf := HF.out; intro z hz; rcases List.mem_append.1 hz with hz | hz; exact hf z hz; (simp only [List.mem_cons, List.not_mem_nil, or_false] at hz; omega)
              go_wp2_with fail
              go_roundw
              case rel => exact ⟨1 + 1, zs ++ [c, d], by omega, by go_num, HY.out, by simp; omega, HFY, B1qq⟩
              case measure => simp [intOf]
        · have cX' : decide (-9 < c) = false := by simpa using cX
          have x0 := cell_at hlb B1 H2.out
          have x1 := cell_at hlb B1 H3.out
          go_wp2_with fail
          go_quiet ((go_at_call 35; exact Calls.quiet_of_same (end_any _)))
          have hown1q := drewN_own (q := nq) hown1
          have B1q := below_drewN B1 nq
          clear hown1 B1 x0 x1
          generalize w1.drewN nq = q1 at *
          by_cases cY : -9 < d
          · by_cases oY : d < 4611686018427387904
            · have x0 := cell_at hlb B1q H2.out
              have x1 := cell_at hlb B1q H3.out
              go_wp2_with fail
              go_quiet ((go_at_call 35; exact Calls.quiet_of_same (end_any _)))
              have hown1qq := drewN_own (q := nq) hown1q
              have B1qq := below_drewN B1q nq
              clear hown1q B1q x0 x1
              generalize q1.drewN nq = q1 at *
              have x0 := cell_at hlb B1qq H2.out
              have x1 := cell_at hlb B1qq H3.out
              have hB := B1qq.size
              have ag := own_ne hown1qq hlb
              go_wp2_with fail
              go_region_held3 (fun w' => w'.cell? ⟨lb, 2, none⟩ = some (.int .i64 c) ∧ w'.cell? ⟨lb, 3, none⟩ = some (.int .i64 d))
                (first
                  | go_keep
                  | (go_split_ands
                     refine ⟨?_, ?_⟩
                     · (rw [hgrow.cell_far _ (by simp; omega) (Ne.symm ag)]; assumption)
                     · (rw [hgrow.cell_far _ (by simp; omega) (Ne.symm ag)]; assumption)))
                ((refine step_append_lies _ (by rfl) _ _ _ (by rfl) w.heap.size 2 i0 _ 1 8 Tryd.underlying39 hi hz0 hz1 hz2 rfl (by omega) _ (zs.length + 2) (zs.map (Value.int .i64) ++ [.int .i64 c, .int .i64 d]) (by rfl) ((hown1qq.alloc _).drew)
                    ⟨q1.heap.size, 0, none⟩ 2 2 [.int .i64 (IntKind.i64.wrap (d - 1)), .int .i64 (IntKind.i64.wrap (d + 1))] (by rfl) (by rfl) (World.news_of_block (cs := #[.int .i64 (IntKind.i64.wrap (d - 1)), .int .i64 (IntKind.i64.wrap (d + 1))]) (t := 2) (fr := (0, 0)) (heap_alloc_new q1 _)) (by simp [Value.oneCell'])
                    (by omega) (by unfold maxLen; omega) (by omega) (by simp; omega) (q1.heap.size + 1) (by simp) ?_; intro g2 cap2 w2 hown2 hgrow hat hltw))
              have B2 := below_app B1qq hown1qq hgrow
              clear hgrow hat hltw hown1qq x0 x1 hB ag B1qq
              have HY := Lib.hid (show w2.ownsRow w.heap.size 2 1 (.slice (some ⟨g2, 0, none⟩) ((zs.length + 2) + 2) cap2) (zs ++ [c, d, d - 1, d + 1]).length ((zs ++ [c, d, d - 1, d + 1]).map (Value.int .i64)) from by simpa [show IntKind.i64.wrap (d - 1) = d - 1 from IntWalk.i64_in _ (by omega), show IntKind.i64.wrap (d + 1) = d + 1 from IntWalk.i64_in _ (by omega)] using hown2)
              have HFY : Hid (Fits (zs ++ [c, d, d - 1, d + 1])) := by unfold Hid; have hf := HF.out; intro z hz; rcases List.mem_append.1 hz with hz | hz; exact hf z hz; (simp only [List.mem_cons, List.not_mem_nil, or_false] at hz; omega)
              go_wp2_with fail
              go_roundw
              case rel => exact ⟨1 + 1, zs ++ [c, d, d - 1, d + 1], by omega, by go_num, HY.out, by simp; omega, HFY, B2⟩
              case measure => simp [intOf]
            · have x0 := cell_at hlb B1q H2.out
              have x1 := cell_at hlb B1q H3.out
              go_wp2_with fail
              go_quiet ((go_at_call 35; exact Calls.quiet_of_same (end_any _)))
              have hown1qq := drewN_own (q := nq) hown1q
              have B1qq := below_drewN B1q nq
              clear hown1q B1q x0 x1
              generalize q1.drewN nq = q1 at *
              have HY := Lib.hid (show q1.ownsRow w.heap.size 2 1 (.slice (some ⟨g1, 0, none⟩) (zs.length + 2) cap1) (zs ++ [c, d]).length ((zs ++ [c, d]).map (Value.int .i64)) from by simpa using hown1qq)
              have HFY : Hid (Fits (zs ++ [c, d])) := by unfold Hid; have hf := HF.out; intro z hz; rcases List.mem_append.1 hz with hz | hz; exact hf z hz; (simp only [List.mem_cons, List.not_mem_nil, or_false] at hz; omega)
              go_wp2_with fail
              go_roundw
              case rel => exact ⟨1 + 1, zs ++ [c, d], by omega, by go_num, HY.out, by simp; omega, HFY, B1qq⟩
              case measure => simp [intOf]
          · have cY' : decide (-9 < d) = false := by simpa using cY
            have x0 := cell_at hlb B1q H2.out
            have x1 := cell_at hlb B1q H3.out
            go_wp2_with fail
            go_quiet ((go_at_call 35; exact Calls.quiet_of_same (end_any _)))
            have hown1qq := drewN_own (q := nq) hown1q
            have B1qq := below_drewN B1q nq
            clear hown1q B1q x0 x1
            generalize q1.drewN nq = q1 at *
            have HY := Lib.hid (show q1.ownsRow w.heap.size 2 1 (.slice (some ⟨g1, 0, none⟩) (zs.length + 2) cap1) (zs ++ [c, d]).length ((zs ++ [c, d]).map (Value.int .i64)) from by simpa using hown1qq)
            have HFY : Hid (Fits (zs ++ [c, d])) := by unfold Hid; have hf := HF.out; intro z hz; rcases List.mem_append.1 hz with hz | hz; exact hf z hz; (simp only [List.mem_cons, List.not_mem_nil, or_false] at hz; omega)
            go_wp2_with fail
            go_roundw
            case rel => exact ⟨1 + 1, zs ++ [c, d], by omega, by go_num, HY.out, by simp; omega, HFY, B1qq⟩
            case measure => simp [intOf]
    · have hke : k = 2 := by omega
      subst hke
      have HP : Hid (∀ v, wr.ownsRow w.heap.size 2 1 v zs.length (zs.map (Value.int .i64)) → AllPost w wr (.returned v)) := fun v h => ⟨v, zs, rfl, h, by omega, HF, hbel⟩
      go_wp2_with fail
      go_ret
      exact HP.out _ hown
end Go.Proofs.YtbhbnkblnfaomaaDoor
