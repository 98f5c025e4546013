/-
  RangesStops: the walk.
-/
import Derived.Test.YtoimoalkihjcfaaDoorSA
namespace Go.Proofs.YtoimoalkihjcfaaDoor
open Go Go.RowKit

theorem u8_bounds {k : Int} (h : (Lit.int .u8 k).wf = true) : 0 ≤ k ∧ k < 256 := by
  simp [Lit.wf, IntKind.min, IntKind.max, IntKind.bits, IntKind.signed] at h; omega

set_option maxHeartbeats 8000000 in
set_option maxRecDepth 100000 in
theorem walk_RangesStops (A : Option Addr) (n c : Nat) (l : List Sp) (k : Int) (w : World) (hn : l.length = n) (hmx : n ≤ maxLen) (hs : SpAt w w.heap.size A l) (_wk : (Lit.int .u8 k).wf = true) :
    Calls Tryd.prog 4 #[.slice A n c, .int .u8 k] w fun e w' => e = .returned (.bool true) ∧ Below w.heap.size w w' := by
  have HS := Lib.hid hs
  have HN := Lib.hid hn
  clear hs hn
  have hk := u8_bounds _wk
  clear _wk
  have hmx' := hmx
  unfold maxLen at hmx'
  by_cases hbig : 20 < n
  · go_enter Tryd.func4, Tryd.ntmps4
    go_wp2_with fail
    with_reducible refine (wakes_any _).mono ?_
    rintro e w1 ⟨rfl, hb1⟩
    go_wp2_with fail
    have hg := great1 w1.heap.size n c A (w1.alloc (.cells #[.slice A n c] 22)) (by simp) hmx
    rw [show decide (20 < n) = true from by simpa using hbig] at hg
    with_reducible refine hg.mono ?_
    rintro e w2 ⟨rfl, rfl⟩
    clear hg
    go_wp2
    go_ret
    exact ⟨rfl, Ext.tr hb1 ((Below.refl _ _).alloc (Nat.le_refl _) _)⟩
  · have hn20 : n ≤ 20 := by omega
    have hnl : (normL l).length ≤ 20 := by have := normL_len l; have := HN.out; omega
    have hmf : ∀ (fn : Fn) (first cap : Array Value) (w : World), (Instr.makeFunc fn first cap).run Tryd.prog w = .ok (.func fn first cap) w := fun _ _ _ _ => rfl
    have hmod : 0 ≤ k.tmod 22 ∧ k.tmod 22 < 22 := ⟨Int.tmod_nonneg _ hk.1, Int.tmod_lt_of_pos _ (by omega)⟩
    have hkw : IntKind.i64.wrap k = k := IntWalk.i64_in _ (by omega)
    have hmw : IntKind.i64.wrap (1 + k.tmod 22) = 1 + k.tmod 22 := IntWalk.i64_in _ (by omega)
    go_enter Tryd.func4, Tryd.ntmps4
    go_wp2_with fail
    with_reducible refine (wakes_any _).mono ?_
    rintro e w1 ⟨rfl, hb1⟩
    go_wp2_with fail
    have hg := great1 w1.heap.size n c A (w1.alloc (.cells #[.slice A n c] 22)) (by simp) hmx
    rw [show decide (20 < n) = false from by simpa using hbig] at hg
    with_reducible refine hg.mono ?_
    rintro e w2 ⟨rfl, rfl⟩
    clear hg
    have E1 : Ext w (w1.alloc (.cells #[.slice A n c] 22)) := Ext.tr hb1 ((Below.refl _ _).alloc (Nat.le_refl _) _)
    clear hb1
    go_wp2_with fail
    have hR := rOf_set A n c l _ HN.out (by omega) (HS.out.below E1 E1.size)
    with_reducible refine hR.mono ?_
    rintro e w2 ⟨v2, rfl, hsp, hb2⟩
    clear hR
    have E2 := Ext.tr E1 hb2
    obtain ⟨A2, n2, c2, rfl, HN2, hcc2, -⟩ := hsp.split
    clear hsp hb2 E1
    go_wp2_with fail
    have a3 : Ext w2 ((w2.alloc (.cells #[.int .i64 (1 + k % 22)] 3)).alloc (.cells #[.int .i64 0] 3)) := ((Below.refl _ _).alloc (Nat.le_refl _) _).alloc (by simp) _
    have bq : Box ((w2.alloc (.cells #[.int .i64 (1 + k % 22)] 3)).alloc (.cells #[.int .i64 0] 3)) w2.heap.size 3 (.int .i64 (1 + k % 22)) := (Box.new w2 _ _).ext ((Below.refl _ _).alloc (Nat.le_refl _) _)
    have bp : Box ((w2.alloc (.cells #[.int .i64 (1 + k % 22)] 3)).alloc (.cells #[.int .i64 0] 3)) (w2.heap.size + 1) 3 (.int .i64 (0 : Nat)) := by have h := Box.new (w2.alloc (.cells #[.int .i64 (1 + k % 22)] 3)) 3 (.int .i64 0); rw [World.size_alloc] at h; exact h
    have E3 := Ext.tr E2 a3
    have hO := Of_set A n c l _ HN.out (by omega) (HS.out.below E3 E3.size)
    generalize hw3 : (w2.alloc (.cells #[.int .i64 (1 + k % 22)] 3)).alloc (.cells #[.int .i64 0] 3) = w3 at *
    have hz3 : w3.heap.size = w2.heap.size + 2 := by rw [← hw3]; simp
    clear hw3
    with_reducible refine hO.mono ?_
    rintro e w4 ⟨v4, rfl, hset, hb4⟩
    clear hO
    have E4 := Ext.tr E3 hb4
    obtain ⟨A4, n4, c4, rfl, HN4, hcc4, HS4, -⟩ := hset.split
    obtain rfl : n4 = n2 := by rw [← HN4.out, HN2.out]
    have hz4 := hb4.size
    go_wp2_with fail
    with_reducible refine (All_any A4 n4 c4 w4).mono ?_
    rintro e w5 ⟨rfl, rfl⟩
    go_wp2_with fail
    have a5 : Ext w4 (w4.alloc (.cells #[.slice A4 n4 c4] 26)) := (Below.refl _ _).alloc (Nat.le_refl _) _
    have E5 := Ext.tr E4 a5
    have bq5 := bq.ext (Ext.tr hb4 a5)
    have bp5 := bp.ext (Ext.tr hb4 a5)
    have hs5 := HS4.out.below a5 a5.size
    have hsb5 : (w4.alloc (.cells #[.slice A4 n4 c4] 26)).cell? ⟨w4.heap.size, 0, none⟩ = some (.slice A4 n4 c4) := by simp
    have hz5 : w4.heap.size < (w4.alloc (.cells #[.slice A4 n4 c4] 26)).heap.size := by simp
    generalize w4.alloc (.cells #[.slice A4 n4 c4] 26) = w5 at *
    have hm1 : 1 ≤ 1 + k % 22 ∧ 1 + k % 22 ≤ 22 := by omega
    generalize 1 + k % 22 = m at *
    have hAll := all_stops (fun j => decide ((j : Int) + 1 < m)) (fun j W => Box W (w2.heap.size + 1) 3 (.int .i64 j) ∧ But (w2.heap.size + 1) w5 W) (.pointer (some ⟨w2.heap.size + 1, 0, none⟩)) (.pointer (some ⟨w2.heap.size, 0, none⟩)) w4.heap.size A4 n4 c4 (normL l) HN4.out (by have := HN4.out; omega)
      (fun j W o ⟨h1, h2⟩ => ⟨h1.ext ((Below.refl _ _).alloc (Nat.le_refl _) _), h2.tr (But.ext ((Below.refl _ _).alloc (Nat.le_refl _) _))⟩)
      (fun W ⟨_, h⟩ => (h.cell hz5 (by omega)).trans hsb5)
      (fun j W ⟨_, h⟩ => hs5.but bp5 h)
      (fun j hj W ⟨h1, h2⟩ => (stops_clo (w2.heap.size + 1) w2.heap.size _ _ m j W (by omega) h1 ((h2.cell bq5.lt (by omega)).trans bq5.cell) (Nat.lt_of_lt_of_le bq5.lt h2.size) (by omega)).mono fun _ _ ⟨he, hb, ht⟩ => ⟨he, hb, h2.tr ht⟩)
      w5 ⟨bp5, World.grownBy.refl _ _⟩
    with_reducible refine hAll.mono ?_
    rintro e w6 ⟨rfl, r, hr1, hr2, hr3, hbp, hbt⟩
    clear hAll
    have E6 : Ext w w6 := Below.grown E5 hbt E5.size (fun i hi => by have := Option.some.inj hi; have := E2.size; omega)
    have cp := hbp.cell
    have cq := (hbt.cell bq5.lt (by omega)).trans bq5.cell
    have HR : Hid (((r : Int) = n4 ∧ (n4 : Int) ≤ m) ∨ ((r : Int) = m ∧ m ≤ n4)) := by
      unfold Hid
      have h2 : (r : Int) ≤ m := by
        by_cases h0 : 2 ≤ r
        · have := of_decide_eq_true (hr2 (r - 2) (by omega)); omega
        · omega
      rcases hr3 with h3 | ⟨h3, h4⟩
      · left; omega
      · right
        have := of_decide_eq_false h4
        omega
    clear hr1 hr2 hr3 hbp hbt bq5 bp5 hs5 hsb5 bq bp E5 E4 E3 a5 a3 hset hb4
    go_wp2
    go_ret
    exact ⟨ret_bool (by have := HR.out; simp; omega), E6⟩
end Go.Proofs.YtoimoalkihjcfaaDoor
