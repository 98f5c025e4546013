/-
  RangesLaws: the walk.
-/
import Derived.Test.YtoimoalkihjcfaaDoorLA
namespace Go.Proofs.YtoimoalkihjcfaaDoor
open Go Go.RowKit

theorem set_nil (W : World) : SetN 0 W (.agg #[.slice none 0 0]) [] := ⟨⟨.slice none 0 0, rfl, ⟨none, 0, rfl, Nat.le_refl _, fun h => absurd h (by simp)⟩, Canon.nil⟩, Nat.le_refl _⟩
theorem great3 (b : Nat) (n c : Nat → Nat) (f : Nat → Option Addr) (w : World) (h0 : w.cell? ⟨b, 0, none⟩ = some (.slice (f 0) (n 0) (c 0))) (h1 : w.cell? ⟨b, 1, none⟩ = some (.slice (f 1) (n 1) (c 1))) (h2 : w.cell? ⟨b, 2, none⟩ = some (.slice (f 2) (n 2) (c 2))) (hn0 : n 0 ≤ maxLen) (hn1 : n 1 ≤ maxLen) (hn2 : n 2 ≤ maxLen) :
    Calls Tryd.prog 12 #[.slice (some ⟨b, 0, none⟩) 3 3] w fun e w' => e = .returned (.bool (decide (20 < n 0) || decide (20 < n 1) || decide (20 < n 2))) ∧ w = w' := by
  have h := great_any b 3 f n c w (by omega)
    (fun j hj => by
      match j, hj with
      | 0, _ => exact h0
      | 1, _ => exact h1
      | 2, _ => exact h2)
    (fun j hj => by
      match j, hj with
      | 0, _ => exact hn0
      | 1, _ => exact hn1
      | 2, _ => exact hn2)
  rwa [show greatB n 3 = (decide (20 < n 0) || decide (20 < n 1) || decide (20 < n 2)) from by simp [greatB, List.range_succ, Bool.or_assoc]] at h
/-- the three lists' ways -/
def pick3 {α : Type} (a b c : α) : Nat → α
  | 0 => a
  | 1 => b
  | _ => c

set_option maxHeartbeats 16000000 in
set_option maxRecDepth 100000 in
theorem walk_RangesLaws (A : Option Addr) (n c : Nat) (l : List Sp) (A' : Option Addr) (n' c' : Nat) (m : List Sp) (A'' : Option Addr) (n'' c'' : Nat) (o : List Sp) (w : World) (hn : l.length = n) (hmx : n ≤ maxLen) (hs : SpAt w w.heap.size A l) (hn' : m.length = n') (hmx' : n' ≤ maxLen) (hs' : SpAt w w.heap.size A' m) (hn'' : o.length = n'') (hmx'' : n'' ≤ maxLen) (hs'' : SpAt w w.heap.size A'' o) :
    Calls Tryd.prog 9 #[.slice A n c, .slice A' n' c', .slice A'' n'' c''] w fun e w' => e = .returned (.bool true) ∧ Below w.heap.size w w' := by
  have HS := Lib.hid hs; have HS' := Lib.hid hs'; have HS'' := Lib.hid hs''
  have HN := Lib.hid hn; have HN' := Lib.hid hn'; have HN'' := Lib.hid hn''
  clear hs hn hs' hn' hs'' hn''
  have hG := fun (W : World) (b : Nat) h0 h1 h2 => great3 b (pick3 n n' n'') (pick3 c c' c'') (pick3 A A' A'') W h0 h1 h2 hmx hmx' hmx''
  simp only [pick3] at hG
  by_cases hbig : 20 < n ∨ 20 < n' ∨ 20 < n''
  · rw [show (decide (20 < n) || decide (20 < n') || decide (20 < n'')) = true from by simp; omega] at hG
    go_enter Tryd.func9, Tryd.ntmps9
    go_wp2_with fail
    with_reducible refine (wakes_any _).mono ?_
    rintro e w1 ⟨rfl, hb1⟩
    go_wp2_with fail
    have hg := hG (w1.alloc (.cells #[.slice A n c, .slice A' n' c', .slice A'' n'' c''] 22)) w1.heap.size (by simp) (by simp) (by simp)
    with_reducible refine hg.mono ?_
    rintro e w2 ⟨rfl, rfl⟩
    clear hg
    go_wp2
    go_ret
    exact ⟨rfl, Ext.tr hb1 ((Below.refl _ _).alloc (Nat.le_refl _) _)⟩
  · rw [show (decide (20 < n) || decide (20 < n') || decide (20 < n'')) = false from by simp; omega] at hG
    have hn20 : n ≤ 20 ∧ n' ≤ 20 ∧ n'' ≤ 20 := by omega
    have hl1 : (normL l).length ≤ 20 := by have := normL_len l; have := HN.out; omega
    have hl2 : (normL m).length ≤ 20 := by have := normL_len m; have := HN'.out; omega
    have hl3 : (normL o).length ≤ 20 := by have := normL_len o; have := HN''.out; omega
    have CX : Hid (Canon (normL l)) := (normL_norm l).1
    have CY : Hid (Canon (normL m)) := (normL_norm m).1
    have CZ : Hid (Canon (normL o)) := (normL_norm o).1
    go_enter Tryd.func9, Tryd.ntmps9
    go_wp2_with fail
    with_reducible refine (wakes_any _).mono ?_
    rintro e w1 ⟨rfl, hb1⟩
    go_wp2_with fail
    have hg := hG (w1.alloc (.cells #[.slice A n c, .slice A' n' c', .slice A'' n'' c''] 22)) w1.heap.size (by simp) (by simp) (by simp)
    with_reducible refine hg.mono ?_
    rintro e w2 ⟨rfl, rfl⟩
    clear hg hG
    have E1 : Ext w (w1.alloc (.cells #[.slice A n c, .slice A' n' c', .slice A'' n'' c''] 22)) := Ext.tr hb1 ((Below.refl _ _).alloc (Nat.le_refl _) _)
    clear hb1
    go_wp2_with fail
    with_reducible refine (Of_set A n c l _ HN.out (by omega) (HS.out.below E1 E1.size)).mono ?_
    rintro e w2 ⟨v2, rfl, hsx, hb2⟩
    have E2 := Ext.tr E1 hb2
    clear hb2 E1
    go_wp2_with fail
    with_reducible refine (Of_set A' n' c' m _ HN'.out (by omega) (HS'.out.below E2 E2.size)).mono ?_
    rintro e w3 ⟨v3, rfl, hsy, hb3⟩
    have E3 := Ext.tr E2 hb3
    have hsx := IsSet.st _ _ _ hsx hb3
    clear hb3 E2
    go_wp2_with fail
    with_reducible refine (Of_set A'' n'' c'' o _ HN''.out (by omega) (HS''.out.below E3 E3.size)).mono ?_
    rintro e w4 ⟨v4, rfl, hsz, hb4⟩
    have E4 := Ext.tr E3 hb4
    have hsx := IsSet.st _ _ _ hsx hb4
    have hsy := IsSet.st _ _ _ hsy hb4
    clear hb4 E3
    obtain ⟨A2, n2, c2, rfl, -, -, -, -⟩ := hsx.split
    obtain ⟨A3, n3, c3, rfl, -, -, -, -⟩ := hsy.split
    obtain ⟨A4, n4, c4, rfl, -, -, -, -⟩ := hsz.split
    go_wp2_with fail
    have a5 : Ext w4 (((w4.alloc (.cells #[.slice A2 n2 c2] 26)).alloc (.cells #[.slice A3 n3 c3] 26)).alloc (.cells #[.slice A4 n4 c4] 26)) := (((Below.refl _ _).alloc (Nat.le_refl _) _).alloc (by simp) _).alloc (by simp; omega) _
    have b0 : Box (((w4.alloc (.cells #[.slice A2 n2 c2] 26)).alloc (.cells #[.slice A3 n3 c3] 26)).alloc (.cells #[.slice A4 n4 c4] 26)) w4.heap.size 26 (.slice A2 n2 c2) := (Box.new w4 _ _).ext (((Below.refl _ _).alloc (Nat.le_refl _) _).alloc (by simp) _)
    have b1 : Box (((w4.alloc (.cells #[.slice A2 n2 c2] 26)).alloc (.cells #[.slice A3 n3 c3] 26)).alloc (.cells #[.slice A4 n4 c4] 26)) (w4.heap.size + 1) 26 (.slice A3 n3 c3) := by
      have h := (Box.new (w4.alloc (.cells #[.slice A2 n2 c2] 26)) 26 (.slice A3 n3 c3)).ext ((Below.refl _ _).alloc (Nat.le_refl _) (.cells #[.slice A4 n4 c4] 26))
      rw [World.size_alloc] at h; exact h
    have b2 : Box (((w4.alloc (.cells #[.slice A2 n2 c2] 26)).alloc (.cells #[.slice A3 n3 c3] 26)).alloc (.cells #[.slice A4 n4 c4] 26)) (w4.heap.size + 1 + 1) 26 (.slice A4 n4 c4) := by
      have h := Box.new ((w4.alloc (.cells #[.slice A2 n2 c2] 26)).alloc (.cells #[.slice A3 n3 c3] 26)) 26 (.slice A4 n4 c4)
      rw [World.size_alloc, World.size_alloc] at h; exact h
    have E5 := Ext.tr E4 a5
    have hsx := Lib.hid (IsSet.st _ _ _ hsx a5); have hsy := Lib.hid (IsSet.st _ _ _ hsy a5); have hsz := Lib.hid (IsSet.st _ _ _ hsz a5)
    clear a5 E4
    generalize ((w4.alloc (.cells #[.slice A2 n2 c2] 26)).alloc (.cells #[.slice A3 n3 c3] 26)).alloc (.cells #[.slice A4 n4 c4] 26) = w5 at *
    have sx : ∀ W, Ext w5 W → SetN 20 W (.agg #[.slice A2 n2 c2]) (normL l) := fun W h => ⟨IsSet.st _ _ _ hsx.out h, hl1⟩
    have sy : ∀ W, Ext w5 W → SetN 20 W (.agg #[.slice A3 n3 c3]) (normL m) := fun W h => ⟨IsSet.st _ _ _ hsy.out h, hl2⟩
    have sz : ∀ W, Ext w5 W → SetN 20 W (.agg #[.slice A4 n4 c4]) (normL o) := fun W h => ⟨IsSet.st _ _ _ hsz.out h, hl3⟩
    have k0 : ∀ W, Ext w5 W → W.cell? ⟨w4.heap.size, 0, none⟩ = some (.slice A2 n2 c2) := fun W h => (b0.ext h).cell
    have k1 : ∀ W, Ext w5 W → W.cell? ⟨w4.heap.size + 1, 0, none⟩ = some (.slice A3 n3 c3) := fun W h => (b1.ext h).cell
    have k2 : ∀ W, Ext w5 W → W.cell? ⟨w4.heap.size + 1 + 1, 0, none⟩ = some (.slice A4 n4 c4) := fun W h => (b2.ext h).cell
    clear b0 b1 b2
    refine' wp_region_made (rels := relsOf ((.val _) :: (.val _) :: (.val _) :: (.rel (fun v W => SetN 80 W v (keepL 1 (normL m) (normL o)))) :: (.rel (fun v W => SetN 200 W v (keepL 3 (normL l) (keepL 1 (normL m) (normL o))))) :: (.val _) :: (.val _) :: (.rel (fun v W => SetN 80 W v (keepL 3 (normL l) (normL m)))) :: (.val _) :: (.rel (fun v W => SetN 200 W v (keepL 3 (keepL 3 (normL l) (normL m)) (normL o)))) :: (.val _) :: (.val _) :: (.val _) :: (.val _) :: (.val _) :: (.rel (fun v W => SetN 80 W v (keepL 1 (normL m) (normL o)))) :: (.rel (fun v W => SetN 200 W v (keepL 2 (normL l) (keepL 1 (normL m) (normL o))))) :: (.val _) :: (.val _) :: (.rel (fun v W => SetN 80 W v (keepL 2 (normL l) (normL m)))) :: (.val _) :: (.val _) :: (.rel (fun v W => SetN 80 W v (keepL 2 (normL l) (normL o)))) :: (.rel (fun v W => SetN 320 W v (keepL 1 (keepL 2 (normL l) (normL m)) (keepL 2 (normL l) (normL o))))) :: (.val _) :: (.val _) :: (.val _) :: (.val _) :: (.val _) :: (.rel (fun v W => SetN 80 W v (keepL 3 (normL l) (normL m)))) :: (.val _) :: (.val _) :: (.rel (fun v W => SetN 80 W v (keepL 2 (normL l) (normL m)))) :: (.rel (fun v W => SetN 320 W v (keepL 1 (keepL 3 (normL l) (normL m)) (keepL 2 (normL l) (normL m))))) :: (.val _) :: (.val _) :: (.val _) :: (.val _) :: (.val _) :: (.val _) :: (.rel (fun v W => SetN 80 W v (keepL 3 (normL l) (normL l)))) :: (.val _) :: (.val _) :: (.val _) :: (.val _) :: (.val _) :: (.val _) :: (.rel (fun v W => SetN 80 W v (keepL 1 (normL l) (normL m)))) :: (.val _) :: (.val _) :: (.rel (fun v W => SetN 80 W v (keepL 1 (normL m) (normL l)))) :: (.val _) :: (.val _) :: (.val _) :: (.val _) :: (.val _) :: (.rel (fun v W => SetN 80 W v (keepL 3 (normL l) (normL m)))) :: (.val _) :: (.rel (fun v W => SetN 200 W v (keepL 2 (keepL 3 (normL l) (normL m)) (normL m)))) :: (.val _) :: (.val _) :: (.val _) :: (.val _) :: [])) (w := w5) 85 (by kernel_rfl) (by kernel_rfl) (by rfl) (relsOf_stable ?st) ?wk
    case st => exact stable_val (stable_val (stable_val (stable_rel SetN.st (stable_rel SetN.st (stable_val (stable_val (stable_rel SetN.st (stable_val (stable_rel SetN.st (stable_val (stable_val (stable_val (stable_val (stable_val (stable_rel SetN.st (stable_rel SetN.st (stable_val (stable_val (stable_rel SetN.st (stable_val (stable_val (stable_rel SetN.st (stable_rel SetN.st (stable_val (stable_val (stable_val (stable_val (stable_val (stable_rel SetN.st (stable_val (stable_val (stable_rel SetN.st (stable_rel SetN.st (stable_val (stable_val (stable_val (stable_val (stable_val (stable_val (stable_rel SetN.st (stable_val (stable_val (stable_val (stable_val (stable_val (stable_val (stable_rel SetN.st (stable_val (stable_val (stable_rel SetN.st (stable_val (stable_val (stable_val (stable_val (stable_val (stable_rel SetN.st (stable_val (stable_rel SetN.st (stable_val (stable_val (stable_val (stable_val (stable_nil)))))))))))))))))))))))))))))))))))))))))))))))))))))))))))))))
    case wk =>
      refine' walk_val (by rfl) ?a0 (fun K hK => ?b0); (case a0 => (intro W hW hd; clear hd; go_simp; first | exact ⟨Ext.rf _, rfl⟩ | rfl)); (go_simp; refine hK _ ?_; clear hK K)
      refine' walk_val (by rfl) ?a1 (fun K hK => ?b1); (case a1 => (intro W hW hd; clear hd; go_simp; first | exact ⟨Ext.rf _, rfl⟩ | rfl)); (go_simp; refine hK _ ?_; clear hK K)
      refine' walk_val (by rfl) ?a2 (fun K hK => ?b2); (case a2 => (intro W hW hd; clear hd; go_simp; first | exact ⟨Ext.rf _, rfl⟩ | rfl)); (go_simp; refine hK _ ?_; clear hK K)
      refine' walk_rel (by rfl) ?a3 (fun v3 K hK => ?b3); (case a3 => (intro W hW hd; go_simp; (clear hd; exact makes_rel (OrN 80 (sy W hW) (sz W hW) (by omega) (by omega) (by omega))))); (go_simp; refine hK _ ?_; clear hK K)
      refine' walk_rel (by rfl) ?a4 (fun v4 K hK => ?b4); (case a4 => (intro W hW hd; go_simp; (have hm2 := dep_rel hd ⟨3, .data⟩ 26 v3 (by simp) (by rfl) (by rfl) (by rfl) (by rfl); clear hd; exact makes_rel (LessN 200 (sx W hW) hm2 (by omega) (by omega) (by omega))))); (go_simp; refine hK _ ?_; clear hK K)
      refine' walk_val (by rfl) ?a5 (fun K hK => ?b5); (case a5 => (intro W hW hd; clear hd; go_simp; first | exact ⟨Ext.rf _, rfl⟩ | rfl)); (go_simp; refine hK _ ?_; clear hK K)
      refine' walk_val (by rfl) ?a6 (fun K hK => ?b6); (case a6 => (intro W hW hd; clear hd; go_simp; first | exact ⟨Ext.rf _, rfl⟩ | rfl)); (go_simp; refine hK _ ?_; clear hK K)
      refine' walk_rel (by rfl) ?a7 (fun v7 K hK => ?b7); (case a7 => (intro W hW hd; go_simp; (clear hd; exact makes_rel (LessN 80 (sx W hW) (sy W hW) (by omega) (by omega) (by omega))))); (go_simp; refine hK _ ?_; clear hK K)
      refine' walk_val (by rfl) ?a8 (fun K hK => ?b8); (case a8 => (intro W hW hd; clear hd; go_simp; first | exact ⟨Ext.rf _, rfl⟩ | rfl)); (go_simp; refine hK _ ?_; clear hK K)
      refine' walk_rel (by rfl) ?a9 (fun v9 K hK => ?b9); (case a9 => (intro W hW hd; go_simp; (have hm := dep_rel hd ⟨7, .data⟩ 30 v7 (by simp) (by rfl) (by rfl) (by rfl) (by rfl); clear hd; exact makes_rel (LessN 200 hm (sz W hW) (by omega) (by omega) (by omega))))); (go_simp; refine hK _ ?_; clear hK K)
      refine' walk_val (by rfl) ?a10 (fun K hK => ?b10); (case a10 => (intro W hW hd; go_simp; (have hm := dep_rel hd ⟨4, .data⟩ 27 v4 (by simp) (by rfl) (by rfl) (by rfl) (by rfl); have hm2 := dep_rel hd ⟨9, .data⟩ 32 v9 (by simp) (by rfl) (by rfl) (by rfl) (by rfl); clear hd; exact makes_val (SameN hm hm2 (by omega) (law1 CX.out CY.out CZ.out))))); (go_simp; refine hK _ ?_; clear hK K)
      refine' walk_val (by rfl) ?a11 (fun K hK => ?b11); (case a11 => (intro W hW hd; clear hd; go_simp; first | exact ⟨Ext.rf _, rfl⟩ | rfl)); (go_simp; refine hK _ ?_; clear hK K)
      refine' walk_val (by rfl) ?a12 (fun K hK => ?b12); (case a12 => (intro W hW hd; clear hd; go_simp; first | exact ⟨Ext.rf _, rfl⟩ | rfl)); (go_simp; refine hK _ ?_; clear hK K)
      refine' walk_val (by rfl) ?a13 (fun K hK => ?b13); (case a13 => (intro W hW hd; clear hd; go_simp; first | exact ⟨Ext.rf _, rfl⟩ | rfl)); (go_simp; refine hK _ ?_; clear hK K)
      refine' walk_val (by rfl) ?a14 (fun K hK => ?b14); (case a14 => (intro W hW hd; clear hd; go_simp; first | exact ⟨Ext.rf _, rfl⟩ | rfl)); (go_simp; refine hK _ ?_; clear hK K)
      refine' walk_rel (by rfl) ?a15 (fun v15 K hK => ?b15); (case a15 => (intro W hW hd; go_simp; (clear hd; exact makes_rel (OrN 80 (sy W hW) (sz W hW) (by omega) (by omega) (by omega))))); (go_simp; refine hK _ ?_; clear hK K)
      refine' walk_rel (by rfl) ?a16 (fun v16 K hK => ?b16); (case a16 => (intro W hW hd; go_simp; (have hm2 := dep_rel hd ⟨15, .data⟩ 38 v15 (by simp) (by rfl) (by rfl) (by rfl) (by rfl); clear hd; exact makes_rel (AndN 200 (sx W hW) hm2 (by omega) (by omega) (by omega))))); (go_simp; refine hK _ ?_; clear hK K)
      refine' walk_val (by rfl) ?a17 (fun K hK => ?b17); (case a17 => (intro W hW hd; clear hd; go_simp; first | exact ⟨Ext.rf _, rfl⟩ | rfl)); (go_simp; refine hK _ ?_; clear hK K)
      refine' walk_val (by rfl) ?a18 (fun K hK => ?b18); (case a18 => (intro W hW hd; clear hd; go_simp; first | exact ⟨Ext.rf _, rfl⟩ | rfl)); (go_simp; refine hK _ ?_; clear hK K)
      refine' walk_rel (by rfl) ?a19 (fun v19 K hK => ?b19); (case a19 => (intro W hW hd; go_simp; (clear hd; exact makes_rel (AndN 80 (sx W hW) (sy W hW) (by omega) (by omega) (by omega))))); (go_simp; refine hK _ ?_; clear hK K)
      refine' walk_val (by rfl) ?a20 (fun K hK => ?b20); (case a20 => (intro W hW hd; clear hd; go_simp; first | exact ⟨Ext.rf _, rfl⟩ | rfl)); (go_simp; refine hK _ ?_; clear hK K)
      refine' walk_val (by rfl) ?a21 (fun K hK => ?b21); (case a21 => (intro W hW hd; clear hd; go_simp; first | exact ⟨Ext.rf _, rfl⟩ | rfl)); (go_simp; refine hK _ ?_; clear hK K)
      refine' walk_rel (by rfl) ?a22 (fun v22 K hK => ?b22); (case a22 => (intro W hW hd; go_simp; (clear hd; exact makes_rel (AndN 80 (sx W hW) (sz W hW) (by omega) (by omega) (by omega))))); (go_simp; refine hK _ ?_; clear hK K)
      refine' walk_rel (by rfl) ?a23 (fun v23 K hK => ?b23); (case a23 => (intro W hW hd; go_simp; (have hm := dep_rel hd ⟨19, .data⟩ 42 v19 (by simp) (by rfl) (by rfl) (by rfl) (by rfl); have hm2 := dep_rel hd ⟨22, .data⟩ 45 v22 (by simp) (by rfl) (by rfl) (by rfl) (by rfl); clear hd; exact makes_rel (OrN 320 hm hm2 (by omega) (by omega) (by omega))))); (go_simp; refine hK _ ?_; clear hK K)
      refine' walk_val (by rfl) ?a24 (fun K hK => ?b24); (case a24 => (intro W hW hd; go_simp; (have hm := dep_rel hd ⟨16, .data⟩ 39 v16 (by simp) (by rfl) (by rfl) (by rfl) (by rfl); have hm2 := dep_rel hd ⟨23, .data⟩ 46 v23 (by simp) (by rfl) (by rfl) (by rfl) (by rfl); clear hd; exact makes_val (SameN hm hm2 (by omega) (law2 CX.out CY.out CZ.out))))); (go_simp; refine hK _ ?_; clear hK K)
      refine' walk_val (by rfl) ?a25 (fun K hK => ?b25); (case a25 => (intro W hW hd; clear hd; go_simp; first | exact ⟨Ext.rf _, rfl⟩ | rfl)); (go_simp; refine hK _ ?_; clear hK K)
      refine' walk_val (by rfl) ?a26 (fun K hK => ?b26); (case a26 => (intro W hW hd; clear hd; go_simp; first | exact ⟨Ext.rf _, rfl⟩ | rfl)); (go_simp; refine hK _ ?_; clear hK K)
      refine' walk_val (by rfl) ?a27 (fun K hK => ?b27); (case a27 => (intro W hW hd; clear hd; go_simp; first | exact ⟨Ext.rf _, rfl⟩ | rfl)); (go_simp; refine hK _ ?_; clear hK K)
      refine' walk_val (by rfl) ?a28 (fun K hK => ?b28); (case a28 => (intro W hW hd; clear hd; go_simp; first | exact ⟨Ext.rf _, rfl⟩ | rfl)); (go_simp; refine hK _ ?_; clear hK K)
      refine' walk_rel (by rfl) ?a29 (fun v29 K hK => ?b29); (case a29 => (intro W hW hd; go_simp; (clear hd; exact makes_rel (LessN 80 (sx W hW) (sy W hW) (by omega) (by omega) (by omega))))); (go_simp; refine hK _ ?_; clear hK K)
      refine' walk_val (by rfl) ?a30 (fun K hK => ?b30); (case a30 => (intro W hW hd; clear hd; go_simp; first | exact ⟨Ext.rf _, rfl⟩ | rfl)); (go_simp; refine hK _ ?_; clear hK K)
      refine' walk_val (by rfl) ?a31 (fun K hK => ?b31); (case a31 => (intro W hW hd; clear hd; go_simp; first | exact ⟨Ext.rf _, rfl⟩ | rfl)); (go_simp; refine hK _ ?_; clear hK K)
      refine' walk_rel (by rfl) ?a32 (fun v32 K hK => ?b32); (case a32 => (intro W hW hd; go_simp; (clear hd; exact makes_rel (AndN 80 (sx W hW) (sy W hW) (by omega) (by omega) (by omega))))); (go_simp; refine hK _ ?_; clear hK K)
      refine' walk_rel (by rfl) ?a33 (fun v33 K hK => ?b33); (case a33 => (intro W hW hd; go_simp; (have hm := dep_rel hd ⟨29, .data⟩ 52 v29 (by simp) (by rfl) (by rfl) (by rfl) (by rfl); have hm2 := dep_rel hd ⟨32, .data⟩ 55 v32 (by simp) (by rfl) (by rfl) (by rfl) (by rfl); clear hd; exact makes_rel (OrN 320 hm hm2 (by omega) (by omega) (by omega))))); (go_simp; refine hK _ ?_; clear hK K)
      refine' walk_val (by rfl) ?a34 (fun K hK => ?b34); (case a34 => (intro W hW hd; clear hd; go_simp; first | exact ⟨Ext.rf _, rfl⟩ | rfl)); (go_simp; refine hK _ ?_; clear hK K)
      refine' walk_val (by rfl) ?a35 (fun K hK => ?b35); (case a35 => (intro W hW hd; go_simp; (have hm := dep_rel hd ⟨33, .data⟩ 56 v33 (by simp) (by rfl) (by rfl) (by rfl) (by rfl); clear hd; exact makes_val (SameN hm (sx W hW) (by omega) (law3 CX.out CY.out))))); (go_simp; refine hK _ ?_; clear hK K)
      refine' walk_val (by rfl) ?a36 (fun K hK => ?b36); (case a36 => (intro W hW hd; clear hd; go_simp; first | exact ⟨Ext.rf _, rfl⟩ | rfl)); (go_simp; refine hK _ ?_; clear hK K)
      refine' walk_val (by rfl) ?a37 (fun K hK => ?b37); (case a37 => (intro W hW hd; clear hd; go_simp; first | exact ⟨Ext.rf _, rfl⟩ | rfl)); (go_simp; refine hK _ ?_; clear hK K)
      refine' walk_val (by rfl) ?a38 (fun K hK => ?b38); (case a38 => (intro W hW hd; clear hd; go_simp; first | exact ⟨Ext.rf _, rfl⟩ | rfl)); (go_simp; refine hK _ ?_; clear hK K)
      refine' walk_val (by rfl) ?a39 (fun K hK => ?b39); (case a39 => (intro W hW hd; clear hd; go_simp; first | exact ⟨Ext.rf _, rfl⟩ | rfl)); (go_simp; refine hK _ ?_; clear hK K)
      refine' walk_rel (by rfl) ?a40 (fun v40 K hK => ?b40); (case a40 => (intro W hW hd; go_simp; (clear hd; exact makes_rel (LessN 80 (sx W hW) (sx W hW) (by omega) (by omega) (by omega))))); (go_simp; refine hK _ ?_; clear hK K)
      refine' walk_val (by rfl) ?a41 (fun K hK => ?b41); (case a41 => (intro W hW hd; go_simp; (have hm := dep_rel hd ⟨40, .data⟩ 63 v40 (by simp) (by rfl) (by rfl) (by rfl) (by rfl); clear hd; exact makes_val (LenN hm (law4 CX.out))))); (go_simp; refine hK _ ?_; clear hK K)
      refine' walk_val (by rfl) ?a42 (fun K hK => ?b42); (case a42 => (intro W hW hd; clear hd; go_simp; first | exact ⟨Ext.rf _, rfl⟩ | rfl)); (go_simp; refine hK _ ?_; clear hK K)
      refine' walk_val (by rfl) ?a43 (fun K hK => ?b43); (case a43 => (intro W hW hd; clear hd; go_simp; first | exact ⟨Ext.rf _, rfl⟩ | rfl)); (go_simp; refine hK _ ?_; clear hK K)
      refine' walk_val (by rfl) ?a44 (fun K hK => ?b44); (case a44 => (intro W hW hd; clear hd; go_simp; first | exact ⟨Ext.rf _, rfl⟩ | rfl)); (go_simp; refine hK _ ?_; clear hK K)
      refine' walk_val (by rfl) ?a45 (fun K hK => ?b45); (case a45 => (intro W hW hd; clear hd; go_simp; first | exact ⟨Ext.rf _, rfl⟩ | rfl)); (go_simp; refine hK _ ?_; clear hK K)
      refine' walk_val (by rfl) ?a46 (fun K hK => ?b46); (case a46 => (intro W hW hd; clear hd; go_simp; first | exact ⟨Ext.rf _, rfl⟩ | rfl)); (go_simp; refine hK _ ?_; clear hK K)
      refine' walk_rel (by rfl) ?a47 (fun v47 K hK => ?b47); (case a47 => (intro W hW hd; go_simp; (clear hd; exact makes_rel (OrN 80 (sx W hW) (sy W hW) (by omega) (by omega) (by omega))))); (go_simp; refine hK _ ?_; clear hK K)
      refine' walk_val (by rfl) ?a48 (fun K hK => ?b48); (case a48 => (intro W hW hd; clear hd; go_simp; first | exact ⟨Ext.rf _, rfl⟩ | rfl)); (go_simp; refine hK _ ?_; clear hK K)
      refine' walk_val (by rfl) ?a49 (fun K hK => ?b49); (case a49 => (intro W hW hd; clear hd; go_simp; first | exact ⟨Ext.rf _, rfl⟩ | rfl)); (go_simp; refine hK _ ?_; clear hK K)
      refine' walk_rel (by rfl) ?a50 (fun v50 K hK => ?b50); (case a50 => (intro W hW hd; go_simp; (clear hd; exact makes_rel (OrN 80 (sy W hW) (sx W hW) (by omega) (by omega) (by omega))))); (go_simp; refine hK _ ?_; clear hK K)
      refine' walk_val (by rfl) ?a51 (fun K hK => ?b51); (case a51 => (intro W hW hd; go_simp; (have hm := dep_rel hd ⟨47, .data⟩ 70 v47 (by simp) (by rfl) (by rfl) (by rfl) (by rfl); have hm2 := dep_rel hd ⟨50, .data⟩ 73 v50 (by simp) (by rfl) (by rfl) (by rfl) (by rfl); clear hd; exact makes_val (SameN hm hm2 (by omega) (law5 CX.out CY.out))))); (go_simp; refine hK _ ?_; clear hK K)
      refine' walk_val (by rfl) ?a52 (fun K hK => ?b52); (case a52 => (intro W hW hd; clear hd; go_simp; first | exact ⟨Ext.rf _, rfl⟩ | rfl)); (go_simp; refine hK _ ?_; clear hK K)
      refine' walk_val (by rfl) ?a53 (fun K hK => ?b53); (case a53 => (intro W hW hd; clear hd; go_simp; first | exact ⟨Ext.rf _, rfl⟩ | rfl)); (go_simp; refine hK _ ?_; clear hK K)
      refine' walk_val (by rfl) ?a54 (fun K hK => ?b54); (case a54 => (intro W hW hd; clear hd; go_simp; first | exact ⟨Ext.rf _, rfl⟩ | rfl)); (go_simp; refine hK _ ?_; clear hK K)
      refine' walk_val (by rfl) ?a55 (fun K hK => ?b55); (case a55 => (intro W hW hd; clear hd; go_simp; first | exact ⟨Ext.rf _, rfl⟩ | rfl)); (go_simp; refine hK _ ?_; clear hK K)
      refine' walk_rel (by rfl) ?a56 (fun v56 K hK => ?b56); (case a56 => (intro W hW hd; go_simp; (clear hd; exact makes_rel (LessN 80 (sx W hW) (sy W hW) (by omega) (by omega) (by omega))))); (go_simp; refine hK _ ?_; clear hK K)
      refine' walk_val (by rfl) ?a57 (fun K hK => ?b57); (case a57 => (intro W hW hd; clear hd; go_simp; first | exact ⟨Ext.rf _, rfl⟩ | rfl)); (go_simp; refine hK _ ?_; clear hK K)
      refine' walk_rel (by rfl) ?a58 (fun v58 K hK => ?b58); (case a58 => (intro W hW hd; go_simp; (have hm := dep_rel hd ⟨56, .data⟩ 79 v56 (by simp) (by rfl) (by rfl) (by rfl) (by rfl); clear hd; exact makes_rel (AndN 200 hm (sy W hW) (by omega) (by omega) (by omega))))); (go_simp; refine hK _ ?_; clear hK K)
      refine' walk_val (by rfl) ?a59 (fun K hK => ?b59); (case a59 => (intro W hW hd; clear hd; go_simp; first | exact ⟨Ext.rf _, rfl⟩ | rfl)); (go_simp; refine hK _ ?_; clear hK K)
      refine' walk_val (by rfl) ?a60 (fun K hK => ?b60); (case a60 => (intro W hW hd; go_simp; (have hm := dep_rel hd ⟨58, .data⟩ 81 v58 (by simp) (by rfl) (by rfl) (by rfl) (by rfl); clear hd; exact makes_val (SameN hm (set_nil W) (by omega) (law6 CX.out CY.out))))); (go_simp; refine hK _ ?_; clear hK K)
      refine' walk_val (by rfl) ?a61 (fun K hK => ?b61); (case a61 => (intro W hW hd; clear hd; go_simp; first | exact ⟨Ext.rf _, rfl⟩ | rfl)); (go_simp; refine hK _ ?_; clear hK K)
      refine' walk_val (by rfl) ?a62 (fun K hK => ?b62); (case a62 => (intro W hW hd; clear hd; go_simp; first | exact ⟨Ext.rf _, rfl⟩ | rfl)); (go_simp; refine hK _ ?_; clear hK K)
      refine walk_end (fun W hW hfin => ?_)
      clear hfin k0 k1 k2 sx sy sz
      go_simp
      go_wp2
      go_ret
      exact ⟨rfl, E5.tr hW⟩
end Go.Proofs.YtoimoalkihjcfaaDoor
