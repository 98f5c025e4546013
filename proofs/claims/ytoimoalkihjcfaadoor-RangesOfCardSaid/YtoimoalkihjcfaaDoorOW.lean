/-
  RangesOf: the walk.
-/
import Derived.Test.YtoimoalkihjcfaaDoorOA
import Derived.Test.YtoimoalkihjcfaaDoorNW
namespace Go.Proofs.YtoimoalkihjcfaaDoor
open Go Go.RowKit

set_option maxHeartbeats 8000000 in
set_option maxRecDepth 100000 in
theorem walk_RangesOf (A : Option Addr) (n c : Nat) (l : List Sp) (w : World) (hn : l.length = n) (hmx : n ≤ maxLen) (hs : SpAt w w.heap.size A l) :
    Calls Tryd.prog 3 #[.slice A n c] w fun e w' => e = .returned (.bool true) ∧ Below w.heap.size w w' := by
  have HS := Lib.hid hs
  have HN := Lib.hid hn
  clear hs hn
  have hmx' := hmx
  unfold maxLen at hmx'
  by_cases hbig : 20 < n
  · go_enter Tryd.func3, Tryd.ntmps3
    go_wp2_with fail
    with_reducible refine (wakes_any _).mono ?_
    rintro e w1 ⟨rfl, hb1⟩
    go_wp2_with fail
    have hg := great1 w1.heap.size n c A (w1.alloc (.cells #[.slice A n c] 22)) (by simp) hmx
    rw [show decide (20 < n) = true from by simpa using hbig] at hg
    with_reducible refine hg.mono ?_
    rintro e w2 ⟨rfl, rfl⟩
    clear hg
    go_wp2
    go_ret
    exact ⟨rfl, Ext.tr hb1 ((Below.refl _ _).alloc (Nat.le_refl _) _)⟩
  · have hn20 : n ≤ 20 := by omega
    have hnl : (normL l).length ≤ 20 := by have := normL_len l; have := HN.out; omega
    have hnl' : (normL l).length ≤ 1000000 := by omega
    have HCa : Hid (Canon (normL l)) := (normL_norm l).1
    have hmf : ∀ (fn : Fn) (first cap : Array Value) (w : World), (Instr.makeFunc fn first cap).run Tryd.prog w = .ok (.func fn first cap) w := fun _ _ _ _ => rfl
    go_enter Tryd.func3, Tryd.ntmps3
    go_wp2_with fail
    with_reducible refine (wakes_any _).mono ?_
    rintro e w1 ⟨rfl, hb1⟩
    go_wp2_with fail
    have hg := great1 w1.heap.size n c A (w1.alloc (.cells #[.slice A n c] 22)) (by simp) hmx
    rw [show decide (20 < n) = false from by simpa using hbig] at hg
    with_reducible refine hg.mono ?_
    rintro e w2 ⟨rfl, rfl⟩
    clear hg
    have E1 : Ext w (w1.alloc (.cells #[.slice A n c] 22)) := Ext.tr hb1 ((Below.refl _ _).alloc (Nat.le_refl _) _)
    clear hb1
    go_wp2_with fail
    have hO := Of_set A n c l _ HN.out (by omega) (HS.out.below E1 E1.size)
    with_reducible refine hO.mono ?_
    rintro e w2 ⟨v2, rfl, hset, hb2⟩
    clear hO
    have E2 := Ext.tr E1 hb2
    obtain ⟨A2, n2, c2, rfl, HN2, hcc2, -, -⟩ := hset.split
    have a2 : Ext w2 (w2.alloc (.cells #[.slice A2 n2 c2] 26)) := (Below.refl _ _).alloc (Nat.le_refl _) _
    have b2 := Box.new w2 26 (.slice A2 n2 c2)
    have s2 := IsSet.st _ _ _ hset a2
    have E2' := Ext.tr E2 a2
    clear hset hb2 E1
    go_wp2_with fail
    have hR := rOf_set A n c l _ HN.out (by omega) (HS.out.below E2' E2'.size)
    with_reducible refine hR.mono ?_
    rintro e w3 ⟨v3, rfl, hsp, hb3⟩
    clear hR
    obtain ⟨A3, n3, c3, rfl, HN3, hcc3, -⟩ := hsp.split
    obtain rfl : n3 = n2 := by rw [← HN3.out, HN2.out]
    have z3 : w2.heap.size < w3.heap.size := by have := hb3.size; simp at this; omega
    have a3 : Ext w3 ((w3.alloc (.cells #[.slice A3 n3 c3] 22)).alloc (.cells #[.slice none 0 0] 22)) := ((Below.refl _ _).alloc (Nat.le_refl _) _).alloc (by simp) _
    have E3 := Ext.tr (Ext.tr E2' hb3) a3
    have b3 := b2.ext (Ext.tr hb3 a3)
    have s3 := IsSet.st _ _ _ s2 (Ext.tr hb3 a3)
    have p3 := hsp.below a3
    have bq3 : Box ((w3.alloc (.cells #[.slice A3 n3 c3] 22)).alloc (.cells #[.slice none 0 0] 22)) w3.heap.size 22 (.slice A3 n3 c3) := (Box.new w3 _ _).ext ((Below.refl _ _).alloc (Nat.le_refl _) _)
    have bp3 : Box ((w3.alloc (.cells #[.slice A3 n3 c3] 22)).alloc (.cells #[.slice none 0 0] 22)) (w3.heap.size + 1) 22 (.slice none 0 0) := by have h := Box.new (w3.alloc (.cells #[.slice A3 n3 c3] 22)) 22 (.slice none 0 0); rw [World.size_alloc] at h; exact h
    have cz : ((w3.alloc (.cells #[.slice A3 n3 c3] 22)).alloc (.cells #[.slice none 0 0] 22)).heap.size = w3.heap.size + 2 := by simp
    have c2b := b3.cell
    have hwz := (Ext.tr E2' hb3).size
    clear hb3 a3 s2 b2 E2 E2' a2 hsp
    go_wp2_with fail
    with_reducible refine (All_any A2 n3 c2 _).mono ?_
    rintro e w5 ⟨rfl, rfl⟩
    go_wp2_with fail
    have a5 : Ext ((w3.alloc (.cells #[.slice A3 n3 c3] 22)).alloc (.cells #[.slice none 0 0] 22)) (((w3.alloc (.cells #[.slice A3 n3 c3] 22)).alloc (.cells #[.slice none 0 0] 22)).alloc (.cells #[.slice A2 n3 c2] 26)) := (Below.refl _ _).alloc (Nat.le_refl _) _
    have hsb5 : (((w3.alloc (.cells #[.slice A3 n3 c3] 22)).alloc (.cells #[.slice none 0 0] 22)).alloc (.cells #[.slice A2 n3 c2] 26)).cell? ⟨w3.heap.size + 2, 0, none⟩ = some (.slice A2 n3 c2) := by have h := (Box.new ((w3.alloc (.cells #[.slice A3 n3 c3] 22)).alloc (.cells #[.slice none 0 0] 22)) 26 (.slice A2 n3 c2)).cell; rw [cz] at h; exact h
    have hz5 : (((w3.alloc (.cells #[.slice A3 n3 c3] 22)).alloc (.cells #[.slice none 0 0] 22)).alloc (.cells #[.slice A2 n3 c2] 26)).heap.size = w3.heap.size + 3 := by simp
    have E5 := Ext.tr E3 a5
    have b5 := b3.ext a5
    have s5 := IsSet.st _ _ _ s3 a5
    have p5 := p3.below a5
    have bq5 := bq3.ext a5
    have bp5 := bp3.ext a5
    clear b3 s3 p3 bq3 bp3 c2b cz E3 a5
    generalize ((w3.alloc (.cells #[.slice A3 n3 c3] 22)).alloc (.cells #[.slice none 0 0] 22)).alloc (.cells #[.slice A2 n3 c2] 26) = w5 at *
    obtain ⟨A2', n2', c2', e2, -, -, HS5, -⟩ := s5.split
    injection e2 with e2
    injection e2 with e2
    injection e2 with e2 _
    injection e2 with e2 e2n e2c
    subst e2; subst e2n; subst e2c
    have hs5 := HS5.out
    have hAll := all_of (fun j => decide ((j : Int) + 1 ≤ (n3 : Int))) (fun j W => ∃ v, Box W (w3.heap.size + 1) 22 v ∧ OwnS W w5.heap.size v ((normL l).take j) ∧ Low (w3.heap.size + 1) w5.heap.size w5 W) (.pointer (some ⟨w3.heap.size + 1, 0, none⟩)) (.pointer (some ⟨w3.heap.size, 0, none⟩)) (w3.heap.size + 2) A2 n3 c2 (normL l) HN2.out (by have := HN2.out; omega)
      (fun j W o ⟨v, h1, h2, h3⟩ => ⟨v, h1.ext ((Below.refl _ _).alloc (Nat.le_refl _) _), Below.own h2 ((Below.refl _ _).alloc (Nat.le_refl _) _), h3.tr (Low.of ((Below.refl _ _).alloc h3.size _))⟩)
      (fun W ⟨_, _, _, h⟩ => (h.cell (by omega) (by omega)).trans hsb5)
      (fun j W ⟨_, _, _, h⟩ => hs5.low bp5 h)
      (fun j hj W ⟨v, h1, h2, h3⟩ => by
        have hlen : ((normL l).take j).length = j := by rw [List.length_take]; omega
        refine (of_clo (w3.heap.size + 1) w3.heap.size w5.heap.size _ _ _ v A3 n3 c3 W h3.size (by omega) (by omega) (by omega) (by omega) h1 h2 ((h3.cell (by omega) (by omega)).trans bq5.cell)).mono fun _ _ ⟨he, v', hb, ho, ht⟩ => ?_
        rw [hlen] at he
        refine ⟨he, v', hb, ?_, h3.tr ht⟩
        rw [List.take_succ_eq_append_getElem hj]
        exact ho)
      w5 ⟨_, bp5, World.ownsRow_nil _ _ _ _, Low.refl _ _ _⟩
    with_reducible refine hAll.mono ?_
    rintro e w6 ⟨rfl, r, hr1, hr2, hr3, v6, hbp, hown6, hlow⟩
    clear hAll
    have hrn : r = n3 := by
      rcases hr3 with h | ⟨h0, h⟩
      · exact h
      · have := of_decide_eq_false h; omega
    have hk6 : IsSp w6 v6 (normL l) := by
      have h := IsSp.own hown6
      rwa [hrn, List.take_of_length_le (by have := HN2.out; omega)] at h
    have E6 : Ext w w6 := Low.below E5 hlow (by omega) (by have := E5.size; omega)
    obtain ⟨A6, n6, c6, rfl, -, -, -⟩ := hk6.split
    have HOne := Lib.hid hk6
    have HSp : Hid (IsSp w6 (.slice A3 n3 c3) (normL l)) := by
      obtain ⟨A3', n3', c3', e3, h3n, h3c, h3s⟩ := p5.split
      injection e3 with e3 e3n e3c
      subst e3; subst e3n; subst e3c
      exact IsSp.mk' h3n.out h3c (h3s.low bp5 hlow)
    have HSet : Hid (IsSet w6 (.agg #[.slice A2 n3 c2]) (normL l)) := ⟨_, rfl, IsSp.mk' HN2.out hcc2 (hs5.low bp5 hlow), HCa.out⟩
    have b6 := (hlow.cell (o := 0) (by have := b5.lt; omega) (by omega)).trans b5.cell
    have q6 := (hlow.cell (o := 0) (by omega) (by omega)).trans bq5.cell
    have o6 := hbp.cell
    have z6 := hlow.size
    have len1 : ∀ W, Ext w6 W → Calls Tryd.prog 19 #[.agg #[.slice A2 n3 c2]] W fun e w' => e = .returned (.int .i64 (bytesL (normL l))) ∧ Below W.heap.size W w' := fun W h => Len_set (IsSet.st _ _ _ HSet.out h) hnl'
    have len2 : ∀ W, Ext w6 W → Calls Tryd.prog 20 #[.slice A3 n3 c3] W fun e w' => e = .returned (.int .i64 (bytesL (normL l))) ∧ Below W.heap.size W w' := fun W h => rLen_sp (HSp.out.below h) HCa.out hnl'
    have hz6 : w2.heap.size < w6.heap.size ∧ w3.heap.size < w6.heap.size ∧ w3.heap.size + 1 < w6.heap.size := by omega
    generalize bytesL (normL l) = bl at len1 len2
    clear hr1 hr2 hr3 hbp hown6 hlow bq5 bp5 hs5 hsb5 b5 p5 s5 HS5 E5 hk6
    go_wp2_with fail
    have k0 : ∀ W, Ext w6 W → W.cell? ⟨w2.heap.size, 0, none⟩ = some (.slice A2 n3 c2) := fun W h => by rw [h.cell (p := ⟨w2.heap.size, 0, none⟩) hz6.1]; exact b6
    have k1 : ∀ W, Ext w6 W → W.cell? ⟨w3.heap.size, 0, none⟩ = some (.slice A3 n3 c3) := fun W h => by rw [h.cell (p := ⟨w3.heap.size, 0, none⟩) hz6.2.1]; exact q6
    have k2 : ∀ W, Ext w6 W → W.cell? ⟨w3.heap.size + 1, 0, none⟩ = some (.slice A6 n6 c6) := fun W h => by rw [h.cell (p := ⟨w3.heap.size + 1, 0, none⟩) hz6.2.2]; exact o6
    refine' wp_region_made (rels := relsOf [.val _, .rel (fun v W => IsSp W v (normL l)), .val _, .val _, .val _, .val _, .val _, .val _, .val _, .val _, .val _, .val _, .val _, .val _, .val _, .val _, .val _]) (w := w6) 35 (by kernel_rfl) (by kernel_rfl) (by rfl) (relsOf_stable ?st) ?wk
    case st => exact stable_val (stable_rel IsSp.st (stable_val (stable_val (stable_val (stable_val (stable_val (stable_val (stable_val (stable_val (stable_val (stable_val (stable_val (stable_val (stable_val (stable_val (stable_val (stable_nil)))))))))))))))))
    case wk =>
      refine' walk_val (by rfl) ?a0 (fun K hK => ?b0); (case a0 => (intro W hW hd; clear hd; go_simp; first | exact ⟨Ext.rf _, rfl⟩ | rfl)); (go_simp; refine hK _ ?_; clear hK K)
      refine' walk_rel (by rfl) ?a1 (fun v1 K hK => ?b1); (case a1 => (intro W hW hd; go_simp; (clear hd; exact makes_rel (Spans_set (IsSet.st _ _ _ HSet.out hW) hnl')))); (go_simp; refine hK _ ?_; clear hK K)
      refine' walk_val (by rfl) ?a2 (fun K hK => ?b2); (case a2 => (intro W hW hd; clear hd; go_simp; first | exact ⟨Ext.rf _, rfl⟩ | rfl)); (go_simp; refine hK _ ?_; clear hK K)
      refine' walk_val (by rfl) ?a3 (fun K hK => ?b3); (case a3 => (intro W hW hd; go_simp; (have hm := dep_rel hd ⟨1, .data⟩ 20 v1 (by simp) (by rfl) (by rfl) (by rfl) (by rfl); clear hd; exact makes_val (list_yes hm (HSp.out.below hW) hnl')))); (go_simp; refine hK _ ?_; clear hK K)
      refine' walk_val (by rfl) ?a4 (fun K hK => ?b4); (case a4 => (intro W hW hd; clear hd; go_simp; first | exact ⟨Ext.rf _, rfl⟩ | rfl)); (go_simp; refine hK _ ?_; clear hK K)
      refine' walk_val (by rfl) ?a5 (fun K hK => ?b5); (case a5 => (intro W hW hd; clear hd; go_simp; first | exact ⟨Ext.rf _, rfl⟩ | rfl)); (go_simp; refine hK _ ?_; clear hK K)
      refine' walk_val (by rfl) ?a6 (fun K hK => ?b6); (case a6 => (intro W hW hd; clear hd; go_simp; first | exact ⟨Ext.rf _, rfl⟩ | rfl)); (go_simp; refine hK _ ?_; clear hK K)
      refine' walk_val (by rfl) ?a7 (fun K hK => ?b7); (case a7 => (intro W hW hd; go_simp; (clear hd; exact makes_val (list_yes (HOne.out.below hW) (HSp.out.below hW) hnl')))); (go_simp; refine hK _ ?_; clear hK K)
      refine' walk_val (by rfl) ?a8 (fun K hK => ?b8); (case a8 => (intro W hW hd; clear hd; go_simp; first | exact ⟨Ext.rf _, rfl⟩ | rfl)); (go_simp; refine hK _ ?_; clear hK K)
      refine' walk_val (by rfl) ?a9 (fun K hK => ?b9); (case a9 => (intro W hW hd; clear hd; go_simp; first | exact ⟨Ext.rf _, rfl⟩ | rfl)); (go_simp; refine hK _ ?_; clear hK K)
      refine' walk_val (by rfl) ?a10 (fun K hK => ?b10); (case a10 => (intro W hW hd; clear hd; go_simp; first | exact ⟨Ext.rf _, rfl⟩ | rfl)); (go_simp; refine hK _ ?_; clear hK K)
      refine' walk_val (by rfl) ?a11 (fun K hK => ?b11); (case a11 => (intro W hW hd; go_simp; (clear hd; exact makes_val (len1 W hW)))); (go_simp; refine hK _ ?_; clear hK K)
      refine' walk_val (by rfl) ?a12 (fun K hK => ?b12); (case a12 => (intro W hW hd; clear hd; go_simp; first | exact ⟨Ext.rf _, rfl⟩ | rfl)); (go_simp; refine hK _ ?_; clear hK K)
      refine' walk_val (by rfl) ?a13 (fun K hK => ?b13); (case a13 => (intro W hW hd; go_simp; (clear hd; exact makes_val (len2 W hW)))); (go_simp; refine hK _ ?_; clear hK K)
      refine' walk_val (by rfl) ?a14 (fun K hK => ?b14); (case a14 => (intro W hW hd; clear hd; go_simp; first | exact ⟨Ext.rf _, rfl⟩ | rfl)); (go_simp; refine hK _ ?_; clear hK K)
      refine' walk_val (by rfl) ?a15 (fun K hK => ?b15); (case a15 => (intro W hW hd; clear hd; go_simp; first | exact ⟨Ext.rf _, rfl⟩ | rfl)); (go_simp; refine hK _ ?_; clear hK K)
      refine' walk_val (by rfl) ?a16 (fun K hK => ?b16); (case a16 => (intro W hW hd; clear hd; go_simp; first | exact ⟨Ext.rf _, rfl⟩ | rfl)); (go_simp; refine hK _ ?_; clear hK K)
      refine walk_end (fun W hW hfin => ?_)
      clear hfin k0 k1 k2 len1 len2
      go_simp
      go_wp2
      go_ret
      exact ⟨rfl, E6.tr hW⟩
end Go.Proofs.YtoimoalkihjcfaaDoor
