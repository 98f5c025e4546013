/-
  RangesTwo: the walk.
-/
import Derived.Test.YtoimoalkihjcfaaDoorCC
import Derived.Test.YtoimoalkihjcfaaDoorTA
namespace Go.Proofs.YtoimoalkihjcfaaDoor
open Go Go.RowKit

def SetB (W : World) (v : Value) (l : List Sp) : Prop := IsSet W v l ∧ l.length ≤ 1000000
theorem SetB.st {out : List Sp} : ∀ v W W', SetB W v out → Ext W W' → SetB W' v out := fun v W W' h e => ⟨IsSet.st v W W' h.1 e, h.2⟩
def SpB (W : World) (v : Value) (l : List Sp) : Prop := IsSp W v l ∧ l.length ≤ 1000000
theorem SpB.st {out : List Sp} : ∀ v W W', SpB W v out → Ext W W' → SpB W' v out := fun _ _ _ h e => ⟨h.1.below e, h.2⟩
theorem SpansB {W : World} {v : Value} {l : List Sp} (h : SetB W v l) :
    Calls Tryd.prog 18 #[v] W fun e w' => ∃ v', e = .returned v' ∧ SpB w' v' l ∧ Below W.heap.size W w' :=
  (Spans_set h.1 h.2).mono fun _ _ ⟨v, he, hh, hb⟩ => ⟨v, he, ⟨hh, h.2⟩, hb⟩
theorem listB {W : World} {v u : Value} {l : List Sp} (h : SpB W v l) (k : IsSp W u l) :
    Calls Tryd.prog 17 #[v, u] W fun e w' => e = .returned (.bool true) ∧ Below W.heap.size W w' := list_yes h.1 k h.2
theorem OrB {W : World} {v u : Value} {a b : List Sp} (h : IsSet W v a) (k : IsSet W u b) (hm : a.length ≤ 100000) (hm' : b.length ≤ 100000) :
    Calls Tryd.prog 22 #[v, u] W fun e w' => ∃ v', e = .returned v' ∧ SetB w' v' (keepL 1 a b) ∧ Below W.heap.size W w' :=
  (Or_set h k hm hm').mono fun _ _ ⟨v, he, hh, hb⟩ => ⟨v, he, ⟨hh.1, by have := hh.2; omega⟩, hb⟩
theorem rOrB {W : World} {v u : Value} {a b : List Sp} (h : IsSp W v a) (k : IsSp W u b) (hm : a.length ≤ 100000) (hm' : b.length ≤ 100000) :
    Calls Tryd.prog 23 #[v, u] W fun e w' => ∃ v', e = .returned v' ∧ IsSp w' v' (keepL 1 a b) ∧ Below W.heap.size W w' :=
  (rOr_set h k hm hm').mono fun _ _ ⟨v, he, hh, hb⟩ => ⟨v, he, hh.1, hb⟩
theorem AndB {W : World} {v u : Value} {a b : List Sp} (h : IsSet W v a) (k : IsSet W u b) (hm : a.length ≤ 100000) (hm' : b.length ≤ 100000) :
    Calls Tryd.prog 24 #[v, u] W fun e w' => ∃ v', e = .returned v' ∧ SetB w' v' (keepL 2 a b) ∧ Below W.heap.size W w' :=
  (And_set h k hm hm').mono fun _ _ ⟨v, he, hh, hb⟩ => ⟨v, he, ⟨hh.1, by have := hh.2; omega⟩, hb⟩
theorem rAndB {W : World} {v u : Value} {a b : List Sp} (h : IsSp W v a) (k : IsSp W u b) (hm : a.length ≤ 100000) (hm' : b.length ≤ 100000) :
    Calls Tryd.prog 25 #[v, u] W fun e w' => ∃ v', e = .returned v' ∧ IsSp w' v' (keepL 2 a b) ∧ Below W.heap.size W w' :=
  (rAnd_set h k hm hm').mono fun _ _ ⟨v, he, hh, hb⟩ => ⟨v, he, hh.1, hb⟩
theorem LessB {W : World} {v u : Value} {a b : List Sp} (h : IsSet W v a) (k : IsSet W u b) (hm : a.length ≤ 100000) (hm' : b.length ≤ 100000) :
    Calls Tryd.prog 26 #[v, u] W fun e w' => ∃ v', e = .returned v' ∧ SetB w' v' (keepL 3 a b) ∧ Below W.heap.size W w' :=
  (Less_set h k hm hm').mono fun _ _ ⟨v, he, hh, hb⟩ => ⟨v, he, ⟨hh.1, by have := hh.2; omega⟩, hb⟩
theorem rLessB {W : World} {v u : Value} {a b : List Sp} (h : IsSp W v a) (k : IsSp W u b) (hm : a.length ≤ 100000) (hm' : b.length ≤ 100000) :
    Calls Tryd.prog 27 #[v, u] W fun e w' => ∃ v', e = .returned v' ∧ IsSp w' v' (keepL 3 a b) ∧ Below W.heap.size W w' :=
  (rLess_set h k hm hm').mono fun _ _ ⟨v, he, hh, hb⟩ => ⟨v, he, hh.1, hb⟩

theorem great2 (b n c n' c' : Nat) (A A' : Option Addr) (w : World) (h0 : w.cell? ⟨b, 0, none⟩ = some (.slice A n c)) (h1 : w.cell? ⟨b, 1, none⟩ = some (.slice A' n' c')) (hn : n ≤ maxLen) (hn' : n' ≤ maxLen) :
    Calls Tryd.prog 12 #[.slice (some ⟨b, 0, none⟩) 2 2] w fun e w' => e = .returned (.bool (decide (20 < n) || decide (20 < n'))) ∧ w = w' := by
  have h := great_any b 2 (fun j => if j = 0 then A else A') (fun j => if j = 0 then n else n') (fun j => if j = 0 then c else c') w (by omega)
    (fun j hj => by
      match j, hj with
      | 0, _ => exact h0
      | 1, _ => exact h1) (fun j _ => by show (if j = 0 then n else n') ≤ maxLen; split <;> assumption)
  rwa [show greatB (fun j => if j = 0 then n else n') 2 = (decide (20 < n) || decide (20 < n')) from by simp [greatB, List.range_succ]] at h

set_option maxHeartbeats 16000000 in
set_option maxRecDepth 100000 in
theorem walk_RangesTwo (A : Option Addr) (n c : Nat) (l : List Sp) (A' : Option Addr) (n' c' : Nat) (m : List Sp) (w : World) (hn : l.length = n) (hmx : n ≤ maxLen) (hs : SpAt w w.heap.size A l) (hn' : m.length = n') (hmx' : n' ≤ maxLen) (hs' : SpAt w w.heap.size A' m) :
    Calls Tryd.prog 5 #[.slice A n c, .slice A' n' c'] w fun e w' => e = .returned (.bool true) ∧ Below w.heap.size w w' := by
  have HS := Lib.hid hs; have HS' := Lib.hid hs'
  have HN := Lib.hid hn; have HN' := Lib.hid hn'
  clear hs hn hs' hn'
  by_cases hbig : 20 < n ∨ 20 < n'
  · go_enter Tryd.func5, Tryd.ntmps5
    go_wp2_with fail
    with_reducible refine (wakes_any _).mono ?_
    rintro e w1 ⟨rfl, hb1⟩
    go_wp2_with fail
    have hg := great2 w1.heap.size n c n' c' A A' (w1.alloc (.cells #[.slice A n c, .slice A' n' c'] 22)) (by simp) (by simp) hmx hmx'
    rw [show (decide (20 < n) || decide (20 < n')) = true from by simpa using hbig] at hg
    with_reducible refine hg.mono ?_
    rintro e w2 ⟨rfl, rfl⟩
    clear hg
    go_wp2
    go_ret
    exact ⟨rfl, Ext.tr hb1 ((Below.refl _ _).alloc (Nat.le_refl _) _)⟩
  · have hn20 : n ≤ 20 ∧ n' ≤ 20 := by omega
    have hl1 : (normL l).length ≤ 100000 := by have := normL_len l; have := HN.out; omega
    have hl2 : (normL m).length ≤ 100000 := by have := normL_len m; have := HN'.out; omega
    have hl1' : (normL l).length ≤ 1000000 := by omega
    have HCa : Hid (Canon (normL l)) := (normL_norm l).1
    have HCb : Hid (Canon (normL m)) := (normL_norm m).1
    go_enter Tryd.func5, Tryd.ntmps5
    go_wp2_with fail
    with_reducible refine (wakes_any _).mono ?_
    rintro e w1 ⟨rfl, hb1⟩
    go_wp2_with fail
    have hg := great2 w1.heap.size n c n' c' A A' (w1.alloc (.cells #[.slice A n c, .slice A' n' c'] 22)) (by simp) (by simp) hmx hmx'
    rw [show (decide (20 < n) || decide (20 < n')) = false from by simpa using hbig] at hg
    with_reducible refine hg.mono ?_
    rintro e w2 ⟨rfl, rfl⟩
    clear hg
    have E1 : Ext w (w1.alloc (.cells #[.slice A n c, .slice A' n' c'] 22)) := Ext.tr hb1 ((Below.refl _ _).alloc (Nat.le_refl _) _)
    clear hb1
    go_wp2_with fail
    have hO := Of_set A n c l _ HN.out (by omega) (HS.out.below E1 E1.size)
    with_reducible refine hO.mono ?_
    rintro e w2 ⟨v2, rfl, hset, hb2⟩
    clear hO
    have E2 := Ext.tr E1 hb2
    clear hb2 E1
    go_wp2_with fail
    have hO := Of_set A' n' c' m _ HN'.out (by omega) (HS'.out.below E2 E2.size)
    with_reducible refine hO.mono ?_
    rintro e w3 ⟨v3, rfl, hset', hb3⟩
    clear hO
    have E3 := Ext.tr E2 hb3
    have hset := IsSet.st _ _ _ hset hb3
    obtain ⟨A2, n2, c2, rfl, -, -, -, -⟩ := hset.split
    obtain ⟨A3, n3, c3, rfl, -, -, -, -⟩ := hset'.split
    clear hb3 E2
    go_wp2_with fail
    have a4 : Ext w3 ((w3.alloc (.cells #[.slice A2 n2 c2] 26)).alloc (.cells #[.slice A3 n3 c3] 26)) := ((Below.refl _ _).alloc (Nat.le_refl _) _).alloc (by simp) _
    have E4 := Ext.tr E3 a4
    have hR := rOf_set A n c l _ HN.out (by omega) (HS.out.below E4 E4.size)
    with_reducible refine hR.mono ?_
    rintro e w5 ⟨v5, rfl, hsp, hb5⟩
    clear hR
    have E5 := Ext.tr E4 hb5
    have e35 := Ext.tr a4 hb5
    have b0 : Box w5 w3.heap.size 26 (.slice A2 n2 c2) := ((Box.new w3 _ _).ext ((Below.refl _ _).alloc (Nat.le_refl _) _)).ext hb5
    have b1 : Box w5 (w3.heap.size + 1) 26 (.slice A3 n3 c3) := by
      have h := (Box.new (w3.alloc (.cells #[.slice A2 n2 c2] 26)) 26 (.slice A3 n3 c3)).ext hb5
      rw [World.size_alloc] at h; exact h
    clear hb5 a4 E4
    go_wp2_with fail
    have hR := rOf_set A' n' c' m _ HN'.out (by omega) (HS'.out.below E5 E5.size)
    with_reducible refine hR.mono ?_
    rintro e w6 ⟨v6, rfl, hsp', hb6⟩
    clear hR
    have E6 := Ext.tr E5 hb6
    have HA := Lib.hid (IsSet.st _ _ _ hset (Ext.tr e35 hb6))
    have HB := Lib.hid (IsSet.st _ _ _ hset' (Ext.tr e35 hb6))
    have HX := Lib.hid (hsp.below hb6)
    have HY := Lib.hid hsp'
    obtain ⟨A5, n5, c5, rfl, -, -, -⟩ := hsp.split
    obtain ⟨A6, n6, c6, rfl, -, -, -⟩ := hsp'.split
    have k0 : ∀ W, Ext w6 W → W.cell? ⟨w3.heap.size, 0, none⟩ = some (.slice A2 n2 c2) := fun W h => ((b0.ext hb6).ext h).cell
    have k1 : ∀ W, Ext w6 W → W.cell? ⟨w3.heap.size + 1, 0, none⟩ = some (.slice A3 n3 c3) := fun W h => ((b1.ext hb6).ext h).cell
    have hSame := fun W (hW : Ext w6 W) => Same_set (IsSet.st _ _ _ HA.out hW) (IsSet.st _ _ _ HB.out hW) hl1'
    have hrSame := fun W (hW : Ext w6 W) => rSame_sp (HX.out.below hW) (HY.out.below hW) HCa.out HCb.out hl1 hl2
    have z6 : w3.heap.size < w6.heap.size ∧ w3.heap.size + 1 < w6.heap.size := ⟨(b0.ext hb6).lt, (b1.ext hb6).lt⟩
    clear hb6 hsp hsp' hset hset' b0 b1 e35 E5 E3
    have E66 : Ext w6 w6 := Below.refl _ _
    have d0 := k0 w6 E66
    have d1 := k1 w6 E66
    go_wp2_with fail
    with_reducible refine (OrB (IsSet.st _ _ _ HA.out E66) (IsSet.st _ _ _ HB.out E66) hl1 hl2).mono ?_
    rintro e w7 ⟨v7, rfl, h7, hb7⟩
    have E7 := Ext.tr E66 hb7
    clear d0 d1
    have d0 := k0 w7 E7
    have d1 := k1 w7 E7
    have H7 := Lib.hid h7
    clear h7 hb7
    go_wp2_with fail
    with_reducible refine (SpansB H7.out).mono ?_
    rintro e w8 ⟨v8, rfl, h8, hb8⟩
    have E8 := Ext.tr E7 hb8
    clear d0 d1
    have d0 := k0 w8 E8
    have d1 := k1 w8 E8
    have H8 := Lib.hid h8
    clear h8 hb8 H7
    go_wp2_with fail
    with_reducible refine (rOrB (HX.out.below E8) (HY.out.below E8) hl1 hl2).mono ?_
    rintro e w9 ⟨v9, rfl, h9, hb9⟩
    have E9 := Ext.tr E8 hb9
    clear d0 d1
    have d0 := k0 w9 E9
    have d1 := k1 w9 E9
    have H9 := Lib.hid h9
    have G8 := Lib.hid (SpB.st _ _ _ H8.out hb9)
    clear h9 hb9 H8
    go_wp2_with fail
    with_reducible refine (listB G8.out H9.out).mono ?_
    rintro e w10 ⟨rfl, hb10⟩
    have E10 := Ext.tr E9 hb10
    clear d0 d1
    have d0 := k0 w10 E10
    have d1 := k1 w10 E10
    clear hb10 G8 H9
    go_wp2_with fail
    with_reducible refine (AndB (IsSet.st _ _ _ HA.out E10) (IsSet.st _ _ _ HB.out E10) hl1 hl2).mono ?_
    rintro e w11 ⟨v11, rfl, h11, hb11⟩
    have E11 := Ext.tr E10 hb11
    clear d0 d1
    have d0 := k0 w11 E11
    have d1 := k1 w11 E11
    have H11 := Lib.hid h11
    clear h11 hb11
    go_wp2_with fail
    with_reducible refine (SpansB H11.out).mono ?_
    rintro e w12 ⟨v12, rfl, h12, hb12⟩
    have E12 := Ext.tr E11 hb12
    clear d0 d1
    have d0 := k0 w12 E12
    have d1 := k1 w12 E12
    have H12 := Lib.hid h12
    clear h12 hb12 H11
    go_wp2_with fail
    with_reducible refine (rAndB (HX.out.below E12) (HY.out.below E12) hl1 hl2).mono ?_
    rintro e w13 ⟨v13, rfl, h13, hb13⟩
    have E13 := Ext.tr E12 hb13
    clear d0 d1
    have d0 := k0 w13 E13
    have d1 := k1 w13 E13
    have H13 := Lib.hid h13
    have G12 := Lib.hid (SpB.st _ _ _ H12.out hb13)
    clear h13 hb13 H12
    go_wp2_with fail
    with_reducible refine (listB G12.out H13.out).mono ?_
    rintro e w14 ⟨rfl, hb14⟩
    have E14 := Ext.tr E13 hb14
    clear d0 d1
    have d0 := k0 w14 E14
    have d1 := k1 w14 E14
    clear hb14 G12 H13
    go_wp2_with fail
    with_reducible refine (LessB (IsSet.st _ _ _ HA.out E14) (IsSet.st _ _ _ HB.out E14) hl1 hl2).mono ?_
    rintro e w15 ⟨v15, rfl, h15, hb15⟩
    have E15 := Ext.tr E14 hb15
    clear d0 d1
    have d0 := k0 w15 E15
    have d1 := k1 w15 E15
    have H15 := Lib.hid h15
    clear h15 hb15
    go_wp2_with fail
    with_reducible refine (SpansB H15.out).mono ?_
    rintro e w16 ⟨v16, rfl, h16, hb16⟩
    have E16 := Ext.tr E15 hb16
    clear d0 d1
    have d0 := k0 w16 E16
    have d1 := k1 w16 E16
    have H16 := Lib.hid h16
    clear h16 hb16 H15
    go_wp2_with fail
    with_reducible refine (rLessB (HX.out.below E16) (HY.out.below E16) hl1 hl2).mono ?_
    rintro e w17 ⟨v17, rfl, h17, hb17⟩
    have E17 := Ext.tr E16 hb17
    clear d0 d1
    have d0 := k0 w17 E17
    have d1 := k1 w17 E17
    have H17 := Lib.hid h17
    have G16 := Lib.hid (SpB.st _ _ _ H16.out hb17)
    clear h17 hb17 H16
    go_wp2_with fail
    with_reducible refine (listB G16.out H17.out).mono ?_
    rintro e w18 ⟨rfl, hb18⟩
    have E18 := Ext.tr E17 hb18
    clear d0 d1
    have d0 := k0 w18 E18
    have d1 := k1 w18 E18
    clear hb18 G16 H17
    generalize hkk : decide (normL l = normL m) = kk at hSame hrSame
    go_wp2_with fail
    with_reducible refine (hSame w18 E18).mono ?_
    rintro e w19 ⟨rfl, hb19⟩
    have E19 := Ext.tr E18 hb19
    clear d0 d1
    go_wp2_with fail
    with_reducible refine (hrSame w19 E19).mono ?_
    rintro e w20 ⟨rfl, hb20⟩
    have E20 := Ext.tr E19 hb20
    go_wp2
    go_ret
    exact ⟨ret_bool (by simp), E6.tr E20⟩
end Go.Proofs.YtoimoalkihjcfaaDoor
