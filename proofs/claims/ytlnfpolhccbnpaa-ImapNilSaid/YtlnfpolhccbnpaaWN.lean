/-
  ImapNil: the walk.
-/
import Derived.Test.YtlnfpolhccbnpaaWS
import Derived.Test.YtlnfpolhccbnpaaR3
import Derived.Test.YtlnfpolhccbnpaaJ1
namespace Go.Proofs.Ytlnfpolhccbnpaa
open Go Go.RowKit

set_option maxHeartbeats 4000000 in
theorem clone_nil (w : World) : Calls Try.prog 28 #[.pointer none] w fun e w' => e = .returned (.pointer none) ∧ w' = w := by
  go_enter Try.func28, Try.ntmps28
  go_wp2
  go_ret
  exact ⟨rfl, rfl⟩
theorem all_nil (w : World) : Calls Try.prog 16 #[.pointer none] w fun e w' => (∃ A' c', e = .returned (.slice A' 0 c')) ∧ Ext w w' :=
  (all_any _ none 0 0 [] w (Lists.nil w) rfl (by omega) (fun h => absurd h (by simp))).mono fun _ _ ⟨A', n', c', he, hl, _, hE⟩ => ⟨⟨A', c', by rw [he, ← hl]; rfl⟩, hE⟩
theorem in_nil (a b : Int) (w : World) : Calls Try.prog 19 #[.pointer none, .agg #[.int .i64 a, .int .i64 b]] w fun e w' => (∃ A' c', e = .returned (.slice A' 0 c')) ∧ Ext w w' :=
  (inl_any _ none 0 0 [] a b w (Lists.nil w) rfl (by omega) (by omega) trivial (fun h => absurd h (by simp))).mono fun _ _ ⟨A', n', c', he, hl, _, hE⟩ => ⟨⟨A', c', by
    have h0 := inI_len [] a b
    have : n' = 0 := by simp only [List.length_nil] at h0; omega
    rw [he, this]⟩, hE⟩
theorem of_nil (v : Int) (w : World) : Calls Try.prog 22 #[.pointer none, .int .i64 v] w fun e w' => ∃ u, e = .returned u ∧ Rg.IsSet w' u [] ∧ Ext w w' :=
  (OfM_any _ none 0 0 [] v w (Lists.nil w) rfl (by omega) (fun h => absurd h (by simp))).mono fun _ _ ⟨u, he, hs, hE⟩ => ⟨u, he, by
    have h0 := Rg.normL_len (spV v [])
    have h1 : Rg.normL (spV v []) = [] := List.eq_nil_of_length_eq_zero (by simp [spV, spK] at h0 ⊢; exact h0)
    rwa [h1] at hs, hE⟩
theorem known_nil (w : World) : Calls Try.prog 25 #[.pointer none] w fun e w' => ∃ u, e = .returned u ∧ Rg.IsSet w' u [] ∧ Ext w w' :=
  (KnownM_any _ none 0 0 [] w (Lists.nil w) rfl (by omega) (fun h => absurd h (by simp))).mono fun _ _ ⟨u, he, hs, hE⟩ => ⟨u, he, by
    have h0 := Rg.normL_len (spK [])
    have h1 : Rg.normL (spK []) = [] := List.eq_nil_of_length_eq_zero (by simp [spK] at h0 ⊢; exact h0)
    rwa [h1] at hs, hE⟩
theorem spans_nil {u : Value} {W : World} (h : Rg.IsSet W u []) : Calls Try.prog 23 #[u] W fun e w' => (∃ A' c', e = .returned (.slice A' 0 c')) ∧ Ext W w' :=
  (Rg.Spans_set h (by simp)).mono fun _ _ ⟨y, he, ⟨A, c, hy, _, _⟩, hE⟩ => ⟨⟨A, c, by rw [he, hy]; rfl⟩, hE⟩
theorem get_nil (p : Int) (w : World) : Calls Try.prog 17 #[.pointer none, .int .i64 p] w fun e w' => e = .returned (.tuple #[.int .i64 0, .agg #[.int .i64 0, .int .i64 0], .bool false]) ∧ Ext w w' :=
  (get_any _ none 0 0 [] p w (Lists.nil w) rfl (by omega) trivial (fun h => absurd h (by simp))).mono fun _ _ ⟨he, hE⟩ => ⟨by
    have h : getI [] p = (0, 0, 0, false) := by unfold getI; simp
    rw [he, h], hE⟩

theorem IsRn.sl {D : List Rn} {v : Value} {W : World} (h : IsRn D v W) : ∃ A n c, v = .slice A n c ∧ D.length = n := by
  obtain ⟨A, n, c, e, hl, _⟩ := h
  exact ⟨A, n, c, e, hl⟩
theorem put_one (a b v : Int) : (putI [] a b v).length ≤ 1 := by
  by_cases h : 0 < lenI a b
  · have hp := len_pos.1 h
    have ho : (opnI : Int) = 4611686018427387904 := rfl
    have hg : Good 0 Option.none [(a, b, v)] := ⟨hp.1, hp.2.1, by simp only; omega, fun _ => by simp, trivial⟩
    have e := good_unique (putI_good a b v (l := []) trivial) hg (fun q hq => by
      rw [putI_tell a b v (l := []) trivial q]
      by_cases hab : a ≤ q ∧ q < b
      · rw [if_pos ⟨h, hab⟩]; simp [tell, hab]
      · rw [if_neg (fun h' => hab h'.2)]; simp [tell]; omega)
    rw [e]; simp
  · unfold putI; rw [if_neg h]; simp
/-- two maps, apart from each other -/
structure St (B zb nb : Nat) (w0 : World) (Dz Dn : List Rn) (W : World) : Prop where
  bz : B ≤ zb
  bn : B ≤ nb
  ne : zb ≠ nb
  bel : Below B w0 W
  maps : ∃ A n c A' n' c', MapAt W B zb A n c Dz ∧ MapAt W B nb A' n' c' Dn ∧ (∀ g, (Value.slice A n c).ownBlock = some g → g ≠ nb ∧ (Value.slice A' n' c').ownBlock ≠ some g) ∧ (∀ g, (Value.slice A' n' c').ownBlock = some g → g ≠ zb)
theorem St.swap {B zb nb : Nat} {w0 W : World} {Dz Dn : List Rn} (h : St B zb nb w0 Dz Dn W) : St B nb zb w0 Dn Dz W := by
  obtain ⟨A, n, c, A', n', c', h1, h2, h3, h4⟩ := h.maps
  exact ⟨h.bn, h.bz, h.ne.symm, h.bel, A', n', c', A, n, c, h2, h1, fun g hg => ⟨h4 g hg, fun e => (h3 g e).2 hg⟩, fun g hg => (h3 g hg).1⟩
theorem St.ext {B zb nb : Nat} {w0 W W' : World} {Dz Dn : List Rn} (h : St B zb nb w0 Dz Dn W) (hB : B ≤ w0.heap.size) (e : Ext W W') : St B zb nb w0 Dz Dn W' := by
  obtain ⟨A, n, c, A', n', c', h1, h2, h3, h4⟩ := h.maps
  exact ⟨h.bz, h.bn, h.ne, h.bel.trans (e.mono (Nat.le_trans hB h.bel.size)), A, n, c, A', n', c', h1.ext e, h2.ext e, h3, h4⟩
theorem St.put {B zb nb : Nat} {w0 W : World} {Dz Dn : List Rn} (h : St B zb nb w0 Dz Dn W) (hB : B ≤ w0.heap.size) (hg : Good 0 Option.none Dz) (hl : Dz.length ≤ 100) (a b v : Int) :
    Calls Try.prog 30 #[.pointer (some ⟨zb, 0, none⟩), .agg #[.int .i64 a, .int .i64 b], .int .i64 v] W fun e w' => e = .returned (.int .i64 (if 0 < lenI a b then 0 else 1)) ∧ St B zb nb w0 (putI Dz a b v) Dn w' := by
  obtain ⟨A, n, c, A', n', c', h1, h2, h3, h4⟩ := h.maps
  have hBW := Nat.le_trans hB h.bel.size
  refine (put_any B zb A n c Dz a b v W h1 hg (by have := h1.len; omega) hBW).mono ?_
  rintro e w' ⟨rfl, A1, n1, c1, g1, g2, g3⟩
  have hnl := h2.box.lt
  refine ⟨rfl, h.bz, h.bn, h.ne, h.bel.trans (g2.below hBW h.bz (fun k hk => (World.ownsRow.lt h1.own k hk).1)), A1, n1, c1, A', n', c', g1, h2.at' (g2.block nb hnl h.ne.symm (fun e => (h3 nb e.symm).1 rfl)) (fun g hg => g2.block g (World.ownsRow.lt h2.own g hg).2 (h4 g hg) (fun e => (h3 g e.symm).2 hg)), fun g hg => ?_, h4⟩
  rcases g3 with hk | ⟨k, hk, hz⟩
  · exact h3 g (hk ▸ hg)
  · rw [hk] at hg
    injection hg with hg
    subst hg
    exact ⟨by omega, fun e => by have := (World.ownsRow.lt h2.own k e).2; omega⟩
theorem St.all {B zb nb : Nat} {w0 W : World} {Dz Dn : List Rn} (h : St B zb nb w0 Dz Dn W) (hl : Dz.length ≤ 9000) :
    Calls Try.prog 16 #[.pointer (some ⟨zb, 0, none⟩)] W fun e w' => ∃ x, e = .returned x ∧ IsRn Dz x w' ∧ Below W.heap.size W w' := by
  obtain ⟨A, n, c, _, _, _, h1, _⟩ := h.maps
  exact all_is h1 hl

set_option maxHeartbeats 32000000 in
set_option maxRecDepth 100000 in
theorem walk_ImapNil (a b v p : Int) (w : World) (_ : (Lit.int .i64 a).wf = true) (_ : (Lit.int .i64 b).wf = true) (_ : (Lit.int .i64 p).wf = true) :
    Calls Try.prog 10 #[.agg #[.int .i64 a, .int .i64 b], .int .i64 v, .int .i64 p] w fun e w' => e = .returned (.bool true) ∧ Below w.heap.size w w' := by
  have e0 : Ext w (w.alloc (.cells #[.int .i64 a, .int .i64 b] 35)) := (Below.refl _ _).alloc (Nat.le_refl _) _
  go_enter Try.func10, Try.ntmps10
  go_wp2_with fail
  with_reducible refine (alive_any _).mono ?_
  rintro e w1 ⟨rfl, E1⟩
  have HB1 := (Twin.new w 35 (.int .i64 a) (.int .i64 b)).ext E1
  have E1 := Ext.tr e0 E1
  have ka := HB1.c0
  have kb := HB1.c1
  go_wp2_with fail
  with_reducible refine (drop_nil a b _).mono ?_
  rintro e w2 ⟨rfl, F2⟩
  have E2 := Ext.tr E1 F2
  have HB2 := HB1.ext F2
  clear E1 F2 HB1 ka kb
  go_wp2_with fail
  with_reducible refine (get_nil p _).mono ?_
  rintro e w3 ⟨rfl, F3⟩
  have E3 := Ext.tr E2 F3
  have HB3 := (HB2.ext F3).alloc (.cells #[.int .i64 0, .int .i64 0] 35)
  have HX3 := Twin.new w3 35 (.int .i64 0) (.int .i64 0)
  have E3 := Ext.tr E3 ((Below.refl _ _).alloc (Nat.le_refl _) _ : Ext w3 (w3.alloc (.cells #[.int .i64 0, .int .i64 0] 35)))
  have ka := HB3.c0
  have kb := HB3.c1
  clear E2 F3 HB2
  go_wp2_with fail
  have x0 := HX3.c0
  have x1 := HX3.c1
  go_wp2_with fail
  with_reducible refine (put_nil a b v _).mono ?_
  rintro e w4 ⟨rfl, F4⟩
  have E4 := Ext.tr E3 F4
  have HB4 := HB3.ext F4
  have HX4 := HX3.ext F4
  clear E3 F4 HB3 HX3 ka kb x0 x1
  have ka := HB4.c0
  have kb := HB4.c1
  have x0 := HX4.c0
  have x1 := HX4.c1
  go_wp2_with fail
  with_reducible refine (len_map _ none 0 0 w4 (Lists.nil w4)).mono ?_
  rintro e w5 ⟨rfl, hw5⟩
  subst hw5
  have E5 := E4
  have HB5 := HB4
  clear E4 HB4 HX4
  go_wp2_with fail
  with_reducible refine (all_nil _).mono ?_
  rintro e w6 ⟨⟨A6, c6, rfl⟩, F6⟩
  have E6 := Ext.tr E5 F6
  have HB6 := HB5.ext F6
  clear E5 HB5 ka kb
  have ka := HB6.c0
  have kb := HB6.c1
  go_wp2_with fail
  with_reducible refine (in_nil a b _).mono ?_
  rintro e w7 ⟨⟨A7, c7, rfl⟩, F7⟩
  have E7 := Ext.tr E6 F7
  have HB7 := HB6.ext F7
  clear E6 HB6 ka kb
  have ka := HB7.c0
  have kb := HB7.c1
  go_wp2_with fail
  with_reducible refine (clone_nil _).mono ?_
  rintro e w8 ⟨rfl, hw8⟩
  subst hw8
  have E8 := E7
  have HB8 := HB7
  clear E7 HB7
  go_wp2_with fail
  with_reducible refine (of_nil v _).mono ?_
  rintro e w9 ⟨u9, rfl, h9, F9⟩
  have E9 := Ext.tr E8 F9
  have HB9 := HB8.ext F9
  clear E8 HB8 ka kb
  have ka := HB9.c0
  have kb := HB9.c1
  go_wp2_with fail
  with_reducible refine (spans_nil h9).mono ?_
  rintro e w10 ⟨⟨A10, c10, rfl⟩, F10⟩
  have E10 := Ext.tr E9 F10
  have HB10 := HB9.ext F10
  clear E9 HB9 ka kb
  have ka := HB10.c0
  have kb := HB10.c1
  go_wp2_with fail
  with_reducible refine (known_nil _).mono ?_
  rintro e w11 ⟨u11, rfl, h11, F11⟩
  have E11 := Ext.tr E10 F11
  have HB11 := HB10.ext F11
  clear E10 HB10 ka kb
  have ka := HB11.c0
  have kb := HB11.c1
  go_wp2_with fail
  with_reducible refine (spans_nil h11).mono ?_
  rintro e w12 ⟨⟨A12, c12, rfl⟩, F12⟩
  have E12 := Ext.tr E11 F12
  have HB12 := HB11.ext F12
  clear E11 HB11 ka kb
  have ka := HB12.c0
  have kb := HB12.c1
  clear h9 h11 F6 F7 F9 F10 F11 F12
  go_wp2_with fail
  with_reducible refine (new_any _).mono ?_
  rintro e w14 ⟨rfl, hw14⟩
  subst hw14
  go_wp2_with fail
  have zs : ((w12.alloc (.cells #[.slice none 0 0] 73)).alloc (.cells #[.slice none 0 0] 73)).heap.size = w12.heap.size + 1 + 1 := by simp
  have S0 : St w12.heap.size w12.heap.size (w12.heap.size + 1) w12 [] [] ((w12.alloc (.cells #[.slice none 0 0] 73)).alloc (.cells #[.slice none 0 0] 73)) := by
    have hb : Ext (w12.alloc (.cells #[.slice none 0 0] 73)) ((w12.alloc (.cells #[.slice none 0 0] 73)).alloc (.cells #[.slice none 0 0] 73)) := (Below.refl _ _).alloc (Nat.le_refl _) _
    have h2 := new_map (w12.alloc (.cells #[.slice none 0 0] 73))
    rw [World.size_alloc] at h2
    exact ⟨Nat.le_refl _, Nat.le_succ _, by omega, ((Below.refl _ _).alloc (Nat.le_refl _) _).alloc (by simp) _, none, 0, 0, none, 0, 0, (new_map w12).ext hb, ⟨h2.box, World.ownsRow_nil _ _ _ _, h2.ne⟩, fun g hg => by simp [Value.ownBlock] at hg, fun g hg => by simp [Value.ownBlock] at hg⟩
  have hzw := HB12.lt
  have hG := putI_good a b v (l := []) trivial
  have hL := putI_len a b v (l := []) trivial
  simp only [List.length_nil, Nat.zero_add] at hL
  have HB14 := (HB12.alloc (.cells #[.slice none 0 0] 73)).alloc (.cells #[.slice none 0 0] 73)
  have ka := HB14.c0
  have kb := HB14.c1
  obtain ⟨W0, hW0⟩ : ∃ W0, (w12.alloc (.cells #[.slice none 0 0] 73)).alloc (.cells #[.slice none 0 0] 73) = W0 := ⟨_, rfl⟩
  rw [hW0] at S0 zs ka kb HB14 ⊢
  clear hW0
  have SD : ∀ {Dz Dn : List Rn} {W W' : World}, St w12.heap.size w12.heap.size (w12.heap.size + 1) w12 Dz Dn W → Ext W W' → St w12.heap.size w12.heap.size (w12.heap.size + 1) w12 Dz Dn W' := fun h e => St.ext h (Nat.le_refl _) e
  have hBel : ∀ {Dz Dn : List Rn} {W : World}, St w12.heap.size w12.heap.size (w12.heap.size + 1) w12 Dz Dn W → W.cell? ⟨w.heap.size, 0, none⟩ = some (.int .i64 a) ∧ W.cell? ⟨w.heap.size, 1, none⟩ = some (.int .i64 b) := fun h => ⟨((h.bel.cell (p := ⟨w.heap.size, 0, none⟩) hzw).trans HB12.c0), ((h.bel.cell (p := ⟨w.heap.size, 1, none⟩) hzw).trans HB12.c1)⟩
  have HS0 := Lib.hid S0
  clear S0 HB14
  have hp1 := fun (W : World) (e : Ext W0 W) => St.put (SD HS0.out e) (Nat.le_refl _) trivial (by simp) a b v
  have hp2 := fun (W W' : World) (h : St w12.heap.size w12.heap.size (w12.heap.size + 1) w12 (putI [] a b v) [] W) (e : Ext W W') => St.put (St.swap (SD h e)) (Nat.le_refl _) trivial (by simp) a b v
  obtain ⟨rc, hrc⟩ : ∃ rc : Int, (if 0 < lenI a b then (0 : Int) else 1) = rc := ⟨_, rfl⟩
  rw [hrc] at hp1 hp2
  have hone := put_one a b v
  generalize putI [] a b v = D at *
  have ha1 := fun (W W' : World) (h : St w12.heap.size w12.heap.size (w12.heap.size + 1) w12 D D W) (e : Ext W W') => St.all (SD h e) (by omega)
  have ha2 := fun (W W' : World) (h : St w12.heap.size w12.heap.size (w12.heap.size + 1) w12 D D W) (e : Ext W W') => St.all (St.swap (SD h e)) (by omega)
  have HP1 := Lib.hid hp1
  have HP2 := Lib.hid hp2
  have HA1 := Lib.hid ha1
  have HA2 := Lib.hid ha2
  have HONE := Lib.hid hone
  clear hp1 hp2 hrc ha1 ha2 hone
  go_region_with (first
    | (go_at_call 30; with_reducible refine (HP1.out _ (by first | go_grown | exact (Below.refl _ _).drew)).mono ?_; rintro e wz ⟨rfl, hz⟩; obtain ⟨ka1, kb1⟩ := hBel hz; have HZ := Lib.hid hz; clear hz)
    | (go_at_call 30; with_reducible refine (HP2.out _ _ HZ.out (by first | go_grown | exact (Below.refl _ _).drew | exact Ext.rf _)).mono ?_; rintro e wn ⟨rfl, hz⟩; obtain ⟨ka2, kb2⟩ := hBel (St.swap hz); have HZN := Lib.hid (St.swap hz); clear hz)
    | (go_at_call 16; with_reducible refine (HA1.out _ _ HZN.out (Ext.rf _)).mono ?_; rintro e wa ⟨xa, rfl, hxa, Fa⟩; have HXA := Lib.hid hxa; have HFA := Lib.hid Fa; clear hxa Fa)
    | (go_at_call 16; with_reducible refine (HA2.out _ _ HZN.out HFA.out).mono ?_; rintro e wb ⟨xb, rfl, hxb, Fb⟩; have HXB := Lib.hid hxb; have HXA' := Lib.hid (IsRn.st _ _ _ HXA.out Fb); have HFB := Lib.hid (Ext.tr HFA.out Fb); clear hxb Fb)
    | (go_at_call 15; with_reducible refine (same_is HXA'.out HXB.out (Nat.le_trans HONE.out (by omega))).mono ?_; rintro e wc ⟨rfl, Fc⟩; have HFC := Lib.hid (Ext.tr HFB.out Fc); clear Fc)
    | (go_at_call 16; with_reducible refine (HA1.out _ _ HZN.out HFC.out).mono ?_; rintro e wd ⟨xd, rfl, hxd, Fd⟩; have hsl := IsRn.sl hxd; obtain ⟨A9, n9, c9, hx9, hl9⟩ := hsl; subst hx9; have hn9 : n9 ≤ 1 := (by rw [← hl9]; exact HONE.out); have HFD := Lib.hid (Ext.tr HFC.out Fd); clear Fd hl9 hxd))
  all_goals
    have BF : Below w.heap.size w wd := (E12.trans (HZN.out.bel.mono E12.size)).trans (HFD.out.mono (Nat.le_trans E12.size HZN.out.bel.size))
    have HC9 : Hid (n9 = 0 ∨ n9 = 1) := by unfold Hid; omega
    clear HP1 HP2 HA1 HA2 SD hBel HS0 HZ HXA HXB HXA' HFA HFB HFC
    go_wp2
    go_ret
    refine ⟨?_, BF⟩
    rcases HC9.out with rfl | rfl <;> rfl
end Go.Proofs.Ytlnfpolhccbnpaa
