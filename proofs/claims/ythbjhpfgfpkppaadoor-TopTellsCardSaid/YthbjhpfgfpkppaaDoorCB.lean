/-
  Set.edge; ranges.combine by Or's, And's and Less's closures.
-/
import Derived.Test.YthbjhpfgfpkppaaDoorCM
import Derived.Test.YthbjhpfgfpkppaaDoorBX
namespace Go.Proofs.YthbjhpfgfpkppaaDoor.Rg
open Go Go.RowKit

set_option maxHeartbeats 4000000 in
theorem edge_any (A : Option Addr) (n c : Nat) (l : List Sp) (i : Nat) (w : World) (hn : l.length = n) (hm : n ≤ 1000000) (hi : i ≤ 4000000) (hs : SpAt w w.heap.size A l) :
    Calls Tryd.prog 41 #[.agg #[.slice A n c], .int .i64 i] w fun e w' => e = .returned (.int .i64 (edgeI l i)) ∧ Below w.heap.size w w' := by
  have e1 : Ext w (w.alloc (.cells #[.slice A n c] 28)) := (Below.refl _ _).alloc (Nat.le_refl _) _
  have HN := Lib.hid hn
  have w2 : IntKind.i64.wrap (2 * (n : Int)) = 2 * (n : Int) := IntWalk.i64_in _ (by omega)
  clear hn
  by_cases hlt : i / 2 < n
  · have hkl : i / 2 < l.length := by have := HN.out; omega
    obtain ⟨b, o, rfl, hbb, hc⟩ := hs (by omega)
    obtain ⟨c0, c1⟩ := hc (i / 2) hkl
    have hge : ¬ (2 * (n : Int) ≤ (i : Int)) := by omega
    have HE : Hid (edgeI l i = if i % 2 = 0 then l[i / 2].1 else l[i / 2].2) := by unfold Hid edgeI; rw [dif_pos hkl]
    clear hc hs
    generalize l[i / 2] = X at *
    obtain ⟨x, y⟩ := X
    simp only at HE c0 c1
    have q3 : ((i : Int) / 2).toNat = i / 2 := by omega
    have q4 : (0 : Int) ≤ (i : Int) / 2 := by omega
    have q5 : (i : Int) / 2 < (n : Int) := by omega
    have q6 : (0 : Int) ≤ (i : Int) := by omega
    rcases Nat.mod_two_eq_zero_or_one i with hm2 | hm2
    · have HF : Hid (edgeI l i = x) := by unfold Hid; rw [HE.out, if_pos hm2]
      have q7 : (i : Int) % 2 = 0 := by omega
      clear HE
      go_enter Tryd.func41, Tryd.ntmps41
      go_wp2
      go_ret
      exact ⟨by rw [HF.out]; rfl, e1⟩
    · have HF : Hid (edgeI l i = y) := by unfold Hid; rw [HE.out, if_neg (by omega)]
      have q7 : (i : Int) % 2 = 1 := by omega
      clear HE
      go_enter Tryd.func41, Tryd.ntmps41
      go_wp2
      go_ret
      exact ⟨by rw [HF.out]; rfl, e1⟩
  · have HF : Hid (edgeI l i = 9223372036854775807) := edge_past (by have := HN.out; omega)
    have hge : 2 * (n : Int) ≤ (i : Int) := by omega
    clear hs
    go_enter Tryd.func41, Tryd.ntmps41
    go_wp2
    go_ret
    exact ⟨by rw [HF.out]; rfl, e1⟩
/-CLO-/
theorem par0 (a : Nat) : ((a : Int) % 2 == 1) = decide (a % 2 = 1) := by
  by_cases h : a % 2 = 1
  · have : (a : Int) % 2 = 1 := by omega
    simp [h, this]
  · have : (a : Int) % 2 = 0 := by omega
    simp [h, this]
theorem par1 (a : Nat) : (((a : Int) + 1) % 2 == 1) = decide ((a + 1) % 2 = 1) := par0 (a + 1)
theorem Box.at_ {W W' : World} {p B : Nat} {t : TypeId} {v : Value} (h : Box W p t v) (hp : p < B) (e : Below B W W') : Box W' p t v := (e.block p hp).trans h

set_option maxHeartbeats 1000000 in
theorem or_clo (x y : Bool) (W : World) : Calls Tryd.prog 29 #[.bool x, .bool y] W fun e w' => e = .returned (.bool (bopB 1 x y)) ∧ Below W.heap.size W w' := by
  cases x <;> cases y
  all_goals
    go_enter Tryd.func29, Tryd.ntmps29
    go_wp2
    go_ret
    exact ⟨rfl, Below.refl _ _⟩

set_option maxHeartbeats 1000000 in
theorem less_clo (x y : Bool) (W : World) : Calls Tryd.prog 23 #[.bool x, .bool y] W fun e w' => e = .returned (.bool (bopB 3 x y)) ∧ Below W.heap.size W w' := by
  cases x <;> cases y
  all_goals
    go_enter Tryd.func23, Tryd.ntmps23
    go_wp2
    go_ret
    exact ⟨rfl, Below.refl _ _⟩

set_option maxHeartbeats 16000000 in
set_option maxRecDepth 100000 in
theorem combine_or (A A' : Option Addr) (n n' c c' : Nat) (S T : List Sp) (w : World) (hn : S.length = n) (hn' : T.length = n') (hm : n ≤ 100000) (hm' : n' ≤ 100000) (hS : Canon S) (hT : Canon T) (hs : SpAt w w.heap.size A S) (hs' : SpAt w w.heap.size A' T) :
    Calls Tryd.prog 22 #[.agg #[.slice A n c], .agg #[.slice A' n' c'], .func (.func 29) #[] #[]] w fun e w' => ∃ v, e = .returned (.agg #[v]) ∧ OwnS w' w.heap.size v (keepL 1 S T) ∧ Canon (keepL 1 S T) ∧ (keepL 1 S T).length ≤ 2 * (n + n') ∧ Below w.heap.size w w' := by
  have HN := Lib.hid hn; have HN' := Lib.hid hn'
  have HS := Lib.hid hs; have HS' := Lib.hid hs'
  have HCS := Lib.hid hS; have HCT := Lib.hid hT
  have hf : bopB 1 false false = false := bopB_ff 1
  have E0 : Ext w (((w.alloc (.cells #[.slice A n c] 28)).alloc (.cells #[.slice A' n' c'] 28)).alloc (.cells #[.slice none 0 0] 28)) := (((Below.refl _ _).alloc (Nat.le_refl _) _).alloc (by simp) _).alloc (by simp; omega) _
  have b0 : Box (((w.alloc (.cells #[.slice A n c] 28)).alloc (.cells #[.slice A' n' c'] 28)).alloc (.cells #[.slice none 0 0] 28)) w.heap.size 28 (.slice A n c) := (Box.new w _ _).ext (((Below.refl _ _).alloc (Nat.le_refl _) _).alloc (by simp) _)
  have b1 : Box (((w.alloc (.cells #[.slice A n c] 28)).alloc (.cells #[.slice A' n' c'] 28)).alloc (.cells #[.slice none 0 0] 28)) (w.heap.size + 1) 28 (.slice A' n' c') := by
    have h := (Box.new (w.alloc (.cells #[.slice A n c] 28)) 28 (.slice A' n' c')).ext ((Below.refl _ _).alloc (Nat.le_refl _) (.cells #[.slice none 0 0] 28))
    rw [World.size_alloc] at h; exact h
  have b2 : Box (((w.alloc (.cells #[.slice A n c] 28)).alloc (.cells #[.slice A' n' c'] 28)).alloc (.cells #[.slice none 0 0] 28)) (w.heap.size + 2) 28 (.slice none 0 0) := by
    have h := Box.new ((w.alloc (.cells #[.slice A n c] 28)).alloc (.cells #[.slice A' n' c'] 28)) 28 (.slice none 0 0)
    rw [World.size_alloc, World.size_alloc] at h; exact h
  have z0 : (((w.alloc (.cells #[.slice A n c] 28)).alloc (.cells #[.slice A' n' c'] 28)).alloc (.cells #[.slice none 0 0] 28)).heap.size = w.heap.size + 3 := by simp
  have w2 : IntKind.i64.wrap (2 * (n : Int)) = 2 * (n : Int) := IntWalk.i64_in _ (by omega)
  have w2' : IntKind.i64.wrap (2 * (n' : Int)) = 2 * (n' : Int) := IntWalk.i64_in _ (by omega)
  clear hn hn' hs hs' hS hT
  go_enter Tryd.func22, Tryd.ntmps22
  go_wp2
  generalize hw0 : ((w.alloc (.cells #[.slice A n c] 28)).alloc (.cells #[.slice A' n' c'] 28)).alloc (.cells #[.slice none 0 0] 28) = w0 at *
  clear hw0
  go_loopw [7, 8, 9, 10, 11] (fun v fr kp i j wr => ∃ (a b : Nat) (out : List Sp) (x : Int) (k : Bool) (bd : Int), i = .int .i64 a ∧ j = .int .i64 b ∧ fr = .int .i64 x ∧ kp = .bool k ∧ a ≤ 2 * n ∧ b ≤ 2 * n' ∧ out.length ≤ a + b ∧ OwnS wr (w.heap.size + 3) v out ∧ Hid (Cmb (bopB 1) S T a b out x k bd) ∧ Below (w.heap.size + 3) w0 wr) (fun _ _ _ i j _ => 2 * n + 2 * n' - ((intOf i).toNat + (intOf j).toNat))
  case atStart => exact ⟨0, 0, [], 0, false, _, rfl, rfl, rfl, rfl, Nat.zero_le _, Nat.zero_le _, Nat.le_refl _, World.ownsRow_nil _ _ _ _, Cmb.start hf HCS.out HCT.out, Below.refl _ _⟩
  case round =>
    obtain ⟨a, b, out, x, k, bd, rfl, rfl, rfl, rfl, ha, hb, hol, hown, HC, hbel⟩ := hrel
    have B0 : Below w.heap.size w wr := E0.trans (hbel.mono (by omega))
    have d0 := (b0.at_ (by omega) hbel).cell
    have d1 := (b1.at_ (by omega) hbel).cell
    have hz : w.heap.size + 3 ≤ wr.heap.size := by have := hbel.size; omega
    have hES := fun W (hW : Ext wr W) => edge_any A n c S a W HN.out (by omega) (by omega) (HS.out.below (bel B0 hW) (bel B0 hW).size)
    have hET := fun W (hW : Ext wr W) => edge_any A' n' c' T b W HN'.out (by omega) (by omega) (HS'.out.below (bel B0 hW) (bel B0 hW).size)
    by_cases hgo : a < 2 * n ∨ b < 2 * n'
    · have hgo' : Hid (a < 2 * S.length ∨ b < 2 * T.length) := by unfold Hid; have := HN.out; have := HN'.out; omega
      have hdn : Hid (bd = min (edgeI S a) (edgeI T b)) := HC.out.hb
      have HStep := fun i' j' ks h1 h2 h3 => Cmb.step HCS.out HCT.out (i' := i') (j' := j') (ks := ks) HC.out hgo'.out h1 h2 h3
      have HST := Lib.hid HStep
      clear HStep
      generalize edgeI S a = eS at hES hdn HST
      generalize edgeI T b = eT at hET hdn HST
      have hgd : decide ((a : Int) < 2 * (n : Int)) = true ∨ (decide ((a : Int) < 2 * (n : Int)) = false ∧ (b : Int) < 2 * (n' : Int)) := by
        by_cases h : a < 2 * n
        · left; simp; omega
        · right; simp; omega
      have k0 : ∀ W, Ext wr W → W.cell? ⟨w.heap.size, 0, none⟩ = some (.slice A n c) := fun W h => by rw [h.cell (p := ⟨w.heap.size, 0, none⟩) (by show w.heap.size < _; omega)]; exact d0
      have k1 : ∀ W, Ext wr W → W.cell? ⟨w.heap.size + 1, 0, none⟩ = some (.slice A' n' c') := fun W h => by rw [h.cell (p := ⟨w.heap.size + 1, 0, none⟩) (by show w.heap.size + 1 < _; omega)]; exact d1
      have hgo2 : (a : Int) < 2 * (n : Int) ∨ ((2 * (n : Int) ≤ a) ∧ (b : Int) < 2 * (n' : Int)) := by omega
      rcases hgo2 with hg | ⟨hg, hg'⟩
      · clear hgd
        go_wp2_with fail
        refine' wp_region_made (rels := relsOf [.val _, .val _, .val _, .val _, .val _, .val _, .val _, .val _]) (w := wr) 77 (by kernel_rfl) (by kernel_rfl) (by rfl) (relsOf_stable ?stp) ?wkp
        case stp => exact stable_val (stable_val (stable_val (stable_val (stable_val (stable_val (stable_val (stable_val (stable_nil))))))))
        case wkp =>
          refine' walk_val (by rfl) ?ap0 (fun K hK => ?bp0); (case ap0 => (intro W hW hd; clear hd; go_simp; first | exact ⟨Ext.rf _, rfl⟩ | rfl)); (go_simp; refine hK _ ?_; clear hK K)
          refine' walk_val (by rfl) ?ap1 (fun K hK => ?bp1); (case ap1 => (intro W hW hd; clear hd; go_simp; first | exact ⟨Ext.rf _, rfl⟩ | rfl)); (go_simp; refine hK _ ?_; clear hK K)
          refine' walk_val (by rfl) ?ap2 (fun K hK => ?bp2); (case ap2 => (intro W hW hd; go_simp; (clear hd; exact makes_val (hES W hW)))); (go_simp; refine hK _ ?_; clear hK K)
          refine' walk_val (by rfl) ?ap3 (fun K hK => ?bp3); (case ap3 => (intro W hW hd; clear hd; go_simp; first | exact ⟨Ext.rf _, rfl⟩ | rfl)); (go_simp; refine hK _ ?_; clear hK K)
          refine' walk_val (by rfl) ?ap4 (fun K hK => ?bp4); (case ap4 => (intro W hW hd; clear hd; go_simp; first | exact ⟨Ext.rf _, rfl⟩ | rfl)); (go_simp; refine hK _ ?_; clear hK K)
          refine' walk_val (by rfl) ?ap5 (fun K hK => ?bp5); (case ap5 => (intro W hW hd; go_simp; (clear hd; exact makes_val (hET W hW)))); (go_simp; refine hK _ ?_; clear hK K)
          refine' walk_val (by rfl) ?ap6 (fun K hK => ?bp6); (case ap6 => (intro W hW hd; clear hd; go_simp; first | exact ⟨Ext.rf _, rfl⟩ | rfl)); (go_simp; refine hK _ ?_; clear hK K)
          refine' walk_val (by rfl) ?ap7 (fun K hK => ?bp7); (case ap7 => (intro W hW hd; clear hd; go_simp; first | exact ⟨Ext.rf _, rfl⟩ | rfl)); (go_simp; refine hK _ ?_; clear hK K)
          refine walk_end (fun W hW hfin => ?_)
          clear hfin k0 k1
          go_simp
          have hbd := hdn.out
          rw [← hbd]
          clear hbd hdn
          have d0' : W.cell? ⟨w.heap.size, 0, none⟩ = some (.slice A n c) := by rw [hW.cell (p := ⟨w.heap.size, 0, none⟩) (by show w.heap.size < _; omega)]; exact d0
          have d1' : W.cell? ⟨w.heap.size + 1, 0, none⟩ = some (.slice A' n' c') := by rw [hW.cell (p := ⟨w.heap.size + 1, 0, none⟩) (by show w.heap.size + 1 < _; omega)]; exact d1
          have HO := Lib.hid (Below.own hown hW)
          have hbel' : Below (w.heap.size + 3) w0 W := hbel.trans (hW.mono hz)
          have hES' := fun W' (h : Ext W W') => hES W' (hW.tr h)
          have hET' := fun W' (h : Ext W W') => hET W' (hW.tr h)
          have hzW : w.heap.size + 3 ≤ W.heap.size := by have := hW.size; omega
          clear hES hET d0 d1 hown hbel HC hW B0 hgo hgo' hz
          have p0 : w.heap.size < W.heap.size ∧ w.heap.size + 1 < W.heap.size := by omega
          by_cases e1 : eS = bd
          · by_cases e2 : eT = bd
            · have he1 : (eS == bd) = true := by simp [e1]
              have he2 : (eT == bd) = true := by simp [e2]
              go_wp2_with fail
              with_reducible refine (hES' W (Below.refl _ _)).mono ?_
              rintro e w1 ⟨rfl, hb1⟩
              obtain ⟨hc1, hf1⟩ := bcell hb1
              go_wp2_with fail
              with_reducible refine (hET' w1 hb1).mono ?_
              rintro e w2 ⟨rfl, hb2⟩
              have hb2' : Ext W w2 := Ext.tr hb1 hb2
              have own2 := Lib.hid (Below.own HO.out hb2')
              have bel2 : Below (w.heap.size + 3) w0 w2 := hbel'.trans (hb2'.mono hzW)
              clear HO hbel' hES' hET' hc1 hf1 hb1 hb2
              go_wp2_with fail
              obtain ⟨ks, HKS⟩ : ∃ ks, Hid (bopB 1 (((a : Int) + 1) % 2 == 1) (((b : Int) + 1) % 2 == 1) = ks) := ⟨_, rfl⟩
              have hC := or_clo (((a : Int) + 1) % 2 == 1) (((b : Int) + 1) % 2 == 1) w2
              rw [HKS.out] at hC
              have HT := Lib.hid (HST.out (a + 1) (b + 1) ks (by rw [if_pos e1]) (by rw [if_pos e2]) (by rw [← HKS.out, par1 a, par1 b]))
              clear HST HKS
              have hT := HT.out
              have hi' := hT.1.hi
              have hj' := hT.1.hj
              have hl' := hT.1.len
              have hmo := hT.2.2.2
              rw [HN.out] at hi'
              rw [HN'.out] at hj'
              clear hT
              with_reducible refine hC.mono ?_
              rintro e w3 ⟨rfl, hb3⟩
              have own3 := Below.own own2.out hb3
              have bel3 : Below (w.heap.size + 3) w0 w3 := bel2.trans (hb3.mono (by have := bel2.size; omega))
              have hz3 : w.heap.size + 3 ≤ w3.heap.size := by have := bel3.size; omega
              clear hC own2 bel2 hb3 hb2' e1 e2 he1 he2 d0' d1'
              cases ks <;> cases k
              all_goals simp only [Bool.not_true, Bool.not_false, Bool.and_true, Bool.and_false, if_true, if_false, Bool.false_eq_true] at HT hl'
              · go_wp2
                go_roundw
                case rel => exact ⟨(a + 1), (b + 1), out, x, false, _, by go_num, by go_num, rfl, rfl, hi', hj', hl', own3, HT.out.1, bel3⟩
                case measure => simp [intOf]; omega
              · go_wp2_with (at_builtin; refine app_span w3 (by rfl) _ _ (by rfl) (w.heap.size + 3) _ out x bd (by rfl) own3 (by rfl) (by omega) hz3 ?_; intro v4 w4 hown4 hgrow; have B4 : Below (w.heap.size + 3) w0 w4 := below_app bel3 hz3 own3 hgrow; clear hgrow)
                go_roundw
                case rel => exact ⟨(a + 1), (b + 1), (out ++ [(x, bd)]), x, false, _, by go_num, by go_num, rfl, rfl, hi', hj', hl', hown4, HT.out.1, B4⟩
                case measure => simp [intOf]; omega
              · go_wp2
                go_roundw
                case rel => exact ⟨(a + 1), (b + 1), out, bd, true, _, by go_num, by go_num, rfl, rfl, hi', hj', hl', own3, HT.out.1, bel3⟩
                case measure => simp [intOf]; omega
              · go_wp2
                go_roundw
                case rel => exact ⟨(a + 1), (b + 1), out, x, true, _, by go_num, by go_num, rfl, rfl, hi', hj', hl', own3, HT.out.1, bel3⟩
                case measure => simp [intOf]; omega
            · have he1 : (eS == bd) = true := by simp [e1]
              have he2 : (eT == bd) = false := by simp [e2]
              go_wp2_with fail
              with_reducible refine (hES' W (Below.refl _ _)).mono ?_
              rintro e w1 ⟨rfl, hb1⟩
              obtain ⟨hc1, hf1⟩ := bcell hb1
              go_wp2_with fail
              with_reducible refine (hET' w1 hb1).mono ?_
              rintro e w2 ⟨rfl, hb2⟩
              have hb2' : Ext W w2 := Ext.tr hb1 hb2
              have own2 := Lib.hid (Below.own HO.out hb2')
              have bel2 : Below (w.heap.size + 3) w0 w2 := hbel'.trans (hb2'.mono hzW)
              clear HO hbel' hES' hET' hc1 hf1 hb1 hb2
              go_wp2_with fail
              obtain ⟨ks, HKS⟩ : ∃ ks, Hid (bopB 1 (((a : Int) + 1) % 2 == 1) ((b : Int) % 2 == 1) = ks) := ⟨_, rfl⟩
              have hC := or_clo (((a : Int) + 1) % 2 == 1) ((b : Int) % 2 == 1) w2
              rw [HKS.out] at hC
              have HT := Lib.hid (HST.out (a + 1) b ks (by rw [if_pos e1]) (by rw [if_neg e2]) (by rw [← HKS.out, par1 a, par0 b]))
              clear HST HKS
              have hT := HT.out
              have hi' := hT.1.hi
              have hj' := hT.1.hj
              have hl' := hT.1.len
              have hmo := hT.2.2.2
              rw [HN.out] at hi'
              rw [HN'.out] at hj'
              clear hT
              with_reducible refine hC.mono ?_
              rintro e w3 ⟨rfl, hb3⟩
              have own3 := Below.own own2.out hb3
              have bel3 : Below (w.heap.size + 3) w0 w3 := bel2.trans (hb3.mono (by have := bel2.size; omega))
              have hz3 : w.heap.size + 3 ≤ w3.heap.size := by have := bel3.size; omega
              clear hC own2 bel2 hb3 hb2' e1 e2 he1 he2 d0' d1'
              cases ks <;> cases k
              all_goals simp only [Bool.not_true, Bool.not_false, Bool.and_true, Bool.and_false, if_true, if_false, Bool.false_eq_true] at HT hl'
              · go_wp2
                go_roundw
                case rel => exact ⟨(a + 1), b, out, x, false, _, by go_num, by go_num, rfl, rfl, hi', hj', hl', own3, HT.out.1, bel3⟩
                case measure => simp [intOf]; omega
              · go_wp2_with (at_builtin; refine app_span w3 (by rfl) _ _ (by rfl) (w.heap.size + 3) _ out x bd (by rfl) own3 (by rfl) (by omega) hz3 ?_; intro v4 w4 hown4 hgrow; have B4 : Below (w.heap.size + 3) w0 w4 := below_app bel3 hz3 own3 hgrow; clear hgrow)
                go_roundw
                case rel => exact ⟨(a + 1), b, (out ++ [(x, bd)]), x, false, _, by go_num, by go_num, rfl, rfl, hi', hj', hl', hown4, HT.out.1, B4⟩
                case measure => simp [intOf]; omega
              · go_wp2
                go_roundw
                case rel => exact ⟨(a + 1), b, out, bd, true, _, by go_num, by go_num, rfl, rfl, hi', hj', hl', own3, HT.out.1, bel3⟩
                case measure => simp [intOf]; omega
              · go_wp2
                go_roundw
                case rel => exact ⟨(a + 1), b, out, x, true, _, by go_num, by go_num, rfl, rfl, hi', hj', hl', own3, HT.out.1, bel3⟩
                case measure => simp [intOf]; omega
          · by_cases e2 : eT = bd
            · have he1 : (eS == bd) = false := by simp [e1]
              have he2 : (eT == bd) = true := by simp [e2]
              go_wp2_with fail
              with_reducible refine (hES' W (Below.refl _ _)).mono ?_
              rintro e w1 ⟨rfl, hb1⟩
              obtain ⟨hc1, hf1⟩ := bcell hb1
              go_wp2_with fail
              with_reducible refine (hET' w1 hb1).mono ?_
              rintro e w2 ⟨rfl, hb2⟩
              have hb2' : Ext W w2 := Ext.tr hb1 hb2
              have own2 := Lib.hid (Below.own HO.out hb2')
              have bel2 : Below (w.heap.size + 3) w0 w2 := hbel'.trans (hb2'.mono hzW)
              clear HO hbel' hES' hET' hc1 hf1 hb1 hb2
              go_wp2_with fail
              obtain ⟨ks, HKS⟩ : ∃ ks, Hid (bopB 1 ((a : Int) % 2 == 1) (((b : Int) + 1) % 2 == 1) = ks) := ⟨_, rfl⟩
              have hC := or_clo ((a : Int) % 2 == 1) (((b : Int) + 1) % 2 == 1) w2
              rw [HKS.out] at hC
              have HT := Lib.hid (HST.out a (b + 1) ks (by rw [if_neg e1]) (by rw [if_pos e2]) (by rw [← HKS.out, par0 a, par1 b]))
              clear HST HKS
              have hT := HT.out
              have hi' := hT.1.hi
              have hj' := hT.1.hj
              have hl' := hT.1.len
              have hmo := hT.2.2.2
              rw [HN.out] at hi'
              rw [HN'.out] at hj'
              clear hT
              with_reducible refine hC.mono ?_
              rintro e w3 ⟨rfl, hb3⟩
              have own3 := Below.own own2.out hb3
              have bel3 : Below (w.heap.size + 3) w0 w3 := bel2.trans (hb3.mono (by have := bel2.size; omega))
              have hz3 : w.heap.size + 3 ≤ w3.heap.size := by have := bel3.size; omega
              clear hC own2 bel2 hb3 hb2' e1 e2 he1 he2 d0' d1'
              cases ks <;> cases k
              all_goals simp only [Bool.not_true, Bool.not_false, Bool.and_true, Bool.and_false, if_true, if_false, Bool.false_eq_true] at HT hl'
              · go_wp2
                go_roundw
                case rel => exact ⟨a, (b + 1), out, x, false, _, by go_num, by go_num, rfl, rfl, hi', hj', hl', own3, HT.out.1, bel3⟩
                case measure => simp [intOf]; omega
              · go_wp2_with (at_builtin; refine app_span w3 (by rfl) _ _ (by rfl) (w.heap.size + 3) _ out x bd (by rfl) own3 (by rfl) (by omega) hz3 ?_; intro v4 w4 hown4 hgrow; have B4 : Below (w.heap.size + 3) w0 w4 := below_app bel3 hz3 own3 hgrow; clear hgrow)
                go_roundw
                case rel => exact ⟨a, (b + 1), (out ++ [(x, bd)]), x, false, _, by go_num, by go_num, rfl, rfl, hi', hj', hl', hown4, HT.out.1, B4⟩
                case measure => simp [intOf]; omega
              · go_wp2
                go_roundw
                case rel => exact ⟨a, (b + 1), out, bd, true, _, by go_num, by go_num, rfl, rfl, hi', hj', hl', own3, HT.out.1, bel3⟩
                case measure => simp [intOf]; omega
              · go_wp2
                go_roundw
                case rel => exact ⟨a, (b + 1), out, x, true, _, by go_num, by go_num, rfl, rfl, hi', hj', hl', own3, HT.out.1, bel3⟩
                case measure => simp [intOf]; omega
            · have he1 : (eS == bd) = false := by simp [e1]
              have he2 : (eT == bd) = false := by simp [e2]
              go_wp2_with fail
              with_reducible refine (hES' W (Below.refl _ _)).mono ?_
              rintro e w1 ⟨rfl, hb1⟩
              obtain ⟨hc1, hf1⟩ := bcell hb1
              go_wp2_with fail
              with_reducible refine (hET' w1 hb1).mono ?_
              rintro e w2 ⟨rfl, hb2⟩
              have hb2' : Ext W w2 := Ext.tr hb1 hb2
              have own2 := Lib.hid (Below.own HO.out hb2')
              have bel2 : Below (w.heap.size + 3) w0 w2 := hbel'.trans (hb2'.mono hzW)
              clear HO hbel' hES' hET' hc1 hf1 hb1 hb2
              go_wp2_with fail
              obtain ⟨ks, HKS⟩ : ∃ ks, Hid (bopB 1 ((a : Int) % 2 == 1) ((b : Int) % 2 == 1) = ks) := ⟨_, rfl⟩
              have hC := or_clo ((a : Int) % 2 == 1) ((b : Int) % 2 == 1) w2
              rw [HKS.out] at hC
              have HT := Lib.hid (HST.out a b ks (by rw [if_neg e1]) (by rw [if_neg e2]) (by rw [← HKS.out, par0 a, par0 b]))
              clear HST HKS
              have hT := HT.out
              have hi' := hT.1.hi
              have hj' := hT.1.hj
              have hl' := hT.1.len
              have hmo := hT.2.2.2
              rw [HN.out] at hi'
              rw [HN'.out] at hj'
              clear hT
              exfalso; omega
      · clear hgd
        go_wp2_with fail
        refine' wp_region_made (rels := relsOf [.val _, .val _, .val _, .val _, .val _, .val _, .val _, .val _]) (w := wr) 77 (by kernel_rfl) (by kernel_rfl) (by rfl) (relsOf_stable ?stq) ?wkq
        case stq => exact stable_val (stable_val (stable_val (stable_val (stable_val (stable_val (stable_val (stable_val (stable_nil))))))))
        case wkq =>
          refine' walk_val (by rfl) ?aq0 (fun K hK => ?bq0); (case aq0 => (intro W hW hd; clear hd; go_simp; first | exact ⟨Ext.rf _, rfl⟩ | rfl)); (go_simp; refine hK _ ?_; clear hK K)
          refine' walk_val (by rfl) ?aq1 (fun K hK => ?bq1); (case aq1 => (intro W hW hd; clear hd; go_simp; first | exact ⟨Ext.rf _, rfl⟩ | rfl)); (go_simp; refine hK _ ?_; clear hK K)
          refine' walk_val (by rfl) ?aq2 (fun K hK => ?bq2); (case aq2 => (intro W hW hd; go_simp; (clear hd; exact makes_val (hES W hW)))); (go_simp; refine hK _ ?_; clear hK K)
          refine' walk_val (by rfl) ?aq3 (fun K hK => ?bq3); (case aq3 => (intro W hW hd; clear hd; go_simp; first | exact ⟨Ext.rf _, rfl⟩ | rfl)); (go_simp; refine hK _ ?_; clear hK K)
          refine' walk_val (by rfl) ?aq4 (fun K hK => ?bq4); (case aq4 => (intro W hW hd; clear hd; go_simp; first | exact ⟨Ext.rf _, rfl⟩ | rfl)); (go_simp; refine hK _ ?_; clear hK K)
          refine' walk_val (by rfl) ?aq5 (fun K hK => ?bq5); (case aq5 => (intro W hW hd; go_simp; (clear hd; exact makes_val (hET W hW)))); (go_simp; refine hK _ ?_; clear hK K)
          refine' walk_val (by rfl) ?aq6 (fun K hK => ?bq6); (case aq6 => (intro W hW hd; clear hd; go_simp; first | exact ⟨Ext.rf _, rfl⟩ | rfl)); (go_simp; refine hK _ ?_; clear hK K)
          refine' walk_val (by rfl) ?aq7 (fun K hK => ?bq7); (case aq7 => (intro W hW hd; clear hd; go_simp; first | exact ⟨Ext.rf _, rfl⟩ | rfl)); (go_simp; refine hK _ ?_; clear hK K)
          refine walk_end (fun W hW hfin => ?_)
          clear hfin k0 k1
          go_simp
          have hbd := hdn.out
          rw [← hbd]
          clear hbd hdn
          have d0' : W.cell? ⟨w.heap.size, 0, none⟩ = some (.slice A n c) := by rw [hW.cell (p := ⟨w.heap.size, 0, none⟩) (by show w.heap.size < _; omega)]; exact d0
          have d1' : W.cell? ⟨w.heap.size + 1, 0, none⟩ = some (.slice A' n' c') := by rw [hW.cell (p := ⟨w.heap.size + 1, 0, none⟩) (by show w.heap.size + 1 < _; omega)]; exact d1
          have HO := Lib.hid (Below.own hown hW)
          have hbel' : Below (w.heap.size + 3) w0 W := hbel.trans (hW.mono hz)
          have hES' := fun W' (h : Ext W W') => hES W' (hW.tr h)
          have hET' := fun W' (h : Ext W W') => hET W' (hW.tr h)
          have hzW : w.heap.size + 3 ≤ W.heap.size := by have := hW.size; omega
          clear hES hET d0 d1 hown hbel HC hW B0 hgo hgo' hz
          have p0 : w.heap.size < W.heap.size ∧ w.heap.size + 1 < W.heap.size := by omega
          by_cases e1 : eS = bd
          · by_cases e2 : eT = bd
            · have he1 : (eS == bd) = true := by simp [e1]
              have he2 : (eT == bd) = true := by simp [e2]
              go_wp2_with fail
              with_reducible refine (hES' W (Below.refl _ _)).mono ?_
              rintro e w1 ⟨rfl, hb1⟩
              obtain ⟨hc1, hf1⟩ := bcell hb1
              go_wp2_with fail
              with_reducible refine (hET' w1 hb1).mono ?_
              rintro e w2 ⟨rfl, hb2⟩
              have hb2' : Ext W w2 := Ext.tr hb1 hb2
              have own2 := Lib.hid (Below.own HO.out hb2')
              have bel2 : Below (w.heap.size + 3) w0 w2 := hbel'.trans (hb2'.mono hzW)
              clear HO hbel' hES' hET' hc1 hf1 hb1 hb2
              go_wp2_with fail
              obtain ⟨ks, HKS⟩ : ∃ ks, Hid (bopB 1 (((a : Int) + 1) % 2 == 1) (((b : Int) + 1) % 2 == 1) = ks) := ⟨_, rfl⟩
              have hC := or_clo (((a : Int) + 1) % 2 == 1) (((b : Int) + 1) % 2 == 1) w2
              rw [HKS.out] at hC
              have HT := Lib.hid (HST.out (a + 1) (b + 1) ks (by rw [if_pos e1]) (by rw [if_pos e2]) (by rw [← HKS.out, par1 a, par1 b]))
              clear HST HKS
              have hT := HT.out
              have hi' := hT.1.hi
              have hj' := hT.1.hj
              have hl' := hT.1.len
              have hmo := hT.2.2.2
              rw [HN.out] at hi'
              rw [HN'.out] at hj'
              clear hT
              exfalso; omega
            · have he1 : (eS == bd) = true := by simp [e1]
              have he2 : (eT == bd) = false := by simp [e2]
              go_wp2_with fail
              with_reducible refine (hES' W (Below.refl _ _)).mono ?_
              rintro e w1 ⟨rfl, hb1⟩
              obtain ⟨hc1, hf1⟩ := bcell hb1
              go_wp2_with fail
              with_reducible refine (hET' w1 hb1).mono ?_
              rintro e w2 ⟨rfl, hb2⟩
              have hb2' : Ext W w2 := Ext.tr hb1 hb2
              have own2 := Lib.hid (Below.own HO.out hb2')
              have bel2 : Below (w.heap.size + 3) w0 w2 := hbel'.trans (hb2'.mono hzW)
              clear HO hbel' hES' hET' hc1 hf1 hb1 hb2
              go_wp2_with fail
              obtain ⟨ks, HKS⟩ : ∃ ks, Hid (bopB 1 (((a : Int) + 1) % 2 == 1) ((b : Int) % 2 == 1) = ks) := ⟨_, rfl⟩
              have hC := or_clo (((a : Int) + 1) % 2 == 1) ((b : Int) % 2 == 1) w2
              rw [HKS.out] at hC
              have HT := Lib.hid (HST.out (a + 1) b ks (by rw [if_pos e1]) (by rw [if_neg e2]) (by rw [← HKS.out, par1 a, par0 b]))
              clear HST HKS
              have hT := HT.out
              have hi' := hT.1.hi
              have hj' := hT.1.hj
              have hl' := hT.1.len
              have hmo := hT.2.2.2
              rw [HN.out] at hi'
              rw [HN'.out] at hj'
              clear hT
              exfalso; omega
          · by_cases e2 : eT = bd
            · have he1 : (eS == bd) = false := by simp [e1]
              have he2 : (eT == bd) = true := by simp [e2]
              go_wp2_with fail
              with_reducible refine (hES' W (Below.refl _ _)).mono ?_
              rintro e w1 ⟨rfl, hb1⟩
              obtain ⟨hc1, hf1⟩ := bcell hb1
              go_wp2_with fail
              with_reducible refine (hET' w1 hb1).mono ?_
              rintro e w2 ⟨rfl, hb2⟩
              have hb2' : Ext W w2 := Ext.tr hb1 hb2
              have own2 := Lib.hid (Below.own HO.out hb2')
              have bel2 : Below (w.heap.size + 3) w0 w2 := hbel'.trans (hb2'.mono hzW)
              clear HO hbel' hES' hET' hc1 hf1 hb1 hb2
              go_wp2_with fail
              obtain ⟨ks, HKS⟩ : ∃ ks, Hid (bopB 1 ((a : Int) % 2 == 1) (((b : Int) + 1) % 2 == 1) = ks) := ⟨_, rfl⟩
              have hC := or_clo ((a : Int) % 2 == 1) (((b : Int) + 1) % 2 == 1) w2
              rw [HKS.out] at hC
              have HT := Lib.hid (HST.out a (b + 1) ks (by rw [if_neg e1]) (by rw [if_pos e2]) (by rw [← HKS.out, par0 a, par1 b]))
              clear HST HKS
              have hT := HT.out
              have hi' := hT.1.hi
              have hj' := hT.1.hj
              have hl' := hT.1.len
              have hmo := hT.2.2.2
              rw [HN.out] at hi'
              rw [HN'.out] at hj'
              clear hT
              with_reducible refine hC.mono ?_
              rintro e w3 ⟨rfl, hb3⟩
              have own3 := Below.own own2.out hb3
              have bel3 : Below (w.heap.size + 3) w0 w3 := bel2.trans (hb3.mono (by have := bel2.size; omega))
              have hz3 : w.heap.size + 3 ≤ w3.heap.size := by have := bel3.size; omega
              clear hC own2 bel2 hb3 hb2' e1 e2 he1 he2 d0' d1'
              cases ks <;> cases k
              all_goals simp only [Bool.not_true, Bool.not_false, Bool.and_true, Bool.and_false, if_true, if_false, Bool.false_eq_true] at HT hl'
              · go_wp2
                go_roundw
                case rel => exact ⟨a, (b + 1), out, x, false, _, by go_num, by go_num, rfl, rfl, hi', hj', hl', own3, HT.out.1, bel3⟩
                case measure => simp [intOf]; omega
              · go_wp2_with (at_builtin; refine app_span w3 (by rfl) _ _ (by rfl) (w.heap.size + 3) _ out x bd (by rfl) own3 (by rfl) (by omega) hz3 ?_; intro v4 w4 hown4 hgrow; have B4 : Below (w.heap.size + 3) w0 w4 := below_app bel3 hz3 own3 hgrow; clear hgrow)
                go_roundw
                case rel => exact ⟨a, (b + 1), (out ++ [(x, bd)]), x, false, _, by go_num, by go_num, rfl, rfl, hi', hj', hl', hown4, HT.out.1, B4⟩
                case measure => simp [intOf]; omega
              · go_wp2
                go_roundw
                case rel => exact ⟨a, (b + 1), out, bd, true, _, by go_num, by go_num, rfl, rfl, hi', hj', hl', own3, HT.out.1, bel3⟩
                case measure => simp [intOf]; omega
              · go_wp2
                go_roundw
                case rel => exact ⟨a, (b + 1), out, x, true, _, by go_num, by go_num, rfl, rfl, hi', hj', hl', own3, HT.out.1, bel3⟩
                case measure => simp [intOf]; omega
            · have he1 : (eS == bd) = false := by simp [e1]
              have he2 : (eT == bd) = false := by simp [e2]
              go_wp2_with fail
              with_reducible refine (hES' W (Below.refl _ _)).mono ?_
              rintro e w1 ⟨rfl, hb1⟩
              obtain ⟨hc1, hf1⟩ := bcell hb1
              go_wp2_with fail
              with_reducible refine (hET' w1 hb1).mono ?_
              rintro e w2 ⟨rfl, hb2⟩
              have hb2' : Ext W w2 := Ext.tr hb1 hb2
              have own2 := Lib.hid (Below.own HO.out hb2')
              have bel2 : Below (w.heap.size + 3) w0 w2 := hbel'.trans (hb2'.mono hzW)
              clear HO hbel' hES' hET' hc1 hf1 hb1 hb2
              go_wp2_with fail
              obtain ⟨ks, HKS⟩ : ∃ ks, Hid (bopB 1 ((a : Int) % 2 == 1) ((b : Int) % 2 == 1) = ks) := ⟨_, rfl⟩
              have hC := or_clo ((a : Int) % 2 == 1) ((b : Int) % 2 == 1) w2
              rw [HKS.out] at hC
              have HT := Lib.hid (HST.out a b ks (by rw [if_neg e1]) (by rw [if_neg e2]) (by rw [← HKS.out, par0 a, par0 b]))
              clear HST HKS
              have hT := HT.out
              have hi' := hT.1.hi
              have hj' := hT.1.hj
              have hl' := hT.1.len
              have hmo := hT.2.2.2
              rw [HN.out] at hi'
              rw [HN'.out] at hj'
              clear hT
              exfalso; omega
    · have hg : 2 * (n : Int) ≤ a := by omega
      have hg' : 2 * (n' : Int) ≤ b := by omega
      clear hES hET
      obtain ⟨Av, nv, cv, rfl, HLv, hcv, -⟩ := (IsSp.own hown).split
      have b2' : Box wr (w.heap.size + 1 + 1) 28 (.slice none 0 0) := b2.at_ (by omega) hbel
      have d2 := b2'.cell
      have f2 := b2'.free
      have z2 : w.heap.size + 1 + 1 < wr.heap.size := b2'.lt
      have hD := Cmb.done hf HC.out (by have := HN.out; omega) (by have := HN'.out; omega)
      have hK := keepL_is hD.1 hD.2
      have HP := Lib.hid (ownsRow_lower (ownsRow_setCell_below hown (a := ⟨w.heap.size + 1 + 1, 0, none⟩) (Nat.lt_succ_self _) (.slice Av nv cv)) (by omega : w.heap.size ≤ w.heap.size + 3))
      have HB2 : Hid (Below w.heap.size w (wr.setCell ⟨w.heap.size + 1 + 1, 0, none⟩ (.slice Av nv cv))) := B0.setCell (by show w.heap.size ≤ w.heap.size + 1 + 1; omega) _
      have HD := Lib.hid hD
      have HK := Lib.hid hK
      clear hK hD hown HC hbel B0 b2' E0 b0 b1 b2
      go_wp2
      exact bodyPost_ret (v := .agg #[.slice Av nv cv]) (by simp [results, Tryd.results22, go_sem, d2]) rfl ⟨_, rfl, by rw [← HK.out]; exact HP.out, by rw [← HK.out]; exact HD.out.1, by rw [← HK.out]; omega, HB2.out⟩
end Go.Proofs.YthbjhpfgfpkppaaDoor.Rg
