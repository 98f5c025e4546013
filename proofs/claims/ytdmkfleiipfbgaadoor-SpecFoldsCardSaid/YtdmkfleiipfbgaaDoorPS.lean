/-
  The reference's Fold by a contract.
-/
import Derived.Test.YtdmkfleiipfbgaaDoorPQ
namespace Go.Proofs.YtdmkfleiipfbgaaDoor
open Go Go.RowKit
open Go.Sort (grow)

theorem still_tail {P : Program} {id : Nat} {Q : Exit → Act → World → Prop} {a : Act} {w : World} {l : List Oper} (n : Nat) (hm : P.follows .mixedOrders = true) (hB : Region.lexTailB .any l.toArray n = true) (w8 : World) (hw : w8 = w.drew)
    (h : wpStill P l.toArray w8 (fun a' => wpList P l.toArray Q (l.drop n) a' w8) (l.take n) a) : (Code.region id l.toArray true).wp P Q a w := by
  subst hw
  exact wp_region_still_tail n hm hB h
theorem least_same (a b : Int) (w : World) :
    Calls Tryd.prog 49 #[.int .i64 a, .int .i64 b] w fun e w' => e = .returned (.int .i64 (mnI a b)) ∧ w' = w := by
  by_cases h : a < b
  · go_enter Tryd.func49, Tryd.ntmps49
    go_wp2
    go_ret
    exact ⟨ret_int (by unfold mnI; omega), rfl⟩
  · go_enter Tryd.func49, Tryd.ntmps49
    go_wp2
    go_ret
    exact ⟨ret_int (by unfold mnI; omega), rfl⟩
theorem own_far {w : World} {base e size n b : Nat} {v : Value} {xs : List Value} (h : w.ownsRow base e size v n xs) (hb : w.heap.size ≤ b) : v.ownBlock ≠ some b := by
  rcases h.2 with ⟨rfl, _⟩ | ⟨g', cap', cur, rfl, _, h3, _⟩
  · simp [Value.ownBlock]
  · intro e
    injection e with e
    subst e
    rw [Array.getElem?_eq_none hb] at h3; cases h3

set_option maxHeartbeats 8000000 in
set_option maxRecDepth 100000 in
theorem rfold_any (g : Int) (A : Option Addr) (n c : Nat) (l : List Sp) (w : World) (hn : l.length = n) (hm : n ≤ 1000) (hsol : SolidL l) (hs : SpAt w w.heap.size A l) :
    Calls Tryd.prog 25 #[.slice A n c, .int .i64 g] w fun e w' => ∃ v, e = .returned v ∧ IsSp w' v (foldL g l) ∧ Below w.heap.size w w' := by
  have HS := Lib.hid hs
  clear hs
  have HL := Lib.hid hn
  clear hn
  have HSO := Lib.hid hsol
  clear hsol
  go_enter Tryd.func25, Tryd.ntmps25
  go_wp2
  go_loopw [5, 16] (fun v i wr => ∃ (k : Nat) (acc : List Sp), k ≤ n ∧ i = .int .i64 k ∧ OwnS wr w.heap.size v acc ∧ acc.length ≤ k ∧ Hid (acc = l.take k) ∧ Below w.heap.size w wr) (fun _ i _ => n - (intOf i).toNat)
  case atStart => exact ⟨0, [], Nat.zero_le _, rfl, World.ownsRow_nil _ _ _ _, by simp, rfl, Below.refl _ _⟩
  case round =>
    obtain ⟨k, acc, hk, rfl, hown, hal, HG, hbel⟩ := hrel
    by_cases hlt : k < n
    · have hkl : k < l.length := by have := HL.out; omega
      obtain ⟨b, o, rfl, hbb, hc⟩ := (HS.out.below hbel (Nat.le_refl _)) (by omega)
      obtain ⟨c0, c1⟩ := hc k hkl
      clear hc
      have HT := Lib.hid (List.take_succ_eq_append_getElem hkl)
      generalize l[k] = X at *
      obtain ⟨x, y⟩ := X
      simp only at c0 c1
      have HF : Hid (acc ++ [(x, y)] = l.take (k + 1)) := by unfold Hid; rw [HT.out, HG.out]
      clear HT HG
      have hwz := hbel.size
      have hbz : b < wr.heap.size := by omega
      have own1 := hown.alloc (.cells #[.int .i64 x, .int .i64 y] 39)
      have B1 : Below w.heap.size w (wr.alloc (.cells #[.int .i64 x, .int .i64 y] 39)) := hbel.alloc hwz _
      go_wp2_with (at_builtin; refine app_span_at (wr.alloc (.cells #[.int .i64 x, .int .i64 y] 39)) (wr.heap.size + 1) (by simp) (by rfl) _ _ (by rfl) w.heap.size _ acc x y (by rfl) own1 (by rfl) (by omega) B1.size ?_; intro v3 w3 hown3 hgrow; have B3 : Below w.heap.size w w3 := below_app B1 B1.size own1 hgrow; clear hgrow own1 B1 hown)
      go_roundw
      case rel => exact ⟨k + 1, acc ++ [(x, y)], by omega, by go_num, hown3, by simp; omega, HF, B3⟩
      case measure => simp [intOf]; omega
    · obtain rfl : k = n := by omega
      have HE : Hid (acc = l) := by have := HG.out; rwa [List.take_of_length_le (by have := HL.out; omega)] at this
      clear HG
      have hsp := IsSp.own hown
      obtain ⟨F0, HF0⟩ : ∃ F0, Hid (foldL g l = F0) := ⟨_, rfl⟩
      have HFin : Hid (SolidL acc ∧ foldL g acc = F0 ∧ (true = false → Far g acc)) := ⟨by rw [HE.out]; exact HSO.out, by rw [HE.out]; exact HF0.out, fun h => by cases h⟩
      clear hown HSO
      go_wp2_with fail
      go_loopw [5, 8] (fun v ag wq => ∃ (O : List Sp) (f : Bool), IsSp wq v O ∧ ag = .bool f ∧ O.length ≤ k ∧ Hid (SolidL O ∧ foldL g O = F0 ∧ (f = false → Far g O)) ∧ Below w.heap.size w wq) (fun v ag _ => msrA v ag)
      case atStart => exact ⟨acc, true, hsp, rfl, hal, HFin, hbel⟩
      case round =>
        clear HFin hsp
        obtain ⟨O, f, hO, rfl, hOl, HI, hbq⟩ := hrel
        obtain ⟨A1, n1, c1, rfl, HN1, hc1, hs1⟩ := hO.split
        have HO := Lib.hid hO
        clear hO
        cases f with
        | false =>
          have HR : Hid (O = F0) := by have h := HI.out; rw [← h.2.1]; exact (fold_far h.1 (h.2.2 rfl)).symm
          clear hs1
          go_wp2
          go_ret
          exact ⟨_, rfl, by rw [HF0.out, ← HR.out]; exact HO.out, hbq⟩
        | true =>
          have hn1 : n1 ≤ 1000 := by have := HN1.out; omega
          have HS1 := Lib.hid hs1
          have HSol : Hid (SolidL O ∧ foldL g O = F0) := ⟨HI.out.1, HI.out.2.1⟩
          clear HI hs1
          obtain ⟨w1, hw1⟩ : ∃ x, x = wr := ⟨_, rfl⟩
          have HO1 : Hid (IsSp w1 (.slice A1 n1 c1) O) := hw1 ▸ HO.out
          have HS2 : Hid (SpAt w1 w1.heap.size A1 O) := hw1 ▸ HS1.out
          have Bq : Below w.heap.size w w1 := hw1 ▸ hbq
          have h0 : Below w1.heap.size w1 wr := by rw [hw1]; exact Below.refl _ _
          clear hw1 HO HS1 hbq
          go_wp2_with fail
          go_loopw [5, 8, 9] (fun v ag iv wz => ∃ (i : Nat) (f : Bool), iv = .int .i64 i ∧ ag = .bool f ∧ i ≤ 2000 ∧ ((f = false ∧ v = .slice A1 n1 c1 ∧ i ≤ n1 ∧ Hid (NoN g O i)) ∨ (f = true ∧ ∃ O' A' n' c', v = .slice A' n' c' ∧ IsSp wz (.slice A' n' c') O' ∧ Hid (O'.length = n' ∧ n' + 1 = n1 ∧ SolidL O' ∧ foldL g O' = F0))) ∧ Below w1.heap.size w1 wz) (fun _ ag iv _ => msrB n1 ag iv)
          case atStart => exact ⟨0, false, rfl, rfl, by omega, .inl ⟨rfl, rfl, Nat.zero_le _, fun a b _ _ h => absurd h (Nat.not_lt_zero _)⟩, h0⟩
          case round =>
            clear h0
            obtain ⟨i, f, rfl, rfl, hi, hcase, hb1⟩ := hrel
            rcases hcase with ⟨rfl, rfl, hin, HNo⟩ | ⟨rfl, O', A', n', c', rfl, hO', HO'⟩
            · by_cases hlt : i < n1
              · go_wp2_with fail
                go_loopw [5, 8, 10] (fun v ag kv wy => ∃ (k : Nat) (f : Bool), kv = .int .i64 k ∧ ag = .bool f ∧ k ≤ 2000 ∧ ((f = false ∧ v = .slice A1 n1 c1 ∧ i + 1 ≤ k ∧ k ≤ n1 ∧ Hid (NoK g O i k)) ∨ (f = true ∧ ∃ O' A' n' c', v = .slice A' n' c' ∧ IsSp wy (.slice A' n' c') O' ∧ Hid (O'.length = n' ∧ n' + 1 = n1 ∧ SolidL O' ∧ foldL g O' = F0))) ∧ Below w1.heap.size w1 wy) (fun _ ag kv _ => msrB n1 ag kv)
                case atStart => exact ⟨i + 1, false, by go_num, rfl, by omega, .inl ⟨rfl, rfl, Nat.le_refl _, by omega, fun b _ _ h h2 => absurd h (by omega)⟩, hb1⟩
                case round =>
                  clear hb1
                  obtain ⟨k2, f, rfl, rfl, hk2, hcase, hb2⟩ := hrel
                  rcases hcase with ⟨rfl, rfl, hik, hkn, HNk⟩ | ⟨rfl, O', A', n', c', rfl, hO', HO'⟩
                  · by_cases hlk : k2 < n1
                    · skip
                      have hil : i < O.length := by have := HN1.out; omega
                      have hkl : k2 < O.length := by have := HN1.out; omega
                      have hik2 : i < k2 := hik
                      obtain ⟨b, o, rfl, hbb, hc⟩ := HS2.out (by omega)
                      obtain ⟨x, y, hX⟩ : ∃ x y, O[k2] = (x, y) := ⟨_, _, rfl⟩
                      obtain ⟨p, q, hY⟩ : ∃ p q, O[i] = (p, q) := ⟨_, _, rfl⟩
                      have c0 : wr.cell? ⟨b, o + k2 * 2, none⟩ = some (.int .i64 x) := by rw [hb2.cell (p := ⟨b, o + k2 * 2, none⟩) hbb]; have h := (hc k2 hkl).1; rw [hX] at h; exact h
                      have c1' : wr.cell? ⟨b, o + k2 * 2 + 1, none⟩ = some (.int .i64 y) := by rw [hb2.cell (p := ⟨b, o + k2 * 2 + 1, none⟩) hbb]; have h := (hc k2 hkl).2; rw [hX] at h; exact h
                      have d0 : wr.cell? ⟨b, o + i * 2, none⟩ = some (.int .i64 p) := by rw [hb2.cell (p := ⟨b, o + i * 2, none⟩) hbb]; have h := (hc i hil).1; rw [hY] at h; exact h
                      have d1 : wr.cell? ⟨b, o + i * 2 + 1, none⟩ = some (.int .i64 q) := by rw [hb2.cell (p := ⟨b, o + i * 2 + 1, none⟩) hbb]; have h := (hc i hil).2; rw [hY] at h; exact h
                      have sX : Solid (x, y) := hX ▸ HSol.out.1 _ (List.getElem_mem hkl)
                      have sY : Solid (p, q) := hY ▸ HSol.out.1 _ (List.getElem_mem hil)
                      have cN := rg4 (w := wr) (fun W _ => near_any4 g p q x y W sY sX)
                      have r0 := cell_regrown c0
                      have r1 := cell_regrown c1'
                      have r2 := cell_regrown d0
                      have r3 := cell_regrown d1
                      have HCC := Lib.hid hc
                      have HXY : Hid (O[k2] = (x, y) ∧ O[i] = (p, q)) := ⟨hX, hY⟩
                      unfold Solid at sX sY
                      simp only at sX sY
                      clear hc hX hY
                      cases hnb : nearB g (p, q) (x, y) with
                      | false =>
                        have HF : Hid (NoK g O i (k2 + 1)) := HNk.out.more hil hkl (fun h => by rw [HXY.out.1, HXY.out.2] at h; rw [nearB_iff.2 h] at hnb; cases hnb)
                        rw [hnb] at cN
                        clear HNk HNo HCC HXY
                        go_wp2_with fail
                        refine wp_region_quiet_below (by kernel_rfl) (by kernel_rfl) ?_
                        repeat (quiet_step (first | exact cN _ _))
                        refine wpQuiet_nil ?_
                        intro _ hw'
                        obtain ⟨⟨dq, osq⟩, hw''⟩ := hw'
                        subst hw''
                        have B6 : Below w1.heap.size w1 (grow (redrawn wr dq) osq) := hb2.trans ((below_regrown wr dq osq).mono hb2.size)
                        generalize grow (redrawn wr dq) osq = w6 at *
                        go_wp2
                        go_roundw
                        case rel => exact ⟨k2 + 1, false, by go_num, rfl, by omega, .inl ⟨rfl, rfl, by omega, by omega, HF⟩, B6⟩
                        case measure => simp [msrB, intOf]; omega
                      | true =>
                        have HFin : Hid (SolidL (mrgL O i k2 (mnI p x, mxI q y) O.length) ∧ foldL g (mrgL O i k2 (mnI p x, mxI q y) O.length) = F0) := by
                          have h := mrg_fin (g := g) (h := (mnI p x, mxI q y)) HSol.out.1 hik2 hkl (by rw [HXY.out.1, HXY.out.2]; rfl) (by rw [HXY.out.1, HXY.out.2]; rfl) (by rw [HXY.out.1, HXY.out.2]; exact nearB_iff.1 hnb)
                          exact ⟨h.1, h.2.trans HSol.out.2⟩
                        rw [hnb] at cN
                        clear HNk HNo hnb
                        go_wp2_with fail
                        refine wp_region_quiet_below (by kernel_rfl) (by kernel_rfl) ?_
                        repeat (quiet_step (first | exact cN _ _))
                        refine wpQuiet_nil ?_
                        intro _ hw'
                        obtain ⟨⟨dq, osq⟩, hw''⟩ := hw'
                        subst hw''
                        have B6 : Below w1.heap.size w1 (grow (redrawn wr dq) osq) := hb2.trans ((below_regrown wr dq osq).mono hb2.size)
                        generalize grow (redrawn wr dq) osq = w6 at *
                        clear r0 r1 r2 r3 cN c0 c1' d0 d1 hb2
                        go_wp2_with fail
                        go_loopw [11, 61] (fun nx nv wv => ∃ (m : Nat) (acc : List Sp), m ≤ n1 ∧ nv = .int .i64 m ∧ OwnS wv w6.heap.size nx acc ∧ acc.length ≤ m ∧ Hid (acc = mrgL O i k2 (mnI p x, mxI q y) m) ∧ Below w6.heap.size w6 wv) (fun _ nv _ => n1 - (intOf nv).toNat)
                        case atStart => exact ⟨0, [], Nat.zero_le _, rfl, World.ownsRow_nil _ _ _ _, by simp, by unfold Hid mrgL; simp, Below.refl _ _⟩
                        case round =>
                          obtain ⟨m, acc, hm2, rfl, hown, hal2, HG, hbv⟩ := hrel
                          have Bv : Below w1.heap.size w1 wr := B6.trans (hbv.mono B6.size)
                          by_cases hmn : m < n1
                          · have hml : m < O.length := by have := HN1.out; omega
                            obtain ⟨a, b', hM⟩ : ∃ a b', O[m] = (a, b') := ⟨_, _, rfl⟩
                            have m0 : wr.cell? ⟨b, o + m * 2, none⟩ = some (.int .i64 a) := by rw [Bv.cell (p := ⟨b, o + m * 2, none⟩) hbb]; have h := (HCC.out m hml).1; rw [hM] at h; exact h
                            have m1 : wr.cell? ⟨b, o + m * 2 + 1, none⟩ = some (.int .i64 b') := by rw [Bv.cell (p := ⟨b, o + m * 2 + 1, none⟩) hbb]; have h := (HCC.out m hml).2; rw [hM] at h; exact h
                            have k0 : wr.cell? ⟨b, o + k2 * 2, none⟩ = some (.int .i64 x) := by rw [Bv.cell (p := ⟨b, o + k2 * 2, none⟩) hbb]; have h := (HCC.out k2 hkl).1; rw [HXY.out.1] at h; exact h
                            have k1 : wr.cell? ⟨b, o + k2 * 2 + 1, none⟩ = some (.int .i64 y) := by rw [Bv.cell (p := ⟨b, o + k2 * 2 + 1, none⟩) hbb]; have h := (HCC.out k2 hkl).2; rw [HXY.out.1] at h; exact h
                            have hwz := hbv.size
                            have hbz : b < wr.heap.size := by have := Bv.size; omega
                            have HMI : Hid (m = i → a = p ∧ b' = q) := fun e => by subst e; have h := HXY.out.2; rw [hM] at h; injection h with h1 h2; exact ⟨h1, h2⟩
                            have HSK : Hid (m = k2 → acc = mrgL O i k2 (mnI p x, mxI q y) (m + 1)) := fun e => by subst e; rw [mrg_skip hml]; exact HG.out
                            have HMO : Hid (m ≠ k2 → acc ++ [if m = i then (mnI p x, mxI q y) else (a, b')] = mrgL O i k2 (mnI p x, mxI q y) (m + 1)) := fun e => by rw [mrg_more hml e, ← HG.out, hM]
                            clear hM HG
                            by_cases hmi : m = i
                            · subst hmi
                              obtain ⟨rfl, rfl⟩ := HMI.out rfl
                              have HF : Hid (acc ++ [(mnI a x, mxI b' y)] = mrgL O m k2 (mnI a x, mxI b' y) (m + 1)) := by have h := HMO.out (by omega); rw [if_pos rfl] at h; exact h
                              have hne : ((m : Int) != (k2 : Int)) = true := by rw [bne_iff_ne]; omega
                              clear HSK HMO HMI HCC HXY
                              go_wp2_with fail
                              have e7 : Ext wr (wr.alloc (.cells #[.int .i64 a, .int .i64 b'] 39)).drew := ((Below.refl _ _).alloc (Nat.le_refl _) _).drew
                              have q1 : (k2 : Int) < (n1 : Int) := by omega
                              have q2 : (0 : Int) ≤ (k2 : Int) := by omega
                              have z0 : (wr.alloc (.cells #[.int .i64 a, .int .i64 b'] 39)).drew.cell? ⟨wr.heap.size, 0, none⟩ = some (.int .i64 a) := by simp
                              have z1 : (wr.alloc (.cells #[.int .i64 a, .int .i64 b'] 39)).drew.cell? ⟨wr.heap.size, 1, none⟩ = some (.int .i64 b') := by simp
                              have z2 : (wr.alloc (.cells #[.int .i64 a, .int .i64 b'] 39)).drew.frozen? ⟨wr.heap.size, 0, none⟩ = false := by simp
                              have z3 : (wr.alloc (.cells #[.int .i64 a, .int .i64 b'] 39)).drew.frozen? ⟨wr.heap.size, 1, none⟩ = false := by simp
                              have z4 : (wr.alloc (.cells #[.int .i64 a, .int .i64 b'] 39)).drew.cell? ⟨b, o + k2 * 2, none⟩ = some (.int .i64 x) := by rw [e7.cell (p := ⟨b, o + k2 * 2, none⟩) hbz]; exact k0
                              have z5 : (wr.alloc (.cells #[.int .i64 a, .int .i64 b'] 39)).drew.cell? ⟨b, o + k2 * 2 + 1, none⟩ = some (.int .i64 y) := by rw [e7.cell (p := ⟨b, o + k2 * 2 + 1, none⟩) hbz]; exact k1
                              have z6 : (wr.alloc (.cells #[.int .i64 a, .int .i64 b'] 39)).drew.heap.size = wr.heap.size + 1 := by simp
                              have own1 : OwnS (wr.alloc (.cells #[.int .i64 a, .int .i64 b'] 39)).drew w6.heap.size _ acc := (hown.alloc _).drew
                              have B7 : Below w6.heap.size w6 (wr.alloc (.cells #[.int .i64 a, .int .i64 b'] 39)).drew := (hbv.alloc hwz _).drew
                              have hfar := own_far hown (Nat.le_refl _)
                              clear k0 k1 m0 m1 hown
                              refine still_tail 20 (by kernel_rfl) (by kernel_rfl) _ rfl ?_
                              generalize (wr.alloc (.cells #[.int .i64 a, .int .i64 b'] 39)).drew = w8 at *
                              simp only [List.take_succ_cons, List.take_zero, List.drop_succ_cons, List.drop_zero]
                              repeat (first | still_step | still_call (least_same _ _ _))
                              refine wpStill_nil ?_
                              have hneg : -mnI (-b') (-y) = mxI b' y := by unfold mnI mxI; omega
                              have hlo : -4611686018427387904 ≤ mnI (-b') (-y) := by unfold mnI; omega
                              have hhi : mnI (-b') (-y) ≤ 0 := by unfold mnI; omega
                              have own9 : OwnS ((w8.setCell ⟨wr.heap.size, 0, none⟩ (.int .i64 (mnI a x))).setCell ⟨wr.heap.size, 1, none⟩ (.int .i64 (mxI b' y))) w6.heap.size _ acc := ownsRow_setCell_other (ownsRow_setCell_other own1 (a := ⟨wr.heap.size, 0, none⟩) hfar _) (a := ⟨wr.heap.size, 1, none⟩) hfar _
                              have B9 : Below w6.heap.size w6 ((w8.setCell ⟨wr.heap.size, 0, none⟩ (.int .i64 (mnI a x))).setCell ⟨wr.heap.size, 1, none⟩ (.int .i64 (mxI b' y))) := (B7.setCell hwz _).setCell hwz _
                              have hz9 : ((w8.setCell ⟨wr.heap.size, 0, none⟩ (.int .i64 (mnI a x))).setCell ⟨wr.heap.size, 1, none⟩ (.int .i64 (mxI b' y))).heap.size = wr.heap.size + 1 := by simp [z6]
                              clear own1 B7
                              go_wp2_with (at_builtin; refine app_span_at ((w8.setCell ⟨wr.heap.size, 0, none⟩ (.int .i64 (mnI a x))).setCell ⟨wr.heap.size, 1, none⟩ (.int .i64 (mxI b' y))) (wr.heap.size + 1) hz9 (by rfl) _ _ (by rfl) w6.heap.size _ acc (mnI a x) (mxI b' y) (by rfl) own9 (by rfl) (by omega) (by omega) ?_; intro v10 w10 hown10 hgrow; have B10 : Below w6.heap.size w6 w10 := below_app B9 (by omega) own9 hgrow; clear hgrow own9 B9)
                              go_roundw
                              case rel => exact ⟨m + 1, acc ++ [(mnI a x, mxI b' y)], by omega, by go_num, hown10, by simp; omega, HF, B10⟩
                              case measure => simp [intOf]; omega
                            · have hmi' : ((m : Int) == (i : Int)) = false := by rw [beq_eq_false_iff_ne]; omega
                              have hmi'' : ((m : Int) != (i : Int)) = true := by rw [bne_iff_ne]; omega
                              by_cases hmk : m = k2
                              · have HF := Lib.hid (HSK.out hmk)
                                have hne : ((m : Int) != (k2 : Int)) = false := by rw [hmk]; simp
                                have own1 : OwnS (wr.alloc (.cells #[.int .i64 a, .int .i64 b'] 39)) w6.heap.size _ acc := hown.alloc _
                                have B7 : Below w6.heap.size w6 (wr.alloc (.cells #[.int .i64 a, .int .i64 b'] 39)) := hbv.alloc hwz _
                                clear HSK HMO HMI HCC HXY k0 k1 hmk
                                go_wp2
                                go_roundw
                                case rel => exact ⟨m + 1, acc, by omega, by go_num, own1, by omega, HF, B7⟩
                                case measure => simp [intOf]; omega
                              · have HF : Hid (acc ++ [(a, b')] = mrgL O i k2 (mnI p x, mxI q y) (m + 1)) := by have h := HMO.out hmk; rw [if_neg hmi] at h; exact h
                                have hne : ((m : Int) != (k2 : Int)) = true := by rw [bne_iff_ne]; omega
                                have own1 : OwnS (wr.alloc (.cells #[.int .i64 a, .int .i64 b'] 39)) w6.heap.size _ acc := hown.alloc _
                                have B7 : Below w6.heap.size w6 (wr.alloc (.cells #[.int .i64 a, .int .i64 b'] 39)) := hbv.alloc hwz _
                                clear HSK HMO HMI HCC HXY hown
                                go_wp2_with (at_builtin; refine app_span_at (wr.alloc (.cells #[.int .i64 a, .int .i64 b'] 39)) (wr.heap.size + 1) (by simp) (by rfl) _ _ (by rfl) w6.heap.size _ acc a b' (by rfl) own1 (by rfl) (by omega) B7.size ?_; intro v8 w8 hown8 hgrow; have B8 : Below w6.heap.size w6 w8 := below_app B7 B7.size own1 hgrow; clear hgrow own1 B7)
                                go_roundw
                                case rel => exact ⟨m + 1, acc ++ [(a, b')], by omega, by go_num, hown8, by simp; omega, HF, B8⟩
                                case measure => simp [intOf]; omega
                          · obtain rfl : m = n1 := by omega
                            have HF : Hid (acc.length + 1 = m ∧ SolidL acc ∧ foldL g acc = F0) := by
                              have e : acc = mrgL O i k2 (mnI p x, mxI q y) O.length := by rw [HN1.out]; exact HG.out
                              rw [e]
                              exact ⟨by rw [mrg_len hkl, HN1.out], HFin.out⟩
                            obtain ⟨A9, n9, c9, rfl, HN9, hc9, -⟩ := (IsSp.own hown).split
                            have hsp9 := IsSp.own hown
                            have HR : Hid (acc.length = n9 ∧ n9 + 1 = m ∧ SolidL acc ∧ foldL g acc = F0) := ⟨HN9.out, by rw [← HN9.out]; exact HF.out.1, HF.out.2⟩
                            clear HG HFin HF hown HCC HXY
                            go_wp2
                            go_roundw
                            case rel => exact ⟨k2 + 1, true, by go_num, rfl, by omega, .inr ⟨rfl, acc, A9, n9, c9, rfl, hsp9, HR⟩, Bv⟩
                            case measure => simp [msrB, intOf]; omega
                    · obtain rfl : k2 = n1 := by omega
                      have HF : Hid (NoN g O (i + 1)) := HNo.out.next HNk.out (by have := HN1.out; omega)
                      clear HNo HNk
                      go_wp2
                      go_roundw
                      case rel => exact ⟨i + 1, false, by go_num, rfl, by omega, .inl ⟨rfl, rfl, by omega, HF⟩, hb2⟩
                      case measure => simp [msrB, intOf]; omega
                  · clear HNo
                    by_cases hkn : k2 < n'
                    · go_wp2
                      go_roundw
                      case rel => exact ⟨i + 1, true, by go_num, rfl, by omega, .inr ⟨rfl, O', A', n', c', rfl, hO', HO'⟩, hb2⟩
                      case measure => simp [msrB, intOf]; omega
                    · go_wp2
                      go_roundw
                      case rel => exact ⟨i + 1, true, by go_num, rfl, by omega, .inr ⟨rfl, O', A', n', c', rfl, hO', HO'⟩, hb2⟩
                      case measure => simp [msrB, intOf]; omega
              · obtain rfl : i = n1 := by omega
                have HF : Hid (SolidL O ∧ foldL g O = F0 ∧ (false = false → Far g O)) := ⟨HSol.out.1, HSol.out.2, fun _ => HNo.out.far (by have := HN1.out; omega)⟩
                have hO2 := HO1.out.below hb1
                clear HNo HSol
                go_wp2
                go_roundw
                case rel => exact ⟨O, false, hO2, rfl, hOl, HF, Bq.trans (hb1.mono Bq.size)⟩
                case measure => simp [msrA]
            · have HF : Hid (SolidL O' ∧ foldL g O' = F0 ∧ (true = false → Far g O')) := ⟨HO'.out.2.2.1, HO'.out.2.2.2, fun h => by cases h⟩
              have hln : O'.length ≤ k := by have h := HO'.out; have := HN1.out; omega
              have hnn : n' + 1 = n1 := HO'.out.2.1
              clear HO'
              by_cases hin : i < n'
              · go_wp2
                go_roundw
                case rel => exact ⟨O', true, hO', rfl, hln, HF, Bq.trans (hb1.mono Bq.size)⟩
                case measure => simp [msrA]; omega
              · go_wp2
                go_roundw
                case rel => exact ⟨O', true, hO', rfl, hln, HF, Bq.trans (hb1.mono Bq.size)⟩
                case measure => simp [msrA]; omega
end Go.Proofs.YtdmkfleiipfbgaaDoor
