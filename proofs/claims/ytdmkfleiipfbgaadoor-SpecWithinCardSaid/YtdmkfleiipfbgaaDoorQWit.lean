/-
  The walk of SpecWithin.
-/
import Derived.Test.YtdmkfleiipfbgaaDoorPJ
import Derived.Test.YtdmkfleiipfbgaaDoorPK
import Derived.Test.YtdmkfleiipfbgaaDoorPN
namespace Go.Proofs.YtdmkfleiipfbgaaDoor
open Go Go.RowKit

theorem res_in {t : Int} {l : List Sp} {p : Int} : InL (resL t l) p ↔ ∃ x ∈ l, InS (askS t x) p := by
  unfold resL
  rw [solidL_in]
  constructor
  · rintro ⟨y, hy, hp⟩
    obtain ⟨x, hx, rfl⟩ := List.mem_map.1 hy
    exact ⟨x, hx, hp⟩
  · rintro ⟨x, hx, hp⟩
    exact ⟨askS t x, List.mem_map_of_mem hx, hp⟩
theorem within_in {t : Int} {l : List Sp} (hr : SRL l) (ha : ∀ x ∈ l, x.1 ≠ -1) (_h0 : 0 ≤ t) (h1 : t ≤ 1099511627776) (p : Int) :
    (InL (resL 4611686018427387904 l) p ∧ InL [(0, t)] p) ↔ InL (resL t l) p := by
  rw [res_in, res_in, InL_one]
  have key : ∀ x ∈ l, (InS (askS 4611686018427387904 x) p ∧ InS (0, t) p) ↔ InS (askS t x) p := by
    intro x hx
    have a := hr x hx
    have b := ha x hx
    unfold SR at a
    unfold InS askS askA askZ mnI
    simp only [if_neg b]
    by_cases h : x.2 = -1
    · simp only [if_pos h]; omega
    · simp only [if_neg h]; omega
  constructor
  · rintro ⟨⟨x, hx, hp⟩, hq⟩
    exact ⟨x, hx, (key x hx).1 ⟨hp, hq⟩⟩
  · rintro ⟨x, hx, hp⟩
    have := (key x hx).2 hp
    exact ⟨⟨x, hx, this.1⟩, this.2⟩
theorem within_eq {t : Int} {l K : List Sp} (hr : allR l = true) (ha : anyLast l = false) (h0 : 0 ≤ t) (h1 : t ≤ 1099511627776) (hK : Canon K) (hm : ∀ p, InL K p ↔ keepB 2 (covL l) [(0, t)] p = true) : K = normL (resL t l) := by
  refine canon_unique hK (normL_norm _).1 fun p => ?_
  rw [hm p, (normL_norm (resL t l)).2 p, ← within_in (SRL.of hr) (anyLast_f ha) h0 h1 p, ← (normL_norm (resL 4611686018427387904 l)).2 p]
  have e : covL l = normL (resL 4611686018427387904 l) := by unfold covL; rw [if_neg (by rw [ha]; decide)]
  rw [e]
  unfold keepB bopB
  simp [anyHas_iff]
theorem covL_len2 (l : List Sp) : (covL l).length ≤ l.length := by
  unfold covL
  split
  · simp
  · have h1 := normL_len (resL 4611686018427387904 l)
    have h2 := resL_len 4611686018427387904 l
    omega

set_option maxHeartbeats 4000000 in
set_option maxRecDepth 100000 in
theorem walk_SpecWithin (A : Option Addr) (n c : Nat) (l : List Sp) (t : Int) (w : World) (hL : MX w) (hn : l.length = n) (_hm : n ≤ maxLen) (hs : SpAt w w.heap.size A l) (_wt : (Lit.int .i64 t).wf = true) :
    Calls Tryd.prog 10 #[.slice A n c, .int .i64 t] w fun e w' => e = .returned (.bool true) ∧ Below w.heap.size w w' := by
  by_cases h30 : n > 30
  · have hg : decide ((n : Int) > 30) = true := by simp; omega
    go_enter Tryd.func10, Tryd.ntmps10
    go_wp2_with (go_at_call 11; refine (awake_any _ hL).mono ?_; rintro e w1 ⟨rfl, hb1⟩)
    go_ret
    exact ⟨rfl, hb1⟩
  · have hal := all_any4 A n c l w hn (by omega) hs
    cases hr : allR l with
    | false =>
      rw [hr] at hal
      go_enter Tryd.func10, Tryd.ntmps10
      go_wp2_with (first
        | (go_at_call 19; refine hal.mono ?_; rintro e w0 ⟨rfl, hb0⟩)
        | (go_at_call 11; refine (awake_any _ (hL.below hb0)).mono ?_; rintro e w1 ⟨rfl, hb1⟩; have B1 := Ext.tr hb0 hb1))
      go_ret
      exact ⟨rfl, B1⟩
    | true =>
      rw [hr] at hal
      by_cases h0 : t < 0
      · go_enter Tryd.func10, Tryd.ntmps10
        go_wp2_with (first
          | (go_at_call 19; refine hal.mono ?_; rintro e w0 ⟨rfl, hb0⟩)
          | (go_at_call 11; refine (awake_any _ (hL.below hb0)).mono ?_; rintro e w1 ⟨rfl, hb1⟩; have B1 := Ext.tr hb0 hb1))
        go_ret
        exact ⟨rfl, B1⟩
      · by_cases h1 : t > 1099511627776
        · go_enter Tryd.func10, Tryd.ntmps10
          go_wp2_with (first
            | (go_at_call 19; refine hal.mono ?_; rintro e w0 ⟨rfl, hb0⟩)
            | (go_at_call 11; refine (awake_any _ (hL.below hb0)).mono ?_; rintro e w1 ⟨rfl, hb1⟩; have B1 := Ext.tr hb0 hb1))
          go_ret
          exact ⟨rfl, B1⟩
        · have hA := fun W (hW : Ext w W) => cover_any A n c l W hn (by omega) hr (hs.below hW hW.size)
          have hB := fun W (hW : Ext w W) => resolve_any t A n c l W hn (by omega) (SRL.of hr) (by omega) (by omega) (hs.below hW hW.size)
          unfold ResPost at hB
          have hlen : (covL l).length ≤ 30 := by have := covL_len2 l; omega
          have hlen2 : (resL t l).length ≤ 30 := by have := resL_len t l; omega
          have HQ : Hid (covB l = true → ∀ K, Canon K → (∀ p, InL K p ↔ keepB 2 (covL l) [(0, t)] p = true) → K = normL (resL t l)) := fun hc K => by
            have ha : anyLast l = false := by unfold covB at hc; simp at hc; exact hc.1
            exact within_eq hr ha (by omega) (by omega)
          have HLE := Lib.hid hlen
          have HLE2 := Lib.hid hlen2
          generalize covL l = C at *
          generalize resL t l = R at *
          clear hs hn hr hlen hlen2
          cases hcb : covB l with
          | false =>
            rw [hcb] at hA
            go_enter Tryd.func10, Tryd.ntmps10
            go_wp2_with (first
              | (go_at_call 19; refine hal.mono ?_; rintro e w0 ⟨rfl, hb0⟩)
              | (go_at_call 31; refine (hA _ hb0).mono ?_; rintro e w1 ⟨v1, rfl, hset1, hb1⟩; have B1 := Ext.tr hb0 hb1; obtain ⟨A1, n1, c1, rfl, HN1, hc1, HS1, HC1⟩ := hset1.split; have B2 : Below w.heap.size w (w1.alloc (.cells #[.slice A1 n1 c1] 48)) := Below.alloc B1 B1.size _)
              | (go_at_call 11; refine (awake_any _ (hL.below B2)).mono ?_; rintro e w3 ⟨rfl, hb3⟩; have B3 := Ext.tr B2 hb3))
            go_ret
            exact ⟨rfl, B3⟩
          | true =>
            rw [hcb] at hA
            have HQ2 := Lib.hid (HQ.out hcb)
            clear HQ
            go_enter Tryd.func10, Tryd.ntmps10
            go_wp2_with (go_at_call 19; refine hal.mono ?_; rintro e w0 ⟨rfl, hb0⟩)
            refine (hA _ hb0).mono ?_
            rintro e w1 ⟨v1, rfl, hset1, hb1⟩
            have B1 := Ext.tr hb0 hb1
            obtain ⟨A1, n1, c1, rfl, HN1, hc1, HS1, HC1⟩ := hset1.split
            clear hA hal
            have e1 : Ext w1 (w1.alloc (.cells #[.slice A1 n1 c1] 48)) := (Below.refl _ _).alloc (Nat.le_refl _) _
            have k0 : (w1.alloc (.cells #[.slice A1 n1 c1] 48)).cell? ⟨w1.heap.size, 0, none⟩ = some (.slice A1 n1 c1) := by simp
            have k1 : w1.heap.size < (w1.alloc (.cells #[.slice A1 n1 c1] 48)).heap.size := by simp
            go_wp2_with fail
            generalize w1.alloc (.cells #[.slice A1 n1 c1] 48) = w2 at *
            have B2 := Ext.tr B1 e1
            refine (hB _ B2).mono ?_
            rintro e w3 ⟨v3, rfl, hown3, hb3⟩
            have B3 := Ext.tr B2 hb3
            have k3 : w3.cell? ⟨w1.heap.size, 0, none⟩ = some (.slice A1 n1 c1) := by rw [hb3.cell (p := ⟨w1.heap.size, 0, none⟩) k1]; exact k0
            have k4 : w1.heap.size < w3.heap.size := Nat.lt_of_lt_of_le k1 hb3.size
            have hS := Spans_set (IsSet.st _ _ _ hset1 (Ext.tr e1 hb3)) (by have := HLE.out; omega)
            obtain ⟨A3, n3, c3, rfl, HN3, hc3, hs3⟩ := (IsSp.own hown3).split
            have HS3 := Lib.hid hs3
            clear hown3 hB hset1 hs3
            go_wp2_with fail
            refine hS.mono ?_
            rintro e w4 ⟨v4, rfl, hsp4, hb4⟩
            have B4 := Ext.tr B3 hb4
            have e5 : Ext w4 (w4.alloc (.cells #[.int .i64 0, .int .i64 t] 39)) := (Below.refl _ _).alloc (Nat.le_refl _) _
            have hI : IsSp (w4.alloc (.cells #[.int .i64 0, .int .i64 t] 39)) (.slice (some ⟨w4.heap.size, 0, none⟩) 1 1) [(0, t)] := ⟨_, 1, rfl, by simp, fun _ => ⟨w4.heap.size, 0, rfl, by simp, fun j hj => by
              match j, hj with
              | 0, _ => simp
              | j + 1, hj => exact absurd hj (by simp)⟩⟩
            have hAn := rAnd_set (hsp4.below e5) hI (by have := HLE.out; omega) (by simp)
            have hz4 : w1.heap.size < w4.heap.size := Nat.lt_of_lt_of_le k4 hb4.size
            clear hS hI hsp4
            go_wp2_with fail
            refine hAn.mono ?_
            rintro e w6 ⟨v6, rfl, ⟨hsp6, hl6, hc6, hm6⟩, hb6⟩
            have B6 : Below w.heap.size w w6 := Ext.tr (Ext.tr B4 e5) hb6
            have HKQ := Lib.hid (HQ2.out _ hc6 hm6)
            have hl6' : (keepL 2 C [(0, t)]).length ≤ 100 := by have := HLE.out; simp at hl6; omega
            have HC6 := Lib.hid hc6
            clear hAn hm6 hl6 HQ2
            generalize keepL 2 C [(0, t)] = K at *
            have hs7 := HS3.out.below (Ext.tr (Ext.tr hb4 e5) hb6) (Ext.tr (Ext.tr hb4 e5) hb6).size
            have hof := rOf_set A3 n3 c3 R w6 HN3.out (by have := HN3.out; have := HLE2.out; omega) hs7
            go_wp2_with fail
            refine hof.mono ?_
            rintro e w7 ⟨v7, rfl, hsp7, hb7⟩
            have B7 := Ext.tr B6 hb7
            have hSa := rSame_sp (hsp6.below hb7) hsp7 HC6.out (normL_norm R).1 (by omega) (by have := normL_len R; have := HLE2.out; omega)
            rw [show decide (K = normL R) = true from by simpa using HKQ.out] at hSa
            clear hof hsp6 hsp7 hs7
            go_wp2_with (first
              | (go_at_call 29; refine hSa.mono ?_; rintro e w8 ⟨rfl, hb8⟩; have B8 := Ext.tr B7 hb8)
              | (go_at_call 11; refine (awake_any _ (hL.below B8)).mono ?_; rintro e w9 ⟨rfl, hb9⟩; have B9 := Ext.tr B8 hb9))
            go_ret
            exact ⟨rfl, B9⟩
end Go.Proofs.YtdmkfleiipfbgaaDoor
