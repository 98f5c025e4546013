/-
  The walk of FieldItems.
-/
import Derived.Test.YtmlbinbhicdljaaDoorEP
namespace Go.Proofs.YtmlbinbhicdljaaDoor
open Go Go.RowKit

theorem asked_all {r n S : Nat} (h0 : 0 < S) (hS : S ≤ n) (_hr : r ≤ n) (h1 : ∀ j, j + 1 < r → decide ((j : Int) + 1 < (S : Int)) = true) (h2 : r = n ∨ (0 < r ∧ decide (((r - 1 : Nat) : Int) + 1 < (S : Int)) = false)) : r = S := by
  rcases Nat.lt_trichotomy r S with h | h | h
  · rcases h2 with e | ⟨h3, e⟩
    · omega
    · have := of_decide_eq_false e; omega
  · exact h
  · have := of_decide_eq_true (h1 (S - 1) (by omega)); omega

set_option maxHeartbeats 8000000 in
set_option maxRecDepth 100000 in
theorem walk_FieldItems (A : Option Addr) (n c : Nat) (l : List ByteArray) (k : Int) (w : World) (hmx : MxAt w) (hn : l.length = n) (hm : n ≤ maxLen) (hM : ∀ x ∈ l, x.size ≤ szM) (hs : TxAt w w.heap.size A l) (wk : (Lit.int .u8 k).wf = true) :
    Calls Tryd.prog 5 #[.slice A n c, .int .u8 k] w fun e w' => e = .returned (.bool true) ∧ Below w.heap.size w w' := by
  obtain ⟨hk0, hk1⟩ : 0 ≤ k ∧ k ≤ 255 := by simp only [Lit.wf, Bool.and_eq_true, decide_eq_true_eq] at wk; exact wk
  have HS := Lib.hid hs
  have HL := Lib.hid hn
  have HM := Lib.hid hM
  clear hs hn hM wk
  have hX := fun W (h : TxAt W W.heap.size A l) => xgreat_any A n c l W HL.out hm HM.out h
  cases hg : xgreatD l with
  | true =>
    rw [hg] at hX
    go_enter Tryd.func5, Tryd.ntmps5
    go_wp2_with fail
    with_reducible refine (alive_any _ hmx).mono ?_
    rintro e w1 ⟨rfl, hb1⟩
    go_wp2_with (go_at_call 13; with_reducible refine (hX _ (HS.out.below hb1 hb1.size)).mono ?_; rintro e w2 ⟨rfl, rfl⟩)
    go_ret
    exact ⟨rfl, hb1⟩
  | false =>
    rw [hg] at hX
    have HN := Lib.hid (not_xgreat hg)
    have hR := fun W (h : TxAt W W.heap.size A l) => rItems_any A n c l W HL.out (by have := HN.out; have := HL.out; omega) HN.out.2 h
    have hP := fun W (h : TxAt W W.heap.size A l) => lawitems_any A n c l W HL.out (by have := HN.out; have := HL.out; omega) HN.out.2 h
    have hI := fun W (h : TxAt W W.heap.size A l) => Items_any A n c l W HL.out (by have := HN.out; have := HL.out; omega) HN.out.2 h
    have hlen : (itemsD l).length ≤ 10060 := by have := itemsD_len l; have := HN.out; omega
    generalize itemsD l = L at *
    have hkw : IntKind.i64.wrap k = k := IntWalk.i64_in _ (by omega)
    go_enter Tryd.func5, Tryd.ntmps5
    go_wp2_with fail
    with_reducible refine (alive_any _ hmx).mono ?_
    rintro e w1 ⟨rfl, hb1⟩
    go_wp2_with (go_at_call 13; with_reducible refine (hX _ (HS.out.below hb1 hb1.size)).mono ?_; rintro e w2 ⟨rfl, rfl⟩)
    with_reducible refine (hR _ (HS.out.below hb1 hb1.size)).mono ?_
    rintro e w2 ⟨v2, rfl, hown2, hb2⟩
    have B2 := Ext.tr hb1 hb2
    obtain ⟨A2, n2, c2, hv2, HN2, hc2, hx2⟩ := (IsTx.own hown2).split
    subst hv2
    clear hown2 hR hX
    go_wp2_with fail
    with_reducible refine (hP _ (HS.out.below B2 B2.size)).mono ?_
    rintro e w3 ⟨v3, rfl, hown3, hb3⟩
    have B3 := Ext.tr B2 hb3
    have is2 := hx2.below hb3 hb3.size
    obtain ⟨A3, n3, c3, hv3, HN3, hc3, hx3⟩ := (IsTx.own hown3).split
    subst hv3
    obtain rfl : n3 = n2 := by rw [← HN3.out, HN2.out]
    have hT := rtexts_any A3 A2 n3 n3 c3 c2 L L w3 HN3.out HN3.out (by have := HN3.out; omega) hx3 is2
    rw [sameX_t rfl] at hT
    clear hown3 hP hx2 hx3 is2
    go_wp2_with fail
    with_reducible refine hT.mono ?_
    rintro e w4 ⟨rfl, hb4⟩
    have B4 := Ext.tr B3 hb4
    have hn3 : n3 ≤ 10060 := by have := HN3.out; omega
    clear hT hb4 hb3 hb2 hb1
    by_cases h0 : n3 = 0
    · subst h0
      go_wp2_with fail
      go_ret
      exact ⟨rfl, B4⟩
    · have b0 : ((n3 : Int) == 0) = false := beqi_f (by omega)
      have b1 : ((n3 : Int) = 0) = False := eq_false (by omega)
      obtain ⟨r, hr, hrm⟩ : ∃ r : Nat, k.tmod (n3 : Int) = r ∧ r < n3 := by
        refine ⟨(k.tmod n3).toNat, ?_, ?_⟩
        · have := Int.tmod_nonneg (n3 : Int) hk0; omega
        · have := Int.tmod_lt_of_pos k (show (0 : Int) < n3 by omega); have := Int.tmod_nonneg (n3 : Int) hk0; omega
      have hmw : IntKind.i64.wrap (1 + (r : Int)) = 1 + (r : Int) := IntWalk.i64_in _ (by omega)
      have hmw2 : IntKind.i64.wrap (r : Int) = (r : Int) := IntWalk.i64_in _ (by omega)
      go_wp2_with fail
      have e5 : Ext w4 ((w4.alloc (.cells #[.int .i64 (1 + (r : Int))] 3)).alloc (.cells #[.int .i64 0] 3)) := ((Below.refl _ _).alloc (Nat.le_refl _) _).alloc (by simp) _
      have bq : Box ((w4.alloc (.cells #[.int .i64 (1 + (r : Int))] 3)).alloc (.cells #[.int .i64 0] 3)) w4.heap.size 3 (.int .i64 (1 + (r : Int))) := (Box.new w4 _ _).ext ((Below.refl _ _).alloc (Nat.le_refl _) _)
      have bp : Box ((w4.alloc (.cells #[.int .i64 (1 + (r : Int))] 3)).alloc (.cells #[.int .i64 0] 3)) (w4.heap.size + 1) 3 (.int .i64 0) := by
        have h := Box.new (w4.alloc (.cells #[.int .i64 (1 + (r : Int))] 3)) 3 (.int .i64 0)
        rw [World.size_alloc] at h; exact h
      have z5 : ((w4.alloc (.cells #[.int .i64 (1 + (r : Int))] 3)).alloc (.cells #[.int .i64 0] 3)).heap.size = w4.heap.size + 2 := by simp
      generalize (w4.alloc (.cells #[.int .i64 (1 + (r : Int))] 3)).alloc (.cells #[.int .i64 0] 3) = w5 at *
      have B5 := Ext.tr B4 e5
      with_reducible refine (hI _ (HS.out.below B5 B5.size)).mono ?_
      rintro e w6 ⟨b, A6, n6, c6, rfl, hbz, hblt, hbb, hown, hb6⟩
      have B6 := Ext.tr B5 hb6
      have bq6 := bq.ext hb6
      have bp6 := bp.ext hb6
      obtain ⟨A7, c7, he, hrow⟩ := hown.where_
      injection he with e1 e2 e3
      subst e1; subst e3
      have hz6 := hb6.size
      have hL6 : L.length = n6 := e2.symm
      have hn6 : n6 = n3 := by rw [← hL6, HN3.out]
      have hrun := values_some (fun j => decide ((j : Int) + 1 < ((r + 1 : Nat) : Int))) (fun j W => Box W (w4.heap.size + 1) 3 (.int .i64 j) ∧ ButB w6.heap.size (w4.heap.size + 1) w6 W) (.pointer (some ⟨w4.heap.size + 1, 0, none⟩)) (.pointer (some ⟨w4.heap.size, 0, none⟩)) b A6 n6 c6 L hL6 (by omega)
        (fun W ⟨_, h⟩ => by
          have := h.block b hblt (by omega)
          simp only [World.cell?, this, hbb]; rfl)
        (fun j W ⟨_, h⟩ => fun h0 => by
          obtain ⟨g, rfl, hg1, hg2, hc⟩ := hrow h0
          refine ⟨g, 0, rfl, Nat.lt_of_lt_of_le hg2 h.size, fun j hj => ?_⟩
          rw [World.cell?_of_block (h.block g hg2 (by omega))]
          exact hc j hj)
        (fun j hj W ⟨h1, h2⟩ => by
          have hbq : Box W w4.heap.size 3 (.int .i64 (1 + (r : Int))) := (h2.block w4.heap.size (by omega) (by omega)).trans bq6
          refine (some_clo (w4.heap.size + 1) w4.heap.size L[j] (1 + (r : Int)) j W (by omega) h1 hbq.cell hbq.lt (by omega)).mono ?_
          rintro e w' ⟨rfl, rfl⟩
          have hcj : ((j + 1 : Nat) : Int) = (j : Int) + 1 := by omega
          have hcr : ((r + 1 : Nat) : Int) = 1 + (r : Int) := by omega
          exact ⟨by rw [hcr], by rw [hcj]; exact h1.set _, h2.tr (ButB.set _ _ _ _)⟩)
        w6 ⟨bp6, ButB.rf _ _ _⟩
      have hmf : ∀ (fn : Fn) (first cap : Array Value) (w : World), (Instr.makeFunc fn first cap).run Tryd.prog w = .ok (.func fn first cap) w := fun _ _ _ _ => rfl
      clear hI hrow hown hbb bq bp
      go_wp2_with fail
      with_reducible refine hrun.mono ?_
      rintro e w7 ⟨rfl, a, ha, hg1, hg2, h1, h2⟩
      have haS : a = r + 1 := asked_all (Nat.succ_pos r) (n := n6) (by omega) ha hg1 hg2
      subst haS
      have hcr : ((r + 1 : Nat) : Int) = 1 + (r : Int) := by omega
      rw [hcr] at h1
      have k1 := h1.cell
      have k2 : w7.cell? ⟨w4.heap.size, 0, none⟩ = some (.int .i64 (1 + (r : Int))) := by
        have hbq : Box w7 w4.heap.size 3 (.int .i64 (1 + (r : Int))) := (h2.block w4.heap.size (by omega) (by omega)).trans bq6
        exact hbq.cell
      have hz4 := B4.size
      have BF : Below w.heap.size w w7 := B6.trans ⟨h2.os, h2.tape, h2.output, h2.size, fun i hi => h2.block i (by omega) (by omega)⟩
      clear hrun hg1 hg2 h1 h2 hcr
      go_wp2_with fail
      go_ret
      exact ⟨rfl, BF⟩
end Go.Proofs.YtmlbinbhicdljaaDoor
