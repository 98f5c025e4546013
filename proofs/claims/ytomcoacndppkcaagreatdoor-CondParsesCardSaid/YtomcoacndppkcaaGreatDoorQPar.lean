/-
  The walk of CondParses.
-/
import Derived.Test.YtomcoacndppkcaaGreatDoorWG
import Derived.Test.YtomcoacndppkcaaGreatDoorWH
import Derived.Test.YtomcoacndppkcaaGreatDoorUD
namespace Go.Proofs.YtomcoacndppkcaaGreatDoor
open Go Go.RowKit
open T (Tg TgAt IsTg)
open F (FdAt)

theorem fits_in {w : World} {A : Option Addr} {n M B : Nat} {l : List F.Fd} (hn : l.length = n) (hs : FdAt w w.heap.size A l) (h : fitsD l M B = true) (hM : M ≤ 1000) (hB : B ≤ 50000) : FdIn w A n l := by
  unfold fitsD at h
  simp only [Bool.and_eq_true, decide_eq_true_eq] at h
  exact ⟨hn, by omega, by omega, hs⟩
set_option maxHeartbeats 16000000 in
set_option maxRecDepth 100000 in
theorem walk_CondParses (A : Option Addr) (n c : Nat) (l : List F.Fd) (w : World) (hw : D.LaidD w) (hn : l.length = n) (hm : n ≤ maxLen) (hM : F.Mx l) (hs : FdAt w w.heap.size A l) :
    Calls Tryz.prog 3 #[.slice A n c] w fun e w' => e = .returned (.bool true) ∧ Below w.heap.size w w' := by
  have hF : Calls Tryz.prog 6 #[.slice A n c, .int .i64 12, .int .i64 500] w fun e w' => e = .returned (.bool (fitsD l 12 500)) ∧ Below w.heap.size w w' := fits_any A n c l 12 500 w hn hm hM hs (by omega) (by omega)
  cases hf : fitsD l 12 500 with
  | false =>
    rw [hf] at hF
    clear hf hs hM hn
    go_enter Tryz.func3, Tryz.ntmps3
    go_wp2_with fail
    with_reducible refine hF.mono ?_
    rintro e w1 ⟨rfl, hb1⟩
    go_wp2_with fail
    with_reducible refine (awake_any _).mono ?_
    rintro e w2 ⟨rfl, hb2⟩
    go_wp2_with fail
    go_ret
    exact ⟨rfl, Ext.tr hb1 hb2⟩
  | true =>
    rw [hf] at hF
    have HI := Lib.hid (fits_in hn hs hf (by omega) (by omega))
    have hA := fun W (e : Below w.heap.size w W) => parse_any A n c l W (HI.out.below e) (hw.below e)
    have hB := fun W (e : Below w.heap.size w W) => rparse8_any A n c l W (HI.out.below e)
    have q1 := Lib.hid (parD_len1 l)
    have q2 := Lib.hid (parD_len2 l)
    clear hf hs hM hn hw HI
    generalize parD l = P at *
    have u1 : (P.e == P.e) = true := by simp
    generalize hpe : P.e = pe at *
    clear hpe
    go_enter Tryz.func3, Tryz.ntmps3
    go_wp2_with fail
    with_reducible refine hF.mono ?_
    rintro e w1 ⟨rfl, hb1⟩
    go_wp2_with fail
    with_reducible refine (hA _ hb1).mono ?_
    rintro e w2 ⟨v2, rfl, hv2, hb2⟩
    have HV2 := Lib.hid hv2
    obtain ⟨V1, V2, rfl, i1, i2⟩ := hv2
    obtain ⟨A1, n1, c1, rfl, -, -, -⟩ := i1.split
    obtain ⟨A2, n2, c2, rfl, -, -, -⟩ := i2.split
    clear i1 i2
    have B2 := Ext.tr hb1 hb2
    clear hb1 hb2
    have e2 : Ext w2 (w2.alloc (.cells #[.slice A1 n1 c1, .slice A2 n2 c2, .bool P.am, .bool P.an, .int .i64 P.s, .int .i64 P.u, .string P.r.1, .bool P.r.2] 29)) := (Below.refl _ _).alloc (Nat.le_refl _) _
    go_wp2_with fail
    with_reducible refine (hB _ (Ext.tr B2 e2)).mono ?_
    rintro e w3 ⟨v3, rfl, hv3, hb3⟩
    obtain ⟨hc, -, hz, B3⟩ := own_blk hb3
    have HV3 := Lib.hid hv3
    have HV2' := Lib.hid (HV2.out.below B3)
    obtain ⟨U1, U2, rfl, i1, i2⟩ := hv3
    obtain ⟨A3, n3, c3, rfl, -, -, -⟩ := i1.split
    obtain ⟨A4, n4, c4, rfl, -, -, -⟩ := i2.split
    clear i1 i2
    clear hb3
    have hS := psame_yes (HV2'.out.below ((Below.refl _ _).alloc (Nat.le_refl _) (.cells #[.slice A3 n3 c3, .slice A4 n4 c4, .bool P.am, .bool P.an, .int .i64 P.s, .int .i64 P.u, .string P.r.1, .bool P.r.2] 29))) (HV3.out.below ((Below.refl _ _).alloc (Nat.le_refl _) (.cells #[.slice A3 n3 c3, .slice A4 n4 c4, .bool P.am, .bool P.an, .int .i64 P.s, .int .i64 P.u, .string P.r.1, .bool P.r.2] 29))) q1.out q2.out
    have B3' : Below w.heap.size w (w3.alloc (.cells #[.slice A3 n3 c3, .slice A4 n4 c4, .bool P.am, .bool P.an, .int .i64 P.s, .int .i64 P.u, .string P.r.1, .bool P.r.2] 29)) := (Ext.tr B2 B3).alloc (Ext.tr B2 B3).size _
    go_wp2_with fail
    with_reducible refine hS.mono ?_
    rintro e w4 ⟨rfl, hb4⟩
    go_wp2_with fail
    with_reducible refine (awake_any _).mono ?_
    rintro e w5 ⟨rfl, hb5⟩
    go_wp2_with fail
    go_ret
    exact ⟨rfl, Ext.tr (Ext.tr B3' hb4) hb5⟩
end Go.Proofs.YtomcoacndppkcaaGreatDoor
