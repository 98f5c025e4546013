/-
  The reference's Tags and Same of what is alike; Fits.
-/
import Derived.Test.YtomcoacndppkcaaGreatDoorWD
namespace Go.Proofs.YtomcoacndppkcaaGreatDoor
open Go Go.RowKit
open T (Tg TgAt IsTg)
open F (FdAt OwnX IsTx TxAt)

set_option maxHeartbeats 4000000 in
set_option maxRecDepth 20000 in
theorem rtags8_yes (A A' : Option Addr) (n c c' : Nat) (l : List Tg) (w : World) (hl : l.length = n) (hm : n ≤ 1000000) (hs : TgAt w w.heap.size A l) (hs' : TgAt w w.heap.size A' l) :
    Calls Tryz.prog 26 #[.slice A n c, .slice A' n c'] w fun e w' => e = .returned (.bool true) ∧ Below w.heap.size w w' := by
  have HS := Lib.hid hs; have HS' := Lib.hid hs'
  have HL := Lib.hid hl
  clear hs hs' hl
  go_enter Tryz.func26, Tryz.ntmps26
  go_wp2
  go_loopw [13] (fun i wr => ∃ k : Nat, k ≤ n ∧ i = .int .i64 k ∧ Below w.heap.size w wr) (fun i _ => n - (intOf i).toNat)
  case atStart => exact ⟨0, Nat.zero_le _, rfl, Below.refl _ _⟩
  case round =>
    obtain ⟨k, hk, rfl, hbel⟩ := hrel
    by_cases hlt : k < n
    · have hkl : k < l.length := by have := HL.out; omega
      obtain ⟨b, o, rfl, hb, hc⟩ := (HS.out.below hbel (Nat.le_refl _)) (by omega)
      obtain ⟨b', o', rfl, hb', hc'⟩ := (HS'.out.below hbel (Nat.le_refl _)) (by omega)
      obtain ⟨c0, c1⟩ := hc k hkl
      obtain ⟨d0, d1⟩ := hc' k hkl
      clear hc hc'
      obtain ⟨X, hX⟩ : ∃ X, Hid (l[k] = X) := ⟨l[k], rfl⟩
      rw [hX.out] at c0 c1 d0 d1
      clear hX
      obtain ⟨x, p⟩ := X
      simp only at c0 c1 d0 d1
      have hbz : b < wr.heap.size := by have := hbel.size; omega
      have hbz' : b' < wr.heap.size := by have := hbel.size; omega
      have e1 : (x.toList == x.toList) = true := by simp
      have e2 : (p == p) = true := by simp
      go_wp2
      go_quiet (fail)
      go_wp2
      go_roundw
      case rel => exact ⟨k + 1, by omega, by go_num, T.below_drewN hbel _⟩
      case measure => simp [intOf]; omega
    · obtain rfl : k = n := by omega
      go_wp2
      go_ret
      exact ⟨rfl, hbel⟩
theorem cd2_cells {w W : World} {V1 V2 U1 U2 : Value} {am an : Bool} {s u : Int} {rt : ByteArray} {rw : Bool}
    (h : Below ((w.alloc (.cells #[V1, V2, .bool am, .bool an, .int .i64 s, .int .i64 u, .string rt, .bool rw] 29)).alloc (.cells #[U1, U2, .bool am, .bool an, .int .i64 s, .int .i64 u, .string rt, .bool rw] 29)).heap.size ((w.alloc (.cells #[V1, V2, .bool am, .bool an, .int .i64 s, .int .i64 u, .string rt, .bool rw] 29)).alloc (.cells #[U1, U2, .bool am, .bool an, .int .i64 s, .int .i64 u, .string rt, .bool rw] 29)) W) :
    W.cell? ⟨w.heap.size, 0, none⟩ = some V1 ∧ W.cell? ⟨w.heap.size, 1, none⟩ = some V2 ∧ W.cell? ⟨w.heap.size, 2, none⟩ = some (.bool am) ∧ W.cell? ⟨w.heap.size, 3, none⟩ = some (.bool an) ∧ W.cell? ⟨w.heap.size, 4, none⟩ = some (.int .i64 s) ∧ W.cell? ⟨w.heap.size, 5, none⟩ = some (.int .i64 u) ∧ W.cell? ⟨w.heap.size, 6, none⟩ = some (.string rt) ∧ W.cell? ⟨w.heap.size, 7, none⟩ = some (.bool rw) ∧
    W.cell? ⟨w.heap.size + 1, 0, none⟩ = some U1 ∧ W.cell? ⟨w.heap.size + 1, 1, none⟩ = some U2 ∧ W.cell? ⟨w.heap.size + 1, 2, none⟩ = some (.bool am) ∧ W.cell? ⟨w.heap.size + 1, 3, none⟩ = some (.bool an) ∧ W.cell? ⟨w.heap.size + 1, 4, none⟩ = some (.int .i64 s) ∧ W.cell? ⟨w.heap.size + 1, 5, none⟩ = some (.int .i64 u) ∧ W.cell? ⟨w.heap.size + 1, 6, none⟩ = some (.string rt) ∧ W.cell? ⟨w.heap.size + 1, 7, none⟩ = some (.bool rw) ∧
    w.heap.size < W.heap.size ∧ w.heap.size + 1 < W.heap.size ∧ Below w.heap.size w W := by
  obtain ⟨hx, hy, z1, z2, B1⟩ := blk2 h
  exact ⟨hx 0, hx 1, hx 2, hx 3, hx 4, hx 5, hx 6, hx 7, hy 0, hy 1, hy 2, hy 3, hy 4, hy 5, hy 6, hy 7, z1, z2, B1⟩
set_option maxHeartbeats 4000000 in
set_option maxRecDepth 20000 in
theorem rsame8_yes (V1 V2 U1 U2 : Value) (am an : Bool) (s u : Int) (rt : ByteArray) (rw : Bool) (l1 l2 : List Tg) (w : World) (h1 : IsTg w V1 l1) (h2 : IsTg w V2 l2) (k1 : IsTg w U1 l1) (k2 : IsTg w U2 l2) (q1 : l1.length ≤ 1000000) (q2 : l2.length ≤ 1000000) :
    Calls Tryz.prog 10 #[.agg #[V1, V2, .bool am, .bool an, .int .i64 s, .int .i64 u, .string rt, .bool rw], .agg #[U1, U2, .bool am, .bool an, .int .i64 s, .int .i64 u, .string rt, .bool rw]] w fun e w' => e = .returned (.bool true) ∧ Below w.heap.size w w' := by
  obtain ⟨A1, n1, c1, rfl, N1, -, s1⟩ := h1.split
  obtain ⟨A2, n2, c2, rfl, N2, -, s2⟩ := h2.split
  obtain ⟨B1, m1, d1, rfl, M1, -, t1⟩ := k1.split
  obtain ⟨B2, m2, d2, rfl, M2, -, t2⟩ := k2.split
  obtain rfl : m1 = n1 := by have := N1.out; have := M1.out; omega
  obtain rfl : m2 = n2 := by have := N2.out; have := M2.out; omega
  have hA : ∀ W, Below w.heap.size w W → Calls Tryz.prog 26 #[.slice A1 m1 c1, .slice B1 m1 d1] W fun e w' => e = .returned (.bool true) ∧ Below W.heap.size W w' := fun W e => rtags8_yes A1 B1 m1 c1 d1 l1 W N1.out (by have := N1.out; omega) (s1.below e e.size) (t1.below e e.size)
  have hB : ∀ W, Below w.heap.size w W → Calls Tryz.prog 26 #[.slice A2 m2 c2, .slice B2 m2 d2] W fun e w' => e = .returned (.bool true) ∧ Below W.heap.size W w' := fun W e => rtags8_yes A2 B2 m2 c2 d2 l2 W N2.out (by have := N2.out; omega) (s2.below e e.size) (t2.below e e.size)
  clear h1 h2 k1 k2 s1 s2 t1 t2 N1 N2 M1 M2
  have e1 : (rt.toList == rt.toList) = true := by simp
  have e2 : (rw == rw) = true := by simp
  have e3 : (am == am) = true := by simp
  have e4 : (an == an) = true := by simp
  have e5 : (s == s) = true := by simp
  have e6 : (u == u) = true := by simp
  have FB0 : Below w.heap.size w ((w.alloc (.cells #[.slice A1 m1 c1, .slice A2 m2 c2, .bool am, .bool an, .int .i64 s, .int .i64 u, .string rt, .bool rw] 29)).alloc (.cells #[.slice B1 m1 d1, .slice B2 m2 d2, .bool am, .bool an, .int .i64 s, .int .i64 u, .string rt, .bool rw] 29)) := by go_grown
  go_enter Tryz.func10, Tryz.ntmps10
  go_wp2_with fail
  with_reducible refine (hA _ FB0).mono ?_
  rintro e w1 ⟨rfl, hb1⟩
  obtain ⟨x0, x1, x2, x3, x4, x5, x6, x7, y0, y1, y2, y3, y4, y5, y6, y7, z1, z2, B1⟩ := cd2_cells hb1
  go_wp2_with fail
  with_reducible refine (hB _ B1).mono ?_
  rintro e w2 ⟨rfl, hb2⟩
  have C2 := hb1.trans (hb2.mono hb1.size)
  clear x0 x1 x2 x3 x4 x5 x6 x7 y0 y1 y2 y3 y4 y5 y6 y7
  obtain ⟨x0, x1, x2, x3, x4, x5, x6, x7, y0, y1, y2, y3, y4, y5, y6, y7, z1, z2, B2⟩ := cd2_cells C2
  go_wp2_with fail
  go_ret
  exact ⟨rfl, B2⟩
theorem psame_yes {P : PD} {w : World} {v u : Value} (h : PVal P w v) (k : PVal P w u) (q1 : P.l1.length ≤ 1000000) (q2 : P.l2.length ≤ 1000000) :
    Calls Tryz.prog 10 #[v, u] w fun e w' => e = .returned (.bool true) ∧ Below w.heap.size w w' := by
  obtain ⟨V1, V2, rfl, h1, h2⟩ := h
  obtain ⟨U1, U2, rfl, k1, k2⟩ := k
  exact rsame8_yes V1 V2 U1 U2 P.am P.an P.s P.u P.r.1 P.r.2 P.l1 P.l2 w h1 h2 k1 k2 q1 q2

theorem tgD_len (v : List ByteArray) : (tgD v).1.length ≤ 1000000 := by
  unfold tgD
  split
  · simp
  · split
    · simp
    · have := T.listD_len (joinL v); omega
theorem parD_len1 (l : List F.Fd) : (parD l).l1.length ≤ 1000000 := by
  unfold parD zeroP
  split
  · simp
  · split
    · simp
    · exact tgD_len _
theorem parD_len2 (l : List F.Fd) : (parD l).l2.length ≤ 1000000 := by
  unfold parD zeroP
  split
  · simp
  · split
    · simp
    · exact tgD_len _

def fitsD (l : List F.Fd) (M B : Nat) : Bool := decide (F.gsum l ≤ B) && decide (l.length ≤ M)
theorem gsum_take_le (l : List F.Fd) (k : Nat) : F.gsum (l.take k) ≤ F.gsum l := by
  have h := F.gsum_append (l.take k) (l.drop k)
  rw [List.take_append_drop] at h
  omega
theorem fits_bad {l : List F.Fd} {M B k : Nat} (h : B < F.gsum (l.take k)) : fitsD l M B = false := by
  have := gsum_take_le l k
  unfold fitsD
  have h2 : ¬ F.gsum l ≤ B := by omega
  simp [h2]
set_option maxHeartbeats 4000000 in
set_option maxRecDepth 20000 in
theorem fits_any (A : Option Addr) (n c : Nat) (l : List F.Fd) (M B : Nat) (w : World) (hn : l.length = n) (hm : n ≤ maxLen) (hM : F.Mx l) (hs : FdAt w w.heap.size A l) (hB : B ≤ 1000) (_hMM : M ≤ 1000) :
    Calls Tryz.prog 6 #[.slice A n c, .int .i64 M, .int .i64 B] w fun e w' => e = .returned (.bool (fitsD l M B)) ∧ Below w.heap.size w w' := by
  have HS := Lib.hid hs
  have HL := Lib.hid hn
  have HM := Lib.hid hM
  clear hs hn hM
  obtain ⟨R, HR⟩ : ∃ R, Hid (fitsD l M B = R) := ⟨_, rfl⟩
  rw [HR.out]
  unfold maxLen at hm
  go_enter Tryz.func6, Tryz.ntmps6
  go_wp2
  go_loopw [2, 11] (fun v i wr => ∃ k g : Nat, k ≤ n ∧ v = .int .i64 ((B : Int) - (g : Int)) ∧ i = .int .i64 k ∧ Hid (F.gsum (l.take k) = g) ∧ g ≤ B ∧ Below w.heap.size w wr) (fun _ i _ => n - (intOf i).toNat)
  case atStart => exact ⟨0, 0, Nat.zero_le _, by simp, rfl, by unfold Hid F.gsum; simp, Nat.zero_le _, Below.refl _ _⟩
  case round =>
    obtain ⟨k, g, hk, rfl, rfl, HG, hg, hbel⟩ := hrel
    by_cases hlt : k < n
    · have hkl : k < l.length := by have := HL.out; omega
      obtain ⟨b, o, rfl, hb, hc⟩ := (HS.out.below hbel (Nat.le_refl _)) (by omega)
      obtain ⟨c0, c1⟩ := hc k hkl
      clear hc
      have hx := HM.out.at0 hkl
      have HT := Lib.hid (F.gsum_take hkl)
      have HA : Hid (B < F.gsum (l.take (k + 1)) → fitsD l M B = false) := fun h => fits_bad h
      obtain ⟨X, hX⟩ : ∃ X, Hid (l[k] = X) := ⟨l[k], rfl⟩
      rw [hX.out] at HT c0 c1 hx
      clear hX
      obtain ⟨x, y⟩ := X
      simp only at c0 c1 hx
      obtain ⟨hx1, hx2⟩ := hx
      unfold F.szM at hx1 hx2
      have hbz : b < wr.heap.size := by have := hbel.size; omega
      have HK : Hid (F.gsum (l.take (k + 1)) = g + x.size + y.size) := by unfold Hid; rw [HT.out, HG.out]
      clear HT HG
      by_cases h1 : g + x.size + y.size ≤ B
      · have hc1 : ((B : Int) - (g : Int) < (x.size : Int)) = False := eq_false (by omega)
        have hc2 : ((B : Int) - (g : Int) < (y.size : Int)) = False := eq_false (by omega)
        have hc3 : ((B : Int) - (g : Int) - (x.size : Int) - (y.size : Int) < 0) = False := eq_false (by omega)
        clear HA
        go_wp2
        go_roundw
        case rel => exact ⟨k + 1, g + x.size + y.size, by omega, by go_num, by go_num, HK, h1, hbel.alloc hbel.size _⟩
        case measure => simp [intOf]; omega
      · have HF : Hid (false = R) := by unfold Hid; rw [← HR.out, HA.out (by rw [HK.out]; omega)]
        clear HA HK
        by_cases h2 : g + x.size ≤ B
        · have hc1 : ((B : Int) - (g : Int) < (x.size : Int)) = False := eq_false (by omega)
          by_cases h3 : g + y.size ≤ B
          · have hc2 : ((B : Int) - (g : Int) < (y.size : Int)) = False := eq_false (by omega)
            have hc3 : ((B : Int) - (g : Int) - (x.size : Int) - (y.size : Int) < 0) = True := eq_true (by omega)
            go_wp2
            go_ret
            exact ⟨T.ret_bool HF.out, hbel.alloc hbel.size _⟩
          · have hc2 : ((B : Int) - (g : Int) < (y.size : Int)) = True := eq_true (by omega)
            go_wp2
            go_ret
            exact ⟨T.ret_bool HF.out, hbel.alloc hbel.size _⟩
        · have hc1 : ((B : Int) - (g : Int) < (x.size : Int)) = True := eq_true (by omega)
          go_wp2
          go_ret
          exact ⟨T.ret_bool HF.out, hbel.alloc hbel.size _⟩
    · obtain rfl : k = n := by omega
      have HE : Hid (F.gsum l = g) := by have h := HG.out; rwa [List.take_of_length_le (by have := HL.out; omega)] at h
      have HF : Hid (decide ((k : Int) ≤ (M : Int)) = R) := by
        have h1 := HE.out; have h2 := HL.out
        unfold Hid; rw [← HR.out]; unfold fitsD; rw [h1, h2, decide_eq_true (p := g ≤ B) hg, Bool.true_and]; exact decide_eq_decide.2 (by omega)
      clear HG HE
      go_wp2
      go_ret
      exact ⟨T.ret_bool (by rw [← HF.out]; exact decide_eq_decide.2 (by omega)), hbel⟩
end Go.Proofs.YtomcoacndppkcaaGreatDoor
