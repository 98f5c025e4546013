/-
  The walk of CondOrder.
-/
import Derived.Test.YtomcoacndppkcaaUD
namespace Go.Proofs.Ytomcoacndppkcaa
open Go Go.RowKit
open T (Tg TgAt inD stD)

theorem cm_four (n m : Nat) (l1 l2 : List Tg) (am an : Bool) (s u : Int) (r t : Tg) (md ln : Int) (ns : Nat) :
    (cmD n m l1 l2 am an s u r t md ln ns true == 4) = failD (am || decide (0 < n)) am (inD l1 t true) u md true := by
  unfold cmD checkD
  cases failD (am || decide (0 < n)) am (inD l1 t true) u md true
  · simp only [Bool.false_eq_true, if_false]
    split
    · decide
    · split <;> decide
  · rfl
theorem cm_three (n m : Nat) (l1 l2 : List Tg) (am an : Bool) (s u : Int) (r t : Tg) (md ln : Int) (ns : Nat) (h : (decide (0 < m) || an) = true) :
    (cmD n m l1 l2 am an s u r t md ln ns true == 3) = (!failD (am || decide (0 < n)) am (inD l1 t true) u md true && (an || inD l2 t false)) := by
  unfold cmD checkD
  have h' : (an || decide (0 < m)) = true := by rw [Bool.or_comm]; exact h
  rw [h']
  unfold sameD
  cases failD (am || decide (0 < n)) am (inD l1 t true) u md true
  · simp only [Bool.false_eq_true, if_false, if_true, Bool.true_and]
    cases an || inD l2 t false
    · simp only [Bool.false_eq_true, if_false]
      split <;> decide
    · rfl
  · rfl
theorem rq_md_c2 {w W : World} {hd : Bool} {ob : ByteArray} {S : Option Addr} {ns sc : Nat} {A B : Option Addr} {n c m d : Nat} {am an : Bool} {s u : Int} {rt : ByteArray} {rw : Bool} {A2 B2 : Option Addr} {n2 c2 m2 d2 : Nat} {am2 an2 : Bool} {s2 u2 : Int} {rt2 : ByteArray} {rw2 : Bool} {tt : ByteArray} {tw : Bool} {md ln hv f1 f2 f3 : Int} {K : Option Addr} {kn kc : Nat} {tn : ByteArray} {kp : Bool}
    (h : Below (((w.alloc (.cells #[.bool hd, .string ob, .slice S ns sc, .slice A n c, .slice B m d, .bool am, .bool an, .int .i64 s, .int .i64 u, .string rt, .bool rw] 29)).alloc (.cells #[.string tt, .bool tw, .int .i64 md, .int .i64 ln, .int .i64 hv, .int .i64 f1, .int .i64 f2, .int .i64 f3, .slice K kn kc, .string tn, .bool kp] 32)).alloc (.cells #[.slice A2 n2 c2, .slice B2 m2 d2, .bool am2, .bool an2, .int .i64 s2, .int .i64 u2, .string rt2, .bool rw2] 27)).heap.size (((w.alloc (.cells #[.bool hd, .string ob, .slice S ns sc, .slice A n c, .slice B m d, .bool am, .bool an, .int .i64 s, .int .i64 u, .string rt, .bool rw] 29)).alloc (.cells #[.string tt, .bool tw, .int .i64 md, .int .i64 ln, .int .i64 hv, .int .i64 f1, .int .i64 f2, .int .i64 f3, .slice K kn kc, .string tn, .bool kp] 32)).alloc (.cells #[.slice A2 n2 c2, .slice B2 m2 d2, .bool am2, .bool an2, .int .i64 s2, .int .i64 u2, .string rt2, .bool rw2] 27)) W) :
    W.cell? ⟨w.heap.size, 0, none⟩ = some (.bool hd) ∧ W.cell? ⟨w.heap.size, 1, none⟩ = some (.string ob) ∧ W.cell? ⟨w.heap.size, 2, none⟩ = some (.slice S ns sc) ∧ W.cell? ⟨w.heap.size, 3, none⟩ = some (.slice A n c) ∧ W.cell? ⟨w.heap.size, 4, none⟩ = some (.slice B m d) ∧ W.cell? ⟨w.heap.size, 5, none⟩ = some (.bool am) ∧ W.cell? ⟨w.heap.size, 6, none⟩ = some (.bool an) ∧ W.cell? ⟨w.heap.size, 7, none⟩ = some (.int .i64 s) ∧ W.cell? ⟨w.heap.size, 8, none⟩ = some (.int .i64 u) ∧ W.cell? ⟨w.heap.size, 9, none⟩ = some (.string rt) ∧ W.cell? ⟨w.heap.size, 10, none⟩ = some (.bool rw) ∧ W.cell? ⟨w.heap.size + 1, 0, none⟩ = some (.string tt) ∧ W.cell? ⟨w.heap.size + 1, 1, none⟩ = some (.bool tw) ∧ W.cell? ⟨w.heap.size + 1, 2, none⟩ = some (.int .i64 md) ∧ W.cell? ⟨w.heap.size + 1, 3, none⟩ = some (.int .i64 ln) ∧ W.cell? ⟨w.heap.size + 1, 4, none⟩ = some (.int .i64 hv) ∧ W.cell? ⟨w.heap.size + 1, 5, none⟩ = some (.int .i64 f1) ∧ W.cell? ⟨w.heap.size + 1, 6, none⟩ = some (.int .i64 f2) ∧ W.cell? ⟨w.heap.size + 1, 7, none⟩ = some (.int .i64 f3) ∧ W.cell? ⟨w.heap.size + 1, 8, none⟩ = some (.slice K kn kc) ∧ W.cell? ⟨w.heap.size + 1, 9, none⟩ = some (.string tn) ∧ W.cell? ⟨w.heap.size + 1, 10, none⟩ = some (.bool kp) ∧ W.cell? ⟨w.heap.size + 1 + 1, 0, none⟩ = some (.slice A2 n2 c2) ∧ W.cell? ⟨w.heap.size + 1 + 1, 1, none⟩ = some (.slice B2 m2 d2) ∧ W.cell? ⟨w.heap.size + 1 + 1, 2, none⟩ = some (.bool am2) ∧ W.cell? ⟨w.heap.size + 1 + 1, 3, none⟩ = some (.bool an2) ∧ W.cell? ⟨w.heap.size + 1 + 1, 4, none⟩ = some (.int .i64 s2) ∧ W.cell? ⟨w.heap.size + 1 + 1, 5, none⟩ = some (.int .i64 u2) ∧ W.cell? ⟨w.heap.size + 1 + 1, 6, none⟩ = some (.string rt2) ∧ W.cell? ⟨w.heap.size + 1 + 1, 7, none⟩ = some (.bool rw2) ∧ w.heap.size < W.heap.size ∧ w.heap.size + 1 < W.heap.size ∧ w.heap.size + 1 + 1 < W.heap.size ∧ Below w.heap.size w W := by
  obtain ⟨hx, hy, hz, z0, z1, z2, B1⟩ := blk3 h
  exact ⟨hx 0, hx 1, hx 2, hx 3, hx 4, hx 5, hx 6, hx 7, hx 8, hx 9, hx 10, hy 0, hy 1, hy 2, hy 3, hy 4, hy 5, hy 6, hy 7, hy 8, hy 9, hy 10, hz 0, hz 1, hz 2, hz 3, hz 4, hz 5, hz 6, hz 7, z0, z1, z2, B1⟩

set_option maxHeartbeats 16000000 in
set_option maxRecDepth 100000 in
theorem walk_CondOrder (hd : Bool) (ob : ByteArray) (S : Option Addr) (ns sc : Nat) (A B : Option Addr) (n c m d : Nat) (am an : Bool) (s u : Int) (rt : ByteArray) (rw : Bool) (l1 l2 : List Tg) (tt : ByteArray) (tw : Bool) (md ln hv f1 f2 f3 : Int) (K : Option Addr) (kn kc : Nat) (tn : ByteArray) (kp : Bool) (A2 B2 : Option Addr) (n2 c2 m2 d2 : Nat) (am2 an2 : Bool) (s2 u2 : Int) (rt2 : ByteArray) (rw2 : Bool) (k1 k2 : List Tg) (w : World) (h : TwoArg w A B n m l1 l2) (hr : rt.size ≤ T.szM) (ht : tt.size ≤ T.szM) (h2 : TwoArg w A2 B2 n2 m2 k1 k2) (hr2 : rt2.size ≤ T.szM) (_w1 : (Lit.int .i64 s2).wf = true) (_w2 : (Lit.int .i64 u2).wf = true) :
    Calls Try.prog 4 #[rqV hd ob S ns sc A B n c m d am an s u rt rw, mdV tt tw md ln hv f1 f2 f3 K kn kc tn kp, cdV A2 B2 n2 c2 m2 d2 am2 an2 s2 u2 rt2 rw2] w fun e w' => e = .returned (.bool true) ∧ Below w.heap.size w w' := by
  have HH := Lib.hid h
  have HK := Lib.hid h2
  clear h h2
  have FB0 : Below w.heap.size w (((w.alloc (.cells #[.bool hd, .string ob, .slice S ns sc, .slice A n c, .slice B m d, .bool am, .bool an, .int .i64 s, .int .i64 u, .string rt, .bool rw] 29)).alloc (.cells #[.string tt, .bool tw, .int .i64 md, .int .i64 ln, .int .i64 hv, .int .i64 f1, .int .i64 f2, .int .i64 f3, .slice K kn kc, .string tn, .bool kp] 32)).alloc (.cells #[.slice A2 n2 c2, .slice B2 m2 d2, .bool am2, .bool an2, .int .i64 s2, .int .i64 u2, .string rt2, .bool rw2] 27)) := by go_grown
  have hFA : ∀ W, Below w.heap.size w W → Calls Try.prog 6 #[cdV A B n c m d am an s u rt rw] W fun e w' => e = .returned (.bool (fewD l1 l2 rt.size)) ∧ Below W.heap.size W w' :=
    fun W e => few_any A B n c m d am an s u rt rw l1 l2 W (HH.out.below e) hr
  have hFB : ∀ W, Below w.heap.size w W → Calls Try.prog 6 #[cdV A2 B2 n2 c2 m2 d2 am2 an2 s2 u2 rt2 rw2] W fun e w' => e = .returned (.bool (fewD k1 k2 rt2.size)) ∧ Below W.heap.size W w' :=
    fun W e => few_any A2 B2 n2 c2 m2 d2 am2 an2 s2 u2 rt2 rw2 k1 k2 W (HK.out.below e) hr2
  cases hf : fewD l1 l2 rt.size with
  | false =>
    rw [hf] at hFA
    clear hf hFB
    go_enter Try.func4, Try.ntmps4
    go_wp2_with (first
      | (go_at_call 6; with_reducible refine (hFA _ FB0).mono ?_; rintro e w1 ⟨rfl, hb1⟩; obtain ⟨x0, x1, x2, x3, x4, x5, x6, x7, x8, x9, x10, y0, y1, y2, y3, y4, y5, y6, y7, y8, y9, y10, v0, v1, v2, v3, v4, v5, v6, v7, z1, z2, z3, E1⟩ := rq_md_c2 hb1)
      | (go_at_call 7; with_reducible refine (awake_any _).mono ?_; rintro e w3 ⟨rfl, hb3⟩; have B9 := E1.trans (hb3.mono E1.size)))
    go_ret
    exact ⟨rfl, B9⟩
  | true =>
  rw [hf] at hFA
  cases hg : fewD k1 k2 rt2.size with
  | false =>
    rw [hg] at hFB
    clear hf hg
    go_enter Try.func4, Try.ntmps4
    go_wp2_with (first
      | (go_at_call 6; first
        | (with_reducible refine (hFA _ FB0).mono ?_; rintro e w1 ⟨rfl, hb1⟩; obtain ⟨x0, x1, x2, x3, x4, x5, x6, x7, x8, x9, x10, y0, y1, y2, y3, y4, y5, y6, y7, y8, y9, y10, v0, v1, v2, v3, v4, v5, v6, v7, z1, z2, z3, E1⟩ := rq_md_c2 hb1)
        | (with_reducible refine (hFB _ E1).mono ?_; rintro e w2 ⟨rfl, hb2⟩; have C2 := hb1.trans (hb2.mono hb1.size); obtain ⟨x0, x1, x2, x3, x4, x5, x6, x7, x8, x9, x10, y0, y1, y2, y3, y4, y5, y6, y7, y8, y9, y10, v0, v1, v2, v3, v4, v5, v6, v7, z1, z2, z3, E2⟩ := rq_md_c2 C2))
      | (go_at_call 7; with_reducible refine (awake_any _).mono ?_; rintro e w3 ⟨rfl, hb3⟩; have B9 := E2.trans (hb3.mono E2.size)))
    go_ret
    exact ⟨rfl, B9⟩
  | true =>
  rw [hg] at hFB
  by_cases h70 : ns > 70
  · clear hf hg
    go_enter Try.func4, Try.ntmps4
    go_wp2_with (first
      | (go_at_call 6; first
        | (with_reducible refine (hFA _ FB0).mono ?_; rintro e w1 ⟨rfl, hb1⟩; obtain ⟨x0, x1, x2, x3, x4, x5, x6, x7, x8, x9, x10, y0, y1, y2, y3, y4, y5, y6, y7, y8, y9, y10, v0, v1, v2, v3, v4, v5, v6, v7, z1, z2, z3, E1⟩ := rq_md_c2 hb1)
        | (with_reducible refine (hFB _ E1).mono ?_; rintro e w2 ⟨rfl, hb2⟩; have C2 := hb1.trans (hb2.mono hb1.size); obtain ⟨x0, x1, x2, x3, x4, x5, x6, x7, x8, x9, x10, y0, y1, y2, y3, y4, y5, y6, y7, y8, y9, y10, v0, v1, v2, v3, v4, v5, v6, v7, z1, z2, z3, E2⟩ := rq_md_c2 C2))
      | (go_at_call 7; with_reducible refine (awake_any _).mono ?_; rintro e w3 ⟨rfl, hb3⟩; have B9 := E2.trans (hb3.mono E2.size)))
    go_ret
    exact ⟨rfl, B9⟩
  have HT := Lib.hid (HH.out.two hf)
  have HU := Lib.hid (HK.out.two hg)
  clear hf hg
  go_enter Try.func4, Try.ntmps4
  go_wp2_with (go_at_call 6; first
        | (with_reducible refine (hFA _ FB0).mono ?_; rintro e w1 ⟨rfl, hb1⟩; obtain ⟨x0, x1, x2, x3, x4, x5, x6, x7, x8, x9, x10, y0, y1, y2, y3, y4, y5, y6, y7, y8, y9, y10, v0, v1, v2, v3, v4, v5, v6, v7, z1, z2, z3, E1⟩ := rq_md_c2 hb1)
        | (with_reducible refine (hFB _ E1).mono ?_; rintro e w2 ⟨rfl, hb2⟩; have C2 := hb1.trans (hb2.mono hb1.size); obtain ⟨x0, x1, x2, x3, x4, x5, x6, x7, x8, x9, x10, y0, y1, y2, y3, y4, y5, y6, y7, y8, y9, y10, v0, v1, v2, v3, v4, v5, v6, v7, z1, z2, z3, E2⟩ := rq_md_c2 C2))
  clear x0 x1 x2 x3 x4 x5 x6 x7 x8 x9 x10 hb1 E1
  obtain ⟨x0, x1, x2, x3, x4, x5, x6, x7, x8, x9, x10, y0, y1, y2, y3, y4, y5, y6, y7, y8, y9, y10, v0, v1, v2, v3, v4, v5, v6, v7, z1, z2, z3, E2⟩ := rq_md_c2 C2
  go_region
  have e4 : Ext w2 (w2.alloc (.cells #[.bool hd, .string ob, .slice S ns sc, .slice A n c, .slice B m d, .bool am, .bool an, .int .i64 s2, .int .i64 u, .string rt2, .bool rw2] 29)).drew := T.below_drewN (n := 1) ((Below.refl _ _).alloc (Nat.le_refl _) _)
  have z4 : w2.heap.size < (w2.alloc (.cells #[.bool hd, .string ob, .slice S ns sc, .slice A n c, .slice B m d, .bool am, .bool an, .int .i64 s2, .int .i64 u, .string rt2, .bool rw2] 29)).drew.heap.size := by simp
  have p0 : (w2.alloc (.cells #[.bool hd, .string ob, .slice S ns sc, .slice A n c, .slice B m d, .bool am, .bool an, .int .i64 s2, .int .i64 u, .string rt2, .bool rw2] 29)).drew.cell? ⟨w2.heap.size, 0, none⟩ = some (.bool hd) := by simp
  have p1 : (w2.alloc (.cells #[.bool hd, .string ob, .slice S ns sc, .slice A n c, .slice B m d, .bool am, .bool an, .int .i64 s2, .int .i64 u, .string rt2, .bool rw2] 29)).drew.cell? ⟨w2.heap.size, 1, none⟩ = some (.string ob) := by simp
  have p2 : (w2.alloc (.cells #[.bool hd, .string ob, .slice S ns sc, .slice A n c, .slice B m d, .bool am, .bool an, .int .i64 s2, .int .i64 u, .string rt2, .bool rw2] 29)).drew.cell? ⟨w2.heap.size, 2, none⟩ = some (.slice S ns sc) := by simp
  have p3 : (w2.alloc (.cells #[.bool hd, .string ob, .slice S ns sc, .slice A n c, .slice B m d, .bool am, .bool an, .int .i64 s2, .int .i64 u, .string rt2, .bool rw2] 29)).drew.cell? ⟨w2.heap.size, 3, none⟩ = some (.slice A n c) := by simp
  have p4 : (w2.alloc (.cells #[.bool hd, .string ob, .slice S ns sc, .slice A n c, .slice B m d, .bool am, .bool an, .int .i64 s2, .int .i64 u, .string rt2, .bool rw2] 29)).drew.cell? ⟨w2.heap.size, 4, none⟩ = some (.slice B m d) := by simp
  have p5 : (w2.alloc (.cells #[.bool hd, .string ob, .slice S ns sc, .slice A n c, .slice B m d, .bool am, .bool an, .int .i64 s2, .int .i64 u, .string rt2, .bool rw2] 29)).drew.cell? ⟨w2.heap.size, 5, none⟩ = some (.bool am) := by simp
  have p6 : (w2.alloc (.cells #[.bool hd, .string ob, .slice S ns sc, .slice A n c, .slice B m d, .bool am, .bool an, .int .i64 s2, .int .i64 u, .string rt2, .bool rw2] 29)).drew.cell? ⟨w2.heap.size, 6, none⟩ = some (.bool an) := by simp
  have p7 : (w2.alloc (.cells #[.bool hd, .string ob, .slice S ns sc, .slice A n c, .slice B m d, .bool am, .bool an, .int .i64 s2, .int .i64 u, .string rt2, .bool rw2] 29)).drew.cell? ⟨w2.heap.size, 7, none⟩ = some (.int .i64 s2) := by simp
  have p8 : (w2.alloc (.cells #[.bool hd, .string ob, .slice S ns sc, .slice A n c, .slice B m d, .bool am, .bool an, .int .i64 s2, .int .i64 u, .string rt2, .bool rw2] 29)).drew.cell? ⟨w2.heap.size, 8, none⟩ = some (.int .i64 u) := by simp
  have p9 : (w2.alloc (.cells #[.bool hd, .string ob, .slice S ns sc, .slice A n c, .slice B m d, .bool am, .bool an, .int .i64 s2, .int .i64 u, .string rt2, .bool rw2] 29)).drew.cell? ⟨w2.heap.size, 9, none⟩ = some (.string rt2) := by simp
  have p10 : (w2.alloc (.cells #[.bool hd, .string ob, .slice S ns sc, .slice A n c, .slice B m d, .bool am, .bool an, .int .i64 s2, .int .i64 u, .string rt2, .bool rw2] 29)).drew.cell? ⟨w2.heap.size, 10, none⟩ = some (.bool rw2) := by simp
  have q0 : (w2.alloc (.cells #[.bool hd, .string ob, .slice S ns sc, .slice A n c, .slice B m d, .bool am, .bool an, .int .i64 s2, .int .i64 u, .string rt2, .bool rw2] 29)).drew.cell? ⟨w.heap.size, 0, none⟩ = some (.bool hd) := by rw [e4.cell (p := ⟨w.heap.size, 0, none⟩) z1]; exact x0
  have q1 : (w2.alloc (.cells #[.bool hd, .string ob, .slice S ns sc, .slice A n c, .slice B m d, .bool am, .bool an, .int .i64 s2, .int .i64 u, .string rt2, .bool rw2] 29)).drew.cell? ⟨w.heap.size, 1, none⟩ = some (.string ob) := by rw [e4.cell (p := ⟨w.heap.size, 1, none⟩) z1]; exact x1
  have q2 : (w2.alloc (.cells #[.bool hd, .string ob, .slice S ns sc, .slice A n c, .slice B m d, .bool am, .bool an, .int .i64 s2, .int .i64 u, .string rt2, .bool rw2] 29)).drew.cell? ⟨w.heap.size, 2, none⟩ = some (.slice S ns sc) := by rw [e4.cell (p := ⟨w.heap.size, 2, none⟩) z1]; exact x2
  have q3 : (w2.alloc (.cells #[.bool hd, .string ob, .slice S ns sc, .slice A n c, .slice B m d, .bool am, .bool an, .int .i64 s2, .int .i64 u, .string rt2, .bool rw2] 29)).drew.cell? ⟨w.heap.size, 3, none⟩ = some (.slice A n c) := by rw [e4.cell (p := ⟨w.heap.size, 3, none⟩) z1]; exact x3
  have q4 : (w2.alloc (.cells #[.bool hd, .string ob, .slice S ns sc, .slice A n c, .slice B m d, .bool am, .bool an, .int .i64 s2, .int .i64 u, .string rt2, .bool rw2] 29)).drew.cell? ⟨w.heap.size, 4, none⟩ = some (.slice B m d) := by rw [e4.cell (p := ⟨w.heap.size, 4, none⟩) z1]; exact x4
  have q5 : (w2.alloc (.cells #[.bool hd, .string ob, .slice S ns sc, .slice A n c, .slice B m d, .bool am, .bool an, .int .i64 s2, .int .i64 u, .string rt2, .bool rw2] 29)).drew.cell? ⟨w.heap.size, 5, none⟩ = some (.bool am) := by rw [e4.cell (p := ⟨w.heap.size, 5, none⟩) z1]; exact x5
  have q6 : (w2.alloc (.cells #[.bool hd, .string ob, .slice S ns sc, .slice A n c, .slice B m d, .bool am, .bool an, .int .i64 s2, .int .i64 u, .string rt2, .bool rw2] 29)).drew.cell? ⟨w.heap.size, 6, none⟩ = some (.bool an) := by rw [e4.cell (p := ⟨w.heap.size, 6, none⟩) z1]; exact x6
  have q7 : (w2.alloc (.cells #[.bool hd, .string ob, .slice S ns sc, .slice A n c, .slice B m d, .bool am, .bool an, .int .i64 s2, .int .i64 u, .string rt2, .bool rw2] 29)).drew.cell? ⟨w.heap.size, 7, none⟩ = some (.int .i64 s) := by rw [e4.cell (p := ⟨w.heap.size, 7, none⟩) z1]; exact x7
  have q8 : (w2.alloc (.cells #[.bool hd, .string ob, .slice S ns sc, .slice A n c, .slice B m d, .bool am, .bool an, .int .i64 s2, .int .i64 u, .string rt2, .bool rw2] 29)).drew.cell? ⟨w.heap.size, 8, none⟩ = some (.int .i64 u) := by rw [e4.cell (p := ⟨w.heap.size, 8, none⟩) z1]; exact x8
  have q9 : (w2.alloc (.cells #[.bool hd, .string ob, .slice S ns sc, .slice A n c, .slice B m d, .bool am, .bool an, .int .i64 s2, .int .i64 u, .string rt2, .bool rw2] 29)).drew.cell? ⟨w.heap.size, 9, none⟩ = some (.string rt) := by rw [e4.cell (p := ⟨w.heap.size, 9, none⟩) z1]; exact x9
  have q10 : (w2.alloc (.cells #[.bool hd, .string ob, .slice S ns sc, .slice A n c, .slice B m d, .bool am, .bool an, .int .i64 s2, .int .i64 u, .string rt2, .bool rw2] 29)).drew.cell? ⟨w.heap.size, 10, none⟩ = some (.bool rw) := by rw [e4.cell (p := ⟨w.heap.size, 10, none⟩) z1]; exact x10
  have r0 : (w2.alloc (.cells #[.bool hd, .string ob, .slice S ns sc, .slice A n c, .slice B m d, .bool am, .bool an, .int .i64 s2, .int .i64 u, .string rt2, .bool rw2] 29)).drew.cell? ⟨w.heap.size + 1, 0, none⟩ = some (.string tt) := by rw [e4.cell (p := ⟨w.heap.size + 1, 0, none⟩) z2]; exact y0
  have r1 : (w2.alloc (.cells #[.bool hd, .string ob, .slice S ns sc, .slice A n c, .slice B m d, .bool am, .bool an, .int .i64 s2, .int .i64 u, .string rt2, .bool rw2] 29)).drew.cell? ⟨w.heap.size + 1, 1, none⟩ = some (.bool tw) := by rw [e4.cell (p := ⟨w.heap.size + 1, 1, none⟩) z2]; exact y1
  have r2 : (w2.alloc (.cells #[.bool hd, .string ob, .slice S ns sc, .slice A n c, .slice B m d, .bool am, .bool an, .int .i64 s2, .int .i64 u, .string rt2, .bool rw2] 29)).drew.cell? ⟨w.heap.size + 1, 2, none⟩ = some (.int .i64 md) := by rw [e4.cell (p := ⟨w.heap.size + 1, 2, none⟩) z2]; exact y2
  have r3 : (w2.alloc (.cells #[.bool hd, .string ob, .slice S ns sc, .slice A n c, .slice B m d, .bool am, .bool an, .int .i64 s2, .int .i64 u, .string rt2, .bool rw2] 29)).drew.cell? ⟨w.heap.size + 1, 3, none⟩ = some (.int .i64 ln) := by rw [e4.cell (p := ⟨w.heap.size + 1, 3, none⟩) z2]; exact y3
  have r4 : (w2.alloc (.cells #[.bool hd, .string ob, .slice S ns sc, .slice A n c, .slice B m d, .bool am, .bool an, .int .i64 s2, .int .i64 u, .string rt2, .bool rw2] 29)).drew.cell? ⟨w.heap.size + 1, 4, none⟩ = some (.int .i64 hv) := by rw [e4.cell (p := ⟨w.heap.size + 1, 4, none⟩) z2]; exact y4
  have r5 : (w2.alloc (.cells #[.bool hd, .string ob, .slice S ns sc, .slice A n c, .slice B m d, .bool am, .bool an, .int .i64 s2, .int .i64 u, .string rt2, .bool rw2] 29)).drew.cell? ⟨w.heap.size + 1, 5, none⟩ = some (.int .i64 f1) := by rw [e4.cell (p := ⟨w.heap.size + 1, 5, none⟩) z2]; exact y5
  have r6 : (w2.alloc (.cells #[.bool hd, .string ob, .slice S ns sc, .slice A n c, .slice B m d, .bool am, .bool an, .int .i64 s2, .int .i64 u, .string rt2, .bool rw2] 29)).drew.cell? ⟨w.heap.size + 1, 6, none⟩ = some (.int .i64 f2) := by rw [e4.cell (p := ⟨w.heap.size + 1, 6, none⟩) z2]; exact y6
  have r7 : (w2.alloc (.cells #[.bool hd, .string ob, .slice S ns sc, .slice A n c, .slice B m d, .bool am, .bool an, .int .i64 s2, .int .i64 u, .string rt2, .bool rw2] 29)).drew.cell? ⟨w.heap.size + 1, 7, none⟩ = some (.int .i64 f3) := by rw [e4.cell (p := ⟨w.heap.size + 1, 7, none⟩) z2]; exact y7
  have r8 : (w2.alloc (.cells #[.bool hd, .string ob, .slice S ns sc, .slice A n c, .slice B m d, .bool am, .bool an, .int .i64 s2, .int .i64 u, .string rt2, .bool rw2] 29)).drew.cell? ⟨w.heap.size + 1, 8, none⟩ = some (.slice K kn kc) := by rw [e4.cell (p := ⟨w.heap.size + 1, 8, none⟩) z2]; exact y8
  have r9 : (w2.alloc (.cells #[.bool hd, .string ob, .slice S ns sc, .slice A n c, .slice B m d, .bool am, .bool an, .int .i64 s2, .int .i64 u, .string rt2, .bool rw2] 29)).drew.cell? ⟨w.heap.size + 1, 9, none⟩ = some (.string tn) := by rw [e4.cell (p := ⟨w.heap.size + 1, 9, none⟩) z2]; exact y9
  have r10 : (w2.alloc (.cells #[.bool hd, .string ob, .slice S ns sc, .slice A n c, .slice B m d, .bool am, .bool an, .int .i64 s2, .int .i64 u, .string rt2, .bool rw2] 29)).drew.cell? ⟨w.heap.size + 1, 10, none⟩ = some (.bool kp) := by rw [e4.cell (p := ⟨w.heap.size + 1, 10, none⟩) z2]; exact y10
  have t0 : (w2.alloc (.cells #[.bool hd, .string ob, .slice S ns sc, .slice A n c, .slice B m d, .bool am, .bool an, .int .i64 s2, .int .i64 u, .string rt2, .bool rw2] 29)).drew.cell? ⟨w.heap.size + 1 + 1, 0, none⟩ = some (.slice A2 n2 c2) := by rw [e4.cell (p := ⟨w.heap.size + 1 + 1, 0, none⟩) z3]; exact v0
  have t1 : (w2.alloc (.cells #[.bool hd, .string ob, .slice S ns sc, .slice A n c, .slice B m d, .bool am, .bool an, .int .i64 s2, .int .i64 u, .string rt2, .bool rw2] 29)).drew.cell? ⟨w.heap.size + 1 + 1, 1, none⟩ = some (.slice B2 m2 d2) := by rw [e4.cell (p := ⟨w.heap.size + 1 + 1, 1, none⟩) z3]; exact v1
  have t2 : (w2.alloc (.cells #[.bool hd, .string ob, .slice S ns sc, .slice A n c, .slice B m d, .bool am, .bool an, .int .i64 s2, .int .i64 u, .string rt2, .bool rw2] 29)).drew.cell? ⟨w.heap.size + 1 + 1, 2, none⟩ = some (.bool am2) := by rw [e4.cell (p := ⟨w.heap.size + 1 + 1, 2, none⟩) z3]; exact v2
  have t3 : (w2.alloc (.cells #[.bool hd, .string ob, .slice S ns sc, .slice A n c, .slice B m d, .bool am, .bool an, .int .i64 s2, .int .i64 u, .string rt2, .bool rw2] 29)).drew.cell? ⟨w.heap.size + 1 + 1, 3, none⟩ = some (.bool an2) := by rw [e4.cell (p := ⟨w.heap.size + 1 + 1, 3, none⟩) z3]; exact v3
  have t4 : (w2.alloc (.cells #[.bool hd, .string ob, .slice S ns sc, .slice A n c, .slice B m d, .bool am, .bool an, .int .i64 s2, .int .i64 u, .string rt2, .bool rw2] 29)).drew.cell? ⟨w.heap.size + 1 + 1, 4, none⟩ = some (.int .i64 s2) := by rw [e4.cell (p := ⟨w.heap.size + 1 + 1, 4, none⟩) z3]; exact v4
  have t5 : (w2.alloc (.cells #[.bool hd, .string ob, .slice S ns sc, .slice A n c, .slice B m d, .bool am, .bool an, .int .i64 s2, .int .i64 u, .string rt2, .bool rw2] 29)).drew.cell? ⟨w.heap.size + 1 + 1, 5, none⟩ = some (.int .i64 u2) := by rw [e4.cell (p := ⟨w.heap.size + 1 + 1, 5, none⟩) z3]; exact v5
  have t6 : (w2.alloc (.cells #[.bool hd, .string ob, .slice S ns sc, .slice A n c, .slice B m d, .bool am, .bool an, .int .i64 s2, .int .i64 u, .string rt2, .bool rw2] 29)).drew.cell? ⟨w.heap.size + 1 + 1, 6, none⟩ = some (.string rt2) := by rw [e4.cell (p := ⟨w.heap.size + 1 + 1, 6, none⟩) z3]; exact v6
  have t7 : (w2.alloc (.cells #[.bool hd, .string ob, .slice S ns sc, .slice A n c, .slice B m d, .bool am, .bool an, .int .i64 s2, .int .i64 u, .string rt2, .bool rw2] 29)).drew.cell? ⟨w.heap.size + 1 + 1, 7, none⟩ = some (.bool rw2) := by rw [e4.cell (p := ⟨w.heap.size + 1 + 1, 7, none⟩) z3]; exact v7
  have E4 : Ext w (w2.alloc (.cells #[.bool hd, .string ob, .slice S ns sc, .slice A n c, .slice B m d, .bool am, .bool an, .int .i64 s2, .int .i64 u, .string rt2, .bool rw2] 29)).drew := Ext.tr E2 e4
  replace z1 := Nat.lt_of_lt_of_le z1 e4.size
  replace z2 := Nat.lt_of_lt_of_le z2 e4.size
  replace z3 := Nat.lt_of_lt_of_le z3 e4.size
  clear x0 x1 x2 x3 x4 x5 x6 x7 x8 x9 x10 y0 y1 y2 y3 y4 y5 y6 y7 y8 y9 y10 v0 v1 v2 v3 v4 v5 v6 v7 C2 hb2 hFA hFB FB0 E2 e4
  generalize (w2.alloc (.cells #[.bool hd, .string ob, .slice S ns sc, .slice A n c, .slice B m d, .bool am, .bool an, .int .i64 s2, .int .i64 u, .string rt2, .bool rw2] 29)).drew = w4 at *
  generalize w2.heap.size = bx at *
  have hA : ∀ W, Ext w4 W → Calls Try.prog 8 #[rqV hd ob S ns sc A B n c m d am an s u rt rw, mdV tt tw md ln hv f1 f2 f3 K kn kc tn kp, .bool true] W fun e w' => e = .returned (.int .i64 (cmD n m l1 l2 am an s u (rt, rw) (tt, tw) md ln ns true)) ∧ Below W.heap.size W w' :=
    fun W e => check_any hd ob S ns sc A B n c m d am an s u rt rw tt tw md ln hv f1 f2 f3 K kn kc tn kp true l1 l2 W (HT.out.below (Ext.tr E4 e)) (T.szM_max ht) (T.szM_max hr)
  have hX : ∀ W, Ext w4 W → Calls Try.prog 8 #[rqV hd ob S ns sc A B n c m d am an s2 u rt2 rw2, mdV tt tw md ln hv f1 f2 f3 K kn kc tn kp, .bool true] W fun e w' => e = .returned (.int .i64 (cmD n m l1 l2 am an s2 u (rt2, rw2) (tt, tw) md ln ns true)) ∧ Below W.heap.size W w' :=
    fun W e => check_any hd ob S ns sc A B n c m d am an s2 u rt2 rw2 tt tw md ln hv f1 f2 f3 K kn kc tn kp true l1 l2 W (HT.out.below (Ext.tr E4 e)) (T.szM_max ht) (T.szM_max hr2)
  have hY : ∀ W, Ext w4 W → Calls Try.prog 8 #[rqV hd ob S ns sc A B2 n c m2 d2 am an2 s2 u rt2 rw2, mdV tt tw md ln hv f1 f2 f3 K kn kc tn kp, .bool true] W fun e w' => e = .returned (.int .i64 (cmD n m2 l1 k2 am an2 s2 u (rt2, rw2) (tt, tw) md ln ns true)) ∧ Below W.heap.size W w' :=
    fun W e => check_any hd ob S ns sc A B2 n c m2 d2 am an2 s2 u rt2 rw2 tt tw md ln hv f1 f2 f3 K kn kc tn kp true l1 k2 W
      ⟨(HT.out.below (Ext.tr E4 e)).n1, (HT.out.below (Ext.tr E4 e)).m1, (HT.out.below (Ext.tr E4 e)).M1, (HT.out.below (Ext.tr E4 e)).s1, (HU.out.below (Ext.tr E4 e)).n2, (HU.out.below (Ext.tr E4 e)).m2, (HU.out.below (Ext.tr E4 e)).M2, (HU.out.below (Ext.tr E4 e)).s2⟩ (T.szM_max ht) (T.szM_max hr2)
  have F3 : Hid ((decide (0 < m) || an) = true → (cmD n m l1 l2 am an s u (rt, rw) (tt, tw) md ln ns true == 3) = (cmD n m l1 l2 am an s2 u (rt2, rw2) (tt, tw) md ln ns true == 3)) := fun h => by rw [cm_three _ _ _ _ _ _ _ _ _ _ _ _ _ h, cm_three _ _ _ _ _ _ _ _ _ _ _ _ _ h]
  have F4 : Hid ((cmD n m l1 l2 am an s u (rt, rw) (tt, tw) md ln ns true == 4) = (cmD n m2 l1 k2 am an2 s2 u (rt2, rw2) (tt, tw) md ln ns true == 4)) := by unfold Hid; rw [cm_four, cm_four]
  generalize cmD n m l1 l2 am an s u (rt, rw) (tt, tw) md ln ns true = cR at *
  generalize cmD n m l1 l2 am an s2 u (rt2, rw2) (tt, tw) md ln ns true = cX at *
  generalize cmD n m2 l1 k2 am an2 s2 u (rt2, rw2) (tt, tw) md ln ns true = cY at *
  obtain ⟨nm, HNM⟩ : ∃ nm, Hid ((decide (0 < m) || an) = nm) := ⟨_, rfl⟩
  clear HT HU HH HK hr hr2 ht
  go_upto_region 5 with fail
  go_cut [8] (fun q8 wx => q8 = .bool nm ∧ wx = w4)
  case first =>
    by_cases h0 : 0 < m
    · go_wp2_with fail
      go_meet
      exact ⟨by rw [← HNM.out]; simp [h0], rfl⟩
    · cases an with
      | true =>
        go_wp2_with fail
        go_meet
        exact ⟨by rw [← HNM.out]; simp, rfl⟩
      | false =>
        go_wp2_with fail
        go_meet
        exact ⟨by rw [← HNM.out]; simp [h0], rfl⟩
  case rest =>
  obtain ⟨rfl, rfl⟩ := hcut
  generalize hwc : wc = w4 at *
  clear hwc
  have gq0 : ∀ W, Ext w4 W → W.cell? ⟨w.heap.size, 0, none⟩ = some (.bool hd) := fun W h => by rw [h.cell (p := ⟨w.heap.size, 0, none⟩) z1]; exact q0
  have gq1 : ∀ W, Ext w4 W → W.cell? ⟨w.heap.size, 1, none⟩ = some (.string ob) := fun W h => by rw [h.cell (p := ⟨w.heap.size, 1, none⟩) z1]; exact q1
  have gq2 : ∀ W, Ext w4 W → W.cell? ⟨w.heap.size, 2, none⟩ = some (.slice S ns sc) := fun W h => by rw [h.cell (p := ⟨w.heap.size, 2, none⟩) z1]; exact q2
  have gq3 : ∀ W, Ext w4 W → W.cell? ⟨w.heap.size, 3, none⟩ = some (.slice A n c) := fun W h => by rw [h.cell (p := ⟨w.heap.size, 3, none⟩) z1]; exact q3
  have gq4 : ∀ W, Ext w4 W → W.cell? ⟨w.heap.size, 4, none⟩ = some (.slice B m d) := fun W h => by rw [h.cell (p := ⟨w.heap.size, 4, none⟩) z1]; exact q4
  have gq5 : ∀ W, Ext w4 W → W.cell? ⟨w.heap.size, 5, none⟩ = some (.bool am) := fun W h => by rw [h.cell (p := ⟨w.heap.size, 5, none⟩) z1]; exact q5
  have gq6 : ∀ W, Ext w4 W → W.cell? ⟨w.heap.size, 6, none⟩ = some (.bool an) := fun W h => by rw [h.cell (p := ⟨w.heap.size, 6, none⟩) z1]; exact q6
  have gq7 : ∀ W, Ext w4 W → W.cell? ⟨w.heap.size, 7, none⟩ = some (.int .i64 s) := fun W h => by rw [h.cell (p := ⟨w.heap.size, 7, none⟩) z1]; exact q7
  have gq8 : ∀ W, Ext w4 W → W.cell? ⟨w.heap.size, 8, none⟩ = some (.int .i64 u) := fun W h => by rw [h.cell (p := ⟨w.heap.size, 8, none⟩) z1]; exact q8
  have gq9 : ∀ W, Ext w4 W → W.cell? ⟨w.heap.size, 9, none⟩ = some (.string rt) := fun W h => by rw [h.cell (p := ⟨w.heap.size, 9, none⟩) z1]; exact q9
  have gq10 : ∀ W, Ext w4 W → W.cell? ⟨w.heap.size, 10, none⟩ = some (.bool rw) := fun W h => by rw [h.cell (p := ⟨w.heap.size, 10, none⟩) z1]; exact q10
  have gr0 : ∀ W, Ext w4 W → W.cell? ⟨w.heap.size + 1, 0, none⟩ = some (.string tt) := fun W h => by rw [h.cell (p := ⟨w.heap.size + 1, 0, none⟩) z2]; exact r0
  have gr1 : ∀ W, Ext w4 W → W.cell? ⟨w.heap.size + 1, 1, none⟩ = some (.bool tw) := fun W h => by rw [h.cell (p := ⟨w.heap.size + 1, 1, none⟩) z2]; exact r1
  have gr2 : ∀ W, Ext w4 W → W.cell? ⟨w.heap.size + 1, 2, none⟩ = some (.int .i64 md) := fun W h => by rw [h.cell (p := ⟨w.heap.size + 1, 2, none⟩) z2]; exact r2
  have gr3 : ∀ W, Ext w4 W → W.cell? ⟨w.heap.size + 1, 3, none⟩ = some (.int .i64 ln) := fun W h => by rw [h.cell (p := ⟨w.heap.size + 1, 3, none⟩) z2]; exact r3
  have gr4 : ∀ W, Ext w4 W → W.cell? ⟨w.heap.size + 1, 4, none⟩ = some (.int .i64 hv) := fun W h => by rw [h.cell (p := ⟨w.heap.size + 1, 4, none⟩) z2]; exact r4
  have gr5 : ∀ W, Ext w4 W → W.cell? ⟨w.heap.size + 1, 5, none⟩ = some (.int .i64 f1) := fun W h => by rw [h.cell (p := ⟨w.heap.size + 1, 5, none⟩) z2]; exact r5
  have gr6 : ∀ W, Ext w4 W → W.cell? ⟨w.heap.size + 1, 6, none⟩ = some (.int .i64 f2) := fun W h => by rw [h.cell (p := ⟨w.heap.size + 1, 6, none⟩) z2]; exact r6
  have gr7 : ∀ W, Ext w4 W → W.cell? ⟨w.heap.size + 1, 7, none⟩ = some (.int .i64 f3) := fun W h => by rw [h.cell (p := ⟨w.heap.size + 1, 7, none⟩) z2]; exact r7
  have gr8 : ∀ W, Ext w4 W → W.cell? ⟨w.heap.size + 1, 8, none⟩ = some (.slice K kn kc) := fun W h => by rw [h.cell (p := ⟨w.heap.size + 1, 8, none⟩) z2]; exact r8
  have gr9 : ∀ W, Ext w4 W → W.cell? ⟨w.heap.size + 1, 9, none⟩ = some (.string tn) := fun W h => by rw [h.cell (p := ⟨w.heap.size + 1, 9, none⟩) z2]; exact r9
  have gr10 : ∀ W, Ext w4 W → W.cell? ⟨w.heap.size + 1, 10, none⟩ = some (.bool kp) := fun W h => by rw [h.cell (p := ⟨w.heap.size + 1, 10, none⟩) z2]; exact r10
  have gt0 : ∀ W, Ext w4 W → W.cell? ⟨w.heap.size + 1 + 1, 0, none⟩ = some (.slice A2 n2 c2) := fun W h => by rw [h.cell (p := ⟨w.heap.size + 1 + 1, 0, none⟩) z3]; exact t0
  have gt1 : ∀ W, Ext w4 W → W.cell? ⟨w.heap.size + 1 + 1, 1, none⟩ = some (.slice B2 m2 d2) := fun W h => by rw [h.cell (p := ⟨w.heap.size + 1 + 1, 1, none⟩) z3]; exact t1
  have gt2 : ∀ W, Ext w4 W → W.cell? ⟨w.heap.size + 1 + 1, 2, none⟩ = some (.bool am2) := fun W h => by rw [h.cell (p := ⟨w.heap.size + 1 + 1, 2, none⟩) z3]; exact t2
  have gt3 : ∀ W, Ext w4 W → W.cell? ⟨w.heap.size + 1 + 1, 3, none⟩ = some (.bool an2) := fun W h => by rw [h.cell (p := ⟨w.heap.size + 1 + 1, 3, none⟩) z3]; exact t3
  have gt4 : ∀ W, Ext w4 W → W.cell? ⟨w.heap.size + 1 + 1, 4, none⟩ = some (.int .i64 s2) := fun W h => by rw [h.cell (p := ⟨w.heap.size + 1 + 1, 4, none⟩) z3]; exact t4
  have gt5 : ∀ W, Ext w4 W → W.cell? ⟨w.heap.size + 1 + 1, 5, none⟩ = some (.int .i64 u2) := fun W h => by rw [h.cell (p := ⟨w.heap.size + 1 + 1, 5, none⟩) z3]; exact t5
  have gt6 : ∀ W, Ext w4 W → W.cell? ⟨w.heap.size + 1 + 1, 6, none⟩ = some (.string rt2) := fun W h => by rw [h.cell (p := ⟨w.heap.size + 1 + 1, 6, none⟩) z3]; exact t6
  have gt7 : ∀ W, Ext w4 W → W.cell? ⟨w.heap.size + 1 + 1, 7, none⟩ = some (.bool rw2) := fun W h => by rw [h.cell (p := ⟨w.heap.size + 1 + 1, 7, none⟩) z3]; exact t7
  have gp0 : ∀ W, Ext w4 W → W.cell? ⟨bx, 0, none⟩ = some (.bool hd) := fun W h => by rw [h.cell (p := ⟨bx, 0, none⟩) z4]; exact p0
  have gp1 : ∀ W, Ext w4 W → W.cell? ⟨bx, 1, none⟩ = some (.string ob) := fun W h => by rw [h.cell (p := ⟨bx, 1, none⟩) z4]; exact p1
  have gp2 : ∀ W, Ext w4 W → W.cell? ⟨bx, 2, none⟩ = some (.slice S ns sc) := fun W h => by rw [h.cell (p := ⟨bx, 2, none⟩) z4]; exact p2
  have gp3 : ∀ W, Ext w4 W → W.cell? ⟨bx, 3, none⟩ = some (.slice A n c) := fun W h => by rw [h.cell (p := ⟨bx, 3, none⟩) z4]; exact p3
  have gp4 : ∀ W, Ext w4 W → W.cell? ⟨bx, 4, none⟩ = some (.slice B m d) := fun W h => by rw [h.cell (p := ⟨bx, 4, none⟩) z4]; exact p4
  have gp5 : ∀ W, Ext w4 W → W.cell? ⟨bx, 5, none⟩ = some (.bool am) := fun W h => by rw [h.cell (p := ⟨bx, 5, none⟩) z4]; exact p5
  have gp6 : ∀ W, Ext w4 W → W.cell? ⟨bx, 6, none⟩ = some (.bool an) := fun W h => by rw [h.cell (p := ⟨bx, 6, none⟩) z4]; exact p6
  have gp7 : ∀ W, Ext w4 W → W.cell? ⟨bx, 7, none⟩ = some (.int .i64 s2) := fun W h => by rw [h.cell (p := ⟨bx, 7, none⟩) z4]; exact p7
  have gp8 : ∀ W, Ext w4 W → W.cell? ⟨bx, 8, none⟩ = some (.int .i64 u) := fun W h => by rw [h.cell (p := ⟨bx, 8, none⟩) z4]; exact p8
  have gp9 : ∀ W, Ext w4 W → W.cell? ⟨bx, 9, none⟩ = some (.string rt2) := fun W h => by rw [h.cell (p := ⟨bx, 9, none⟩) z4]; exact p9
  have gp10 : ∀ W, Ext w4 W → W.cell? ⟨bx, 10, none⟩ = some (.bool rw2) := fun W h => by rw [h.cell (p := ⟨bx, 10, none⟩) z4]; exact p10
  go_upto_region 6 with fail
  go_cut [56] (fun q56 wx => q56 = .bool false ∧ Ext w4 wx)
  case first =>
    cases nm with
    | false =>
      refine' wp_region_made (rels := relsOf ((.val _) :: (.val _) :: (.val _) :: (.val _) :: (.val _) :: (.val _) :: (.val _) :: (.val _) :: (.val _) :: (.val _) :: (.val _) :: (.val _) :: [])) (w := w4) 76 (by kernel_rfl) (by kernel_rfl) (by rfl) (relsOf_stable ?stf) ?wkf
      case stf => exact stable_val (stable_val (stable_val (stable_val (stable_val (stable_val (stable_val (stable_val (stable_val (stable_val (stable_val (stable_val (stable_nil))))))))))))
      case wkf =>
        refine' walk_val (by rfl) ?af0 (fun K hK => ?bf0); (case af0 => (intro W hW hd; clear hd; go_simp; first | exact ⟨Ext.rf _, rfl⟩ | rfl)); (go_simp; refine hK _ ?_; clear hK K)
        refine' walk_val (by rfl) ?af1 (fun K hK => ?bf1); (case af1 => (intro W hW hd; clear hd; go_simp; first | exact ⟨Ext.rf _, rfl⟩ | rfl)); (go_simp; refine hK _ ?_; clear hK K)
        refine' walk_val (by rfl) ?af2 (fun K hK => ?bf2); (case af2 => (intro W hW hd; clear hd; go_simp; first | exact ⟨Ext.rf _, rfl⟩ | rfl)); (go_simp; refine hK _ ?_; clear hK K)
        refine' walk_val (by rfl) ?af3 (fun K hK => ?bf3); (case af3 => (intro W hW hd; clear hd; go_simp; first | exact ⟨Ext.rf _, rfl⟩ | rfl)); (go_simp; refine hK _ ?_; clear hK K)
        refine' walk_val (by rfl) ?af4 (fun K hK => ?bf4); (case af4 => (intro W hW hd; clear hd; go_simp; first | exact ⟨Ext.rf _, rfl⟩ | rfl)); (go_simp; refine hK _ ?_; clear hK K)
        refine' walk_val (by rfl) ?af5 (fun K hK => ?bf5); (case af5 => (intro W hW hd; clear hd; go_simp; first | exact ⟨Ext.rf _, rfl⟩ | rfl)); (go_simp; refine hK _ ?_; clear hK K)
        refine' walk_val (by rfl) ?af6 (fun K hK => ?bf6); (case af6 => (intro W hW hd; clear hd; go_simp; first | exact ⟨Ext.rf _, rfl⟩ | rfl)); (go_simp; refine hK _ ?_; clear hK K)
        refine' walk_val (by rfl) ?af7 (fun K hK => ?bf7); (case af7 => (intro W hW hd; clear hd; go_simp; first | exact ⟨Ext.rf _, rfl⟩ | rfl)); (go_simp; refine hK _ ?_; clear hK K)
        refine' walk_val (by rfl) ?af8 (fun K hK => ?bf8); (case af8 => (intro W hW hd; clear hd; go_simp; first | exact ⟨Ext.rf _, rfl⟩ | rfl)); (go_simp; refine hK _ ?_; clear hK K)
        refine' walk_val (by rfl) ?af9 (fun K hK => ?bf9); (case af9 => (intro W hW hd; clear hd; go_simp; first | exact ⟨Ext.rf _, rfl⟩ | rfl)); (go_simp; refine hK _ ?_; clear hK K)
        refine' walk_val (by rfl) ?af10 (fun K hK => ?bf10); (case af10 => (intro W hW hd; clear hd; go_simp; first | exact ⟨Ext.rf _, rfl⟩ | rfl)); (go_simp; refine hK _ ?_; clear hK K)
        refine' walk_val (by rfl) ?af11 (fun K hK => ?bf11); (case af11 => (intro W hW hd; clear hd; go_simp; first | exact ⟨Ext.rf _, rfl⟩ | rfl)); (go_simp; refine hK _ ?_; clear hK K)
        refine walk_end (fun W hW hfin => ?_)
        clear hfin
        go_wp2_with fail
        go_meet
        exact ⟨rfl, hW⟩
    | true =>
      have h3 := F3.out HNM.out
      obtain ⟨b3, hb3⟩ : ∃ b3, (cR == 3) = b3 := ⟨_, rfl⟩
      have hb4 : (cX == 3) = b3 := by rw [← h3]; exact hb3
      have hb5 : (b3 != b3) = false := by simp
      clear h3 F3 F4 HNM
      refine' wp_region_made (rels := relsOf ((.val _) :: (.val _) :: (.val _) :: (.val _) :: (.val _) :: (.val _) :: (.val _) :: (.val _) :: (.val _) :: (.val _) :: (.val _) :: (.val _) :: [])) (w := w4) 76 (by kernel_rfl) (by kernel_rfl) (by rfl) (relsOf_stable ?stt) ?wkt
      case stt => exact stable_val (stable_val (stable_val (stable_val (stable_val (stable_val (stable_val (stable_val (stable_val (stable_val (stable_val (stable_val (stable_nil))))))))))))
      case wkt =>
        refine' walk_val (by rfl) ?at0 (fun K hK => ?bt0); (case at0 => (intro W hW hd; clear hd; go_simp; first | exact ⟨Ext.rf _, rfl⟩ | rfl)); (go_simp; refine hK _ ?_; clear hK K)
        refine' walk_val (by rfl) ?at1 (fun K hK => ?bt1); (case at1 => (intro W hW hd; clear hd; go_simp; first | exact ⟨Ext.rf _, rfl⟩ | rfl)); (go_simp; refine hK _ ?_; clear hK K)
        refine' walk_val (by rfl) ?at2 (fun K hK => ?bt2); (case at2 => (intro W hW hd; clear hd; go_simp; first | exact ⟨Ext.rf _, rfl⟩ | rfl)); (go_simp; refine hK _ ?_; clear hK K)
        refine' walk_val (by rfl) ?at3 (fun K hK => ?bt3); (case at3 => (intro W hW hd; clear hd; go_simp; first | exact ⟨Ext.rf _, rfl⟩ | rfl)); (go_simp; refine hK _ ?_; clear hK K)
        refine' walk_val (by rfl) ?at4 (fun K hK => ?bt4); (case at4 => (intro W hW hd; go_simp; (clear hd; exact makes_val (hA W hW)))); (go_simp; refine hK _ ?_; clear hK K)
        refine' walk_val (by rfl) ?at5 (fun K hK => ?bt5); (case at5 => (intro W hW hd; clear hd; go_simp; first | exact ⟨Ext.rf _, rfl⟩ | rfl)); (go_simp; refine hK _ ?_; clear hK K)
        refine' walk_val (by rfl) ?at6 (fun K hK => ?bt6); (case at6 => (intro W hW hd; clear hd; go_simp; first | exact ⟨Ext.rf _, rfl⟩ | rfl)); (go_simp; refine hK _ ?_; clear hK K)
        refine' walk_val (by rfl) ?at7 (fun K hK => ?bt7); (case at7 => (intro W hW hd; clear hd; go_simp; first | exact ⟨Ext.rf _, rfl⟩ | rfl)); (go_simp; refine hK _ ?_; clear hK K)
        refine' walk_val (by rfl) ?at8 (fun K hK => ?bt8); (case at8 => (intro W hW hd; go_simp; (clear hd; exact makes_val (hX W hW)))); (go_simp; refine hK _ ?_; clear hK K)
        refine' walk_val (by rfl) ?at9 (fun K hK => ?bt9); (case at9 => (intro W hW hd; clear hd; go_simp; first | exact ⟨Ext.rf _, rfl⟩ | rfl)); (go_simp; refine hK _ ?_; clear hK K)
        refine' walk_val (by rfl) ?at10 (fun K hK => ?bt10); (case at10 => (intro W hW hd; clear hd; go_simp; first | exact ⟨Ext.rf _, rfl⟩ | rfl)); (go_simp; refine hK _ ?_; clear hK K)
        refine' walk_val (by rfl) ?at11 (fun K hK => ?bt11); (case at11 => (intro W hW hd; clear hd; go_simp; first | exact ⟨Ext.rf _, rfl⟩ | rfl)); (go_simp; refine hK _ ?_; clear hK K)
        refine walk_end (fun W hW hfin => ?_)
        clear hfin
        go_wp2_with fail
        go_meet
        exact ⟨rfl, hW⟩
  case rest =>
  obtain ⟨rfl, C5⟩ := hcut
  generalize hwc : wc = w5 at *
  clear hwc
  clear q0 q1 q2 q3 q4 q5 q6 q7 q8 q9 q10 r0 r1 r2 r3 r4 r5 r6 r7 r8 r9 r10 t0 t1 t2 t3 t4 t5 t6 t7 p0 p1 p2 p3 p4 p5 p6 p7 p8 p9 p10
  have hq0 : w5.cell? ⟨w.heap.size, 0, none⟩ = some (.bool hd) := gq0 w5 C5
  have hq1 : w5.cell? ⟨w.heap.size, 1, none⟩ = some (.string ob) := gq1 w5 C5
  have hq2 : w5.cell? ⟨w.heap.size, 2, none⟩ = some (.slice S ns sc) := gq2 w5 C5
  have hq3 : w5.cell? ⟨w.heap.size, 3, none⟩ = some (.slice A n c) := gq3 w5 C5
  have hq4 : w5.cell? ⟨w.heap.size, 4, none⟩ = some (.slice B m d) := gq4 w5 C5
  have hq5 : w5.cell? ⟨w.heap.size, 5, none⟩ = some (.bool am) := gq5 w5 C5
  have hq6 : w5.cell? ⟨w.heap.size, 6, none⟩ = some (.bool an) := gq6 w5 C5
  have hq7 : w5.cell? ⟨w.heap.size, 7, none⟩ = some (.int .i64 s) := gq7 w5 C5
  have hq8 : w5.cell? ⟨w.heap.size, 8, none⟩ = some (.int .i64 u) := gq8 w5 C5
  have hq9 : w5.cell? ⟨w.heap.size, 9, none⟩ = some (.string rt) := gq9 w5 C5
  have hq10 : w5.cell? ⟨w.heap.size, 10, none⟩ = some (.bool rw) := gq10 w5 C5
  have hr0 : w5.cell? ⟨w.heap.size + 1, 0, none⟩ = some (.string tt) := gr0 w5 C5
  have hr1 : w5.cell? ⟨w.heap.size + 1, 1, none⟩ = some (.bool tw) := gr1 w5 C5
  have hr2 : w5.cell? ⟨w.heap.size + 1, 2, none⟩ = some (.int .i64 md) := gr2 w5 C5
  have hr3 : w5.cell? ⟨w.heap.size + 1, 3, none⟩ = some (.int .i64 ln) := gr3 w5 C5
  have hr4 : w5.cell? ⟨w.heap.size + 1, 4, none⟩ = some (.int .i64 hv) := gr4 w5 C5
  have hr5 : w5.cell? ⟨w.heap.size + 1, 5, none⟩ = some (.int .i64 f1) := gr5 w5 C5
  have hr6 : w5.cell? ⟨w.heap.size + 1, 6, none⟩ = some (.int .i64 f2) := gr6 w5 C5
  have hr7 : w5.cell? ⟨w.heap.size + 1, 7, none⟩ = some (.int .i64 f3) := gr7 w5 C5
  have hr8 : w5.cell? ⟨w.heap.size + 1, 8, none⟩ = some (.slice K kn kc) := gr8 w5 C5
  have hr9 : w5.cell? ⟨w.heap.size + 1, 9, none⟩ = some (.string tn) := gr9 w5 C5
  have hr10 : w5.cell? ⟨w.heap.size + 1, 10, none⟩ = some (.bool kp) := gr10 w5 C5
  have ht0 : w5.cell? ⟨w.heap.size + 1 + 1, 0, none⟩ = some (.slice A2 n2 c2) := gt0 w5 C5
  have ht1 : w5.cell? ⟨w.heap.size + 1 + 1, 1, none⟩ = some (.slice B2 m2 d2) := gt1 w5 C5
  have ht2 : w5.cell? ⟨w.heap.size + 1 + 1, 2, none⟩ = some (.bool am2) := gt2 w5 C5
  have ht3 : w5.cell? ⟨w.heap.size + 1 + 1, 3, none⟩ = some (.bool an2) := gt3 w5 C5
  have ht4 : w5.cell? ⟨w.heap.size + 1 + 1, 4, none⟩ = some (.int .i64 s2) := gt4 w5 C5
  have ht5 : w5.cell? ⟨w.heap.size + 1 + 1, 5, none⟩ = some (.int .i64 u2) := gt5 w5 C5
  have ht6 : w5.cell? ⟨w.heap.size + 1 + 1, 6, none⟩ = some (.string rt2) := gt6 w5 C5
  have ht7 : w5.cell? ⟨w.heap.size + 1 + 1, 7, none⟩ = some (.bool rw2) := gt7 w5 C5
  have hp0 : w5.cell? ⟨bx, 0, none⟩ = some (.bool hd) := gp0 w5 C5
  have hp1 : w5.cell? ⟨bx, 1, none⟩ = some (.string ob) := gp1 w5 C5
  have hp2 : w5.cell? ⟨bx, 2, none⟩ = some (.slice S ns sc) := gp2 w5 C5
  have hp3 : w5.cell? ⟨bx, 3, none⟩ = some (.slice A n c) := gp3 w5 C5
  have hp4 : w5.cell? ⟨bx, 4, none⟩ = some (.slice B m d) := gp4 w5 C5
  have hp5 : w5.cell? ⟨bx, 5, none⟩ = some (.bool am) := gp5 w5 C5
  have hp6 : w5.cell? ⟨bx, 6, none⟩ = some (.bool an) := gp6 w5 C5
  have hp7 : w5.cell? ⟨bx, 7, none⟩ = some (.int .i64 s2) := gp7 w5 C5
  have hp8 : w5.cell? ⟨bx, 8, none⟩ = some (.int .i64 u) := gp8 w5 C5
  have hp9 : w5.cell? ⟨bx, 9, none⟩ = some (.string rt2) := gp9 w5 C5
  have hp10 : w5.cell? ⟨bx, 10, none⟩ = some (.bool rw2) := gp10 w5 C5
  replace z1 := Nat.lt_of_lt_of_le z1 C5.size
  replace z2 := Nat.lt_of_lt_of_le z2 C5.size
  replace z3 := Nat.lt_of_lt_of_le z3 C5.size
  replace z4 := Nat.lt_of_lt_of_le z4 C5.size
  clear gq0 gq1 gq2 gq3 gq4 gq5 gq6 gq7 gq8 gq9 gq10 gr0 gr1 gr2 gr3 gr4 gr5 gr6 gr7 gr8 gr9 gr10 gt0 gt1 gt2 gt3 gt4 gt5 gt6 gt7 gp0 gp1 gp2 gp3 gp4 gp5 gp6 gp7 gp8 gp9 gp10
  go_wp2_with fail
  go_region
  have e6 : Ext w5 (w5.alloc (.cells #[.bool hd, .string ob, .slice S ns sc, .slice A n c, .slice B2 m2 d2, .bool am, .bool an2, .int .i64 s2, .int .i64 u, .string rt2, .bool rw2] 29)).drew := T.below_drewN (n := 1) ((Below.refl _ _).alloc (Nat.le_refl _) _)
  have z6 : w5.heap.size < (w5.alloc (.cells #[.bool hd, .string ob, .slice S ns sc, .slice A n c, .slice B2 m2 d2, .bool am, .bool an2, .int .i64 s2, .int .i64 u, .string rt2, .bool rw2] 29)).drew.heap.size := by simp
  have o0 : (w5.alloc (.cells #[.bool hd, .string ob, .slice S ns sc, .slice A n c, .slice B2 m2 d2, .bool am, .bool an2, .int .i64 s2, .int .i64 u, .string rt2, .bool rw2] 29)).drew.cell? ⟨w5.heap.size, 0, none⟩ = some (.bool hd) := by simp
  have o1 : (w5.alloc (.cells #[.bool hd, .string ob, .slice S ns sc, .slice A n c, .slice B2 m2 d2, .bool am, .bool an2, .int .i64 s2, .int .i64 u, .string rt2, .bool rw2] 29)).drew.cell? ⟨w5.heap.size, 1, none⟩ = some (.string ob) := by simp
  have o2 : (w5.alloc (.cells #[.bool hd, .string ob, .slice S ns sc, .slice A n c, .slice B2 m2 d2, .bool am, .bool an2, .int .i64 s2, .int .i64 u, .string rt2, .bool rw2] 29)).drew.cell? ⟨w5.heap.size, 2, none⟩ = some (.slice S ns sc) := by simp
  have o3 : (w5.alloc (.cells #[.bool hd, .string ob, .slice S ns sc, .slice A n c, .slice B2 m2 d2, .bool am, .bool an2, .int .i64 s2, .int .i64 u, .string rt2, .bool rw2] 29)).drew.cell? ⟨w5.heap.size, 3, none⟩ = some (.slice A n c) := by simp
  have o4 : (w5.alloc (.cells #[.bool hd, .string ob, .slice S ns sc, .slice A n c, .slice B2 m2 d2, .bool am, .bool an2, .int .i64 s2, .int .i64 u, .string rt2, .bool rw2] 29)).drew.cell? ⟨w5.heap.size, 4, none⟩ = some (.slice B2 m2 d2) := by simp
  have o5 : (w5.alloc (.cells #[.bool hd, .string ob, .slice S ns sc, .slice A n c, .slice B2 m2 d2, .bool am, .bool an2, .int .i64 s2, .int .i64 u, .string rt2, .bool rw2] 29)).drew.cell? ⟨w5.heap.size, 5, none⟩ = some (.bool am) := by simp
  have o6 : (w5.alloc (.cells #[.bool hd, .string ob, .slice S ns sc, .slice A n c, .slice B2 m2 d2, .bool am, .bool an2, .int .i64 s2, .int .i64 u, .string rt2, .bool rw2] 29)).drew.cell? ⟨w5.heap.size, 6, none⟩ = some (.bool an2) := by simp
  have o7 : (w5.alloc (.cells #[.bool hd, .string ob, .slice S ns sc, .slice A n c, .slice B2 m2 d2, .bool am, .bool an2, .int .i64 s2, .int .i64 u, .string rt2, .bool rw2] 29)).drew.cell? ⟨w5.heap.size, 7, none⟩ = some (.int .i64 s2) := by simp
  have o8 : (w5.alloc (.cells #[.bool hd, .string ob, .slice S ns sc, .slice A n c, .slice B2 m2 d2, .bool am, .bool an2, .int .i64 s2, .int .i64 u, .string rt2, .bool rw2] 29)).drew.cell? ⟨w5.heap.size, 8, none⟩ = some (.int .i64 u) := by simp
  have o9 : (w5.alloc (.cells #[.bool hd, .string ob, .slice S ns sc, .slice A n c, .slice B2 m2 d2, .bool am, .bool an2, .int .i64 s2, .int .i64 u, .string rt2, .bool rw2] 29)).drew.cell? ⟨w5.heap.size, 9, none⟩ = some (.string rt2) := by simp
  have o10 : (w5.alloc (.cells #[.bool hd, .string ob, .slice S ns sc, .slice A n c, .slice B2 m2 d2, .bool am, .bool an2, .int .i64 s2, .int .i64 u, .string rt2, .bool rw2] 29)).drew.cell? ⟨w5.heap.size, 10, none⟩ = some (.bool rw2) := by simp
  have a0 : (w5.alloc (.cells #[.bool hd, .string ob, .slice S ns sc, .slice A n c, .slice B2 m2 d2, .bool am, .bool an2, .int .i64 s2, .int .i64 u, .string rt2, .bool rw2] 29)).drew.cell? ⟨w.heap.size, 0, none⟩ = some (.bool hd) := by rw [e6.cell (p := ⟨w.heap.size, 0, none⟩) z1]; exact hq0
  have a1 : (w5.alloc (.cells #[.bool hd, .string ob, .slice S ns sc, .slice A n c, .slice B2 m2 d2, .bool am, .bool an2, .int .i64 s2, .int .i64 u, .string rt2, .bool rw2] 29)).drew.cell? ⟨w.heap.size, 1, none⟩ = some (.string ob) := by rw [e6.cell (p := ⟨w.heap.size, 1, none⟩) z1]; exact hq1
  have a2 : (w5.alloc (.cells #[.bool hd, .string ob, .slice S ns sc, .slice A n c, .slice B2 m2 d2, .bool am, .bool an2, .int .i64 s2, .int .i64 u, .string rt2, .bool rw2] 29)).drew.cell? ⟨w.heap.size, 2, none⟩ = some (.slice S ns sc) := by rw [e6.cell (p := ⟨w.heap.size, 2, none⟩) z1]; exact hq2
  have a3 : (w5.alloc (.cells #[.bool hd, .string ob, .slice S ns sc, .slice A n c, .slice B2 m2 d2, .bool am, .bool an2, .int .i64 s2, .int .i64 u, .string rt2, .bool rw2] 29)).drew.cell? ⟨w.heap.size, 3, none⟩ = some (.slice A n c) := by rw [e6.cell (p := ⟨w.heap.size, 3, none⟩) z1]; exact hq3
  have a4 : (w5.alloc (.cells #[.bool hd, .string ob, .slice S ns sc, .slice A n c, .slice B2 m2 d2, .bool am, .bool an2, .int .i64 s2, .int .i64 u, .string rt2, .bool rw2] 29)).drew.cell? ⟨w.heap.size, 4, none⟩ = some (.slice B m d) := by rw [e6.cell (p := ⟨w.heap.size, 4, none⟩) z1]; exact hq4
  have a5 : (w5.alloc (.cells #[.bool hd, .string ob, .slice S ns sc, .slice A n c, .slice B2 m2 d2, .bool am, .bool an2, .int .i64 s2, .int .i64 u, .string rt2, .bool rw2] 29)).drew.cell? ⟨w.heap.size, 5, none⟩ = some (.bool am) := by rw [e6.cell (p := ⟨w.heap.size, 5, none⟩) z1]; exact hq5
  have a6 : (w5.alloc (.cells #[.bool hd, .string ob, .slice S ns sc, .slice A n c, .slice B2 m2 d2, .bool am, .bool an2, .int .i64 s2, .int .i64 u, .string rt2, .bool rw2] 29)).drew.cell? ⟨w.heap.size, 6, none⟩ = some (.bool an) := by rw [e6.cell (p := ⟨w.heap.size, 6, none⟩) z1]; exact hq6
  have a7 : (w5.alloc (.cells #[.bool hd, .string ob, .slice S ns sc, .slice A n c, .slice B2 m2 d2, .bool am, .bool an2, .int .i64 s2, .int .i64 u, .string rt2, .bool rw2] 29)).drew.cell? ⟨w.heap.size, 7, none⟩ = some (.int .i64 s) := by rw [e6.cell (p := ⟨w.heap.size, 7, none⟩) z1]; exact hq7
  have a8 : (w5.alloc (.cells #[.bool hd, .string ob, .slice S ns sc, .slice A n c, .slice B2 m2 d2, .bool am, .bool an2, .int .i64 s2, .int .i64 u, .string rt2, .bool rw2] 29)).drew.cell? ⟨w.heap.size, 8, none⟩ = some (.int .i64 u) := by rw [e6.cell (p := ⟨w.heap.size, 8, none⟩) z1]; exact hq8
  have a9 : (w5.alloc (.cells #[.bool hd, .string ob, .slice S ns sc, .slice A n c, .slice B2 m2 d2, .bool am, .bool an2, .int .i64 s2, .int .i64 u, .string rt2, .bool rw2] 29)).drew.cell? ⟨w.heap.size, 9, none⟩ = some (.string rt) := by rw [e6.cell (p := ⟨w.heap.size, 9, none⟩) z1]; exact hq9
  have a10 : (w5.alloc (.cells #[.bool hd, .string ob, .slice S ns sc, .slice A n c, .slice B2 m2 d2, .bool am, .bool an2, .int .i64 s2, .int .i64 u, .string rt2, .bool rw2] 29)).drew.cell? ⟨w.heap.size, 10, none⟩ = some (.bool rw) := by rw [e6.cell (p := ⟨w.heap.size, 10, none⟩) z1]; exact hq10
  have i0 : (w5.alloc (.cells #[.bool hd, .string ob, .slice S ns sc, .slice A n c, .slice B2 m2 d2, .bool am, .bool an2, .int .i64 s2, .int .i64 u, .string rt2, .bool rw2] 29)).drew.cell? ⟨w.heap.size + 1, 0, none⟩ = some (.string tt) := by rw [e6.cell (p := ⟨w.heap.size + 1, 0, none⟩) z2]; exact hr0
  have i1 : (w5.alloc (.cells #[.bool hd, .string ob, .slice S ns sc, .slice A n c, .slice B2 m2 d2, .bool am, .bool an2, .int .i64 s2, .int .i64 u, .string rt2, .bool rw2] 29)).drew.cell? ⟨w.heap.size + 1, 1, none⟩ = some (.bool tw) := by rw [e6.cell (p := ⟨w.heap.size + 1, 1, none⟩) z2]; exact hr1
  have i2 : (w5.alloc (.cells #[.bool hd, .string ob, .slice S ns sc, .slice A n c, .slice B2 m2 d2, .bool am, .bool an2, .int .i64 s2, .int .i64 u, .string rt2, .bool rw2] 29)).drew.cell? ⟨w.heap.size + 1, 2, none⟩ = some (.int .i64 md) := by rw [e6.cell (p := ⟨w.heap.size + 1, 2, none⟩) z2]; exact hr2
  have i3 : (w5.alloc (.cells #[.bool hd, .string ob, .slice S ns sc, .slice A n c, .slice B2 m2 d2, .bool am, .bool an2, .int .i64 s2, .int .i64 u, .string rt2, .bool rw2] 29)).drew.cell? ⟨w.heap.size + 1, 3, none⟩ = some (.int .i64 ln) := by rw [e6.cell (p := ⟨w.heap.size + 1, 3, none⟩) z2]; exact hr3
  have i4 : (w5.alloc (.cells #[.bool hd, .string ob, .slice S ns sc, .slice A n c, .slice B2 m2 d2, .bool am, .bool an2, .int .i64 s2, .int .i64 u, .string rt2, .bool rw2] 29)).drew.cell? ⟨w.heap.size + 1, 4, none⟩ = some (.int .i64 hv) := by rw [e6.cell (p := ⟨w.heap.size + 1, 4, none⟩) z2]; exact hr4
  have i5 : (w5.alloc (.cells #[.bool hd, .string ob, .slice S ns sc, .slice A n c, .slice B2 m2 d2, .bool am, .bool an2, .int .i64 s2, .int .i64 u, .string rt2, .bool rw2] 29)).drew.cell? ⟨w.heap.size + 1, 5, none⟩ = some (.int .i64 f1) := by rw [e6.cell (p := ⟨w.heap.size + 1, 5, none⟩) z2]; exact hr5
  have i6 : (w5.alloc (.cells #[.bool hd, .string ob, .slice S ns sc, .slice A n c, .slice B2 m2 d2, .bool am, .bool an2, .int .i64 s2, .int .i64 u, .string rt2, .bool rw2] 29)).drew.cell? ⟨w.heap.size + 1, 6, none⟩ = some (.int .i64 f2) := by rw [e6.cell (p := ⟨w.heap.size + 1, 6, none⟩) z2]; exact hr6
  have i7 : (w5.alloc (.cells #[.bool hd, .string ob, .slice S ns sc, .slice A n c, .slice B2 m2 d2, .bool am, .bool an2, .int .i64 s2, .int .i64 u, .string rt2, .bool rw2] 29)).drew.cell? ⟨w.heap.size + 1, 7, none⟩ = some (.int .i64 f3) := by rw [e6.cell (p := ⟨w.heap.size + 1, 7, none⟩) z2]; exact hr7
  have i8 : (w5.alloc (.cells #[.bool hd, .string ob, .slice S ns sc, .slice A n c, .slice B2 m2 d2, .bool am, .bool an2, .int .i64 s2, .int .i64 u, .string rt2, .bool rw2] 29)).drew.cell? ⟨w.heap.size + 1, 8, none⟩ = some (.slice K kn kc) := by rw [e6.cell (p := ⟨w.heap.size + 1, 8, none⟩) z2]; exact hr8
  have i9 : (w5.alloc (.cells #[.bool hd, .string ob, .slice S ns sc, .slice A n c, .slice B2 m2 d2, .bool am, .bool an2, .int .i64 s2, .int .i64 u, .string rt2, .bool rw2] 29)).drew.cell? ⟨w.heap.size + 1, 9, none⟩ = some (.string tn) := by rw [e6.cell (p := ⟨w.heap.size + 1, 9, none⟩) z2]; exact hr9
  have i10 : (w5.alloc (.cells #[.bool hd, .string ob, .slice S ns sc, .slice A n c, .slice B2 m2 d2, .bool am, .bool an2, .int .i64 s2, .int .i64 u, .string rt2, .bool rw2] 29)).drew.cell? ⟨w.heap.size + 1, 10, none⟩ = some (.bool kp) := by rw [e6.cell (p := ⟨w.heap.size + 1, 10, none⟩) z2]; exact hr10
  replace z1 := Nat.lt_of_lt_of_le z1 e6.size
  replace z2 := Nat.lt_of_lt_of_le z2 e6.size
  have C6 : Ext w4 (w5.alloc (.cells #[.bool hd, .string ob, .slice S ns sc, .slice A n c, .slice B2 m2 d2, .bool am, .bool an2, .int .i64 s2, .int .i64 u, .string rt2, .bool rw2] 29)).drew := Ext.tr C5 e6
  clear hq0 hq1 hq2 hq3 hq4 hq5 hq6 hq7 hq8 hq9 hq10 hr0 hr1 hr2 hr3 hr4 hr5 hr6 hr7 hr8 hr9 hr10 ht0 ht1 ht2 ht3 ht4 ht5 ht6 ht7 hp0 hp1 hp2 hp3 hp4 hp5 hp6 hp7 hp8 hp9 hp10 e6
  generalize (w5.alloc (.cells #[.bool hd, .string ob, .slice S ns sc, .slice A n c, .slice B2 m2 d2, .bool am, .bool an2, .int .i64 s2, .int .i64 u, .string rt2, .bool rw2] 29)).drew = w6 at *
  generalize w5.heap.size = by5 at *
  have ga0 : ∀ W, Ext w6 W → W.cell? ⟨w.heap.size, 0, none⟩ = some (.bool hd) := fun W h => by rw [h.cell (p := ⟨w.heap.size, 0, none⟩) z1]; exact a0
  have ga1 : ∀ W, Ext w6 W → W.cell? ⟨w.heap.size, 1, none⟩ = some (.string ob) := fun W h => by rw [h.cell (p := ⟨w.heap.size, 1, none⟩) z1]; exact a1
  have ga2 : ∀ W, Ext w6 W → W.cell? ⟨w.heap.size, 2, none⟩ = some (.slice S ns sc) := fun W h => by rw [h.cell (p := ⟨w.heap.size, 2, none⟩) z1]; exact a2
  have ga3 : ∀ W, Ext w6 W → W.cell? ⟨w.heap.size, 3, none⟩ = some (.slice A n c) := fun W h => by rw [h.cell (p := ⟨w.heap.size, 3, none⟩) z1]; exact a3
  have ga4 : ∀ W, Ext w6 W → W.cell? ⟨w.heap.size, 4, none⟩ = some (.slice B m d) := fun W h => by rw [h.cell (p := ⟨w.heap.size, 4, none⟩) z1]; exact a4
  have ga5 : ∀ W, Ext w6 W → W.cell? ⟨w.heap.size, 5, none⟩ = some (.bool am) := fun W h => by rw [h.cell (p := ⟨w.heap.size, 5, none⟩) z1]; exact a5
  have ga6 : ∀ W, Ext w6 W → W.cell? ⟨w.heap.size, 6, none⟩ = some (.bool an) := fun W h => by rw [h.cell (p := ⟨w.heap.size, 6, none⟩) z1]; exact a6
  have ga7 : ∀ W, Ext w6 W → W.cell? ⟨w.heap.size, 7, none⟩ = some (.int .i64 s) := fun W h => by rw [h.cell (p := ⟨w.heap.size, 7, none⟩) z1]; exact a7
  have ga8 : ∀ W, Ext w6 W → W.cell? ⟨w.heap.size, 8, none⟩ = some (.int .i64 u) := fun W h => by rw [h.cell (p := ⟨w.heap.size, 8, none⟩) z1]; exact a8
  have ga9 : ∀ W, Ext w6 W → W.cell? ⟨w.heap.size, 9, none⟩ = some (.string rt) := fun W h => by rw [h.cell (p := ⟨w.heap.size, 9, none⟩) z1]; exact a9
  have ga10 : ∀ W, Ext w6 W → W.cell? ⟨w.heap.size, 10, none⟩ = some (.bool rw) := fun W h => by rw [h.cell (p := ⟨w.heap.size, 10, none⟩) z1]; exact a10
  have gi0 : ∀ W, Ext w6 W → W.cell? ⟨w.heap.size + 1, 0, none⟩ = some (.string tt) := fun W h => by rw [h.cell (p := ⟨w.heap.size + 1, 0, none⟩) z2]; exact i0
  have gi1 : ∀ W, Ext w6 W → W.cell? ⟨w.heap.size + 1, 1, none⟩ = some (.bool tw) := fun W h => by rw [h.cell (p := ⟨w.heap.size + 1, 1, none⟩) z2]; exact i1
  have gi2 : ∀ W, Ext w6 W → W.cell? ⟨w.heap.size + 1, 2, none⟩ = some (.int .i64 md) := fun W h => by rw [h.cell (p := ⟨w.heap.size + 1, 2, none⟩) z2]; exact i2
  have gi3 : ∀ W, Ext w6 W → W.cell? ⟨w.heap.size + 1, 3, none⟩ = some (.int .i64 ln) := fun W h => by rw [h.cell (p := ⟨w.heap.size + 1, 3, none⟩) z2]; exact i3
  have gi4 : ∀ W, Ext w6 W → W.cell? ⟨w.heap.size + 1, 4, none⟩ = some (.int .i64 hv) := fun W h => by rw [h.cell (p := ⟨w.heap.size + 1, 4, none⟩) z2]; exact i4
  have gi5 : ∀ W, Ext w6 W → W.cell? ⟨w.heap.size + 1, 5, none⟩ = some (.int .i64 f1) := fun W h => by rw [h.cell (p := ⟨w.heap.size + 1, 5, none⟩) z2]; exact i5
  have gi6 : ∀ W, Ext w6 W → W.cell? ⟨w.heap.size + 1, 6, none⟩ = some (.int .i64 f2) := fun W h => by rw [h.cell (p := ⟨w.heap.size + 1, 6, none⟩) z2]; exact i6
  have gi7 : ∀ W, Ext w6 W → W.cell? ⟨w.heap.size + 1, 7, none⟩ = some (.int .i64 f3) := fun W h => by rw [h.cell (p := ⟨w.heap.size + 1, 7, none⟩) z2]; exact i7
  have gi8 : ∀ W, Ext w6 W → W.cell? ⟨w.heap.size + 1, 8, none⟩ = some (.slice K kn kc) := fun W h => by rw [h.cell (p := ⟨w.heap.size + 1, 8, none⟩) z2]; exact i8
  have gi9 : ∀ W, Ext w6 W → W.cell? ⟨w.heap.size + 1, 9, none⟩ = some (.string tn) := fun W h => by rw [h.cell (p := ⟨w.heap.size + 1, 9, none⟩) z2]; exact i9
  have gi10 : ∀ W, Ext w6 W → W.cell? ⟨w.heap.size + 1, 10, none⟩ = some (.bool kp) := fun W h => by rw [h.cell (p := ⟨w.heap.size + 1, 10, none⟩) z2]; exact i10
  have go0 : ∀ W, Ext w6 W → W.cell? ⟨by5, 0, none⟩ = some (.bool hd) := fun W h => by rw [h.cell (p := ⟨by5, 0, none⟩) z6]; exact o0
  have go1 : ∀ W, Ext w6 W → W.cell? ⟨by5, 1, none⟩ = some (.string ob) := fun W h => by rw [h.cell (p := ⟨by5, 1, none⟩) z6]; exact o1
  have go2 : ∀ W, Ext w6 W → W.cell? ⟨by5, 2, none⟩ = some (.slice S ns sc) := fun W h => by rw [h.cell (p := ⟨by5, 2, none⟩) z6]; exact o2
  have go3 : ∀ W, Ext w6 W → W.cell? ⟨by5, 3, none⟩ = some (.slice A n c) := fun W h => by rw [h.cell (p := ⟨by5, 3, none⟩) z6]; exact o3
  have go4 : ∀ W, Ext w6 W → W.cell? ⟨by5, 4, none⟩ = some (.slice B2 m2 d2) := fun W h => by rw [h.cell (p := ⟨by5, 4, none⟩) z6]; exact o4
  have go5 : ∀ W, Ext w6 W → W.cell? ⟨by5, 5, none⟩ = some (.bool am) := fun W h => by rw [h.cell (p := ⟨by5, 5, none⟩) z6]; exact o5
  have go6 : ∀ W, Ext w6 W → W.cell? ⟨by5, 6, none⟩ = some (.bool an2) := fun W h => by rw [h.cell (p := ⟨by5, 6, none⟩) z6]; exact o6
  have go7 : ∀ W, Ext w6 W → W.cell? ⟨by5, 7, none⟩ = some (.int .i64 s2) := fun W h => by rw [h.cell (p := ⟨by5, 7, none⟩) z6]; exact o7
  have go8 : ∀ W, Ext w6 W → W.cell? ⟨by5, 8, none⟩ = some (.int .i64 u) := fun W h => by rw [h.cell (p := ⟨by5, 8, none⟩) z6]; exact o8
  have go9 : ∀ W, Ext w6 W → W.cell? ⟨by5, 9, none⟩ = some (.string rt2) := fun W h => by rw [h.cell (p := ⟨by5, 9, none⟩) z6]; exact o9
  have go10 : ∀ W, Ext w6 W → W.cell? ⟨by5, 10, none⟩ = some (.bool rw2) := fun W h => by rw [h.cell (p := ⟨by5, 10, none⟩) z6]; exact o10
  obtain ⟨b4, hb4⟩ : ∃ b4, (cR == 4) = b4 := ⟨_, rfl⟩
  have hb5 : (cY == 4) = b4 := by rw [← F4.out]; exact hb4
  have hb6 : (b4 != b4) = false := by simp
  clear F3 F4 HNM
  go_wp2_with fail
  refine' wp_region_made (rels := relsOf ((.val _) :: (.val _) :: (.val _) :: (.val _) :: (.val _) :: (.val _) :: (.val _) :: (.val _) :: (.val _) :: [])) (w := w6) 76 (by kernel_rfl) (by kernel_rfl) (by rfl) (relsOf_stable ?stz) ?wkz
  case stz => exact stable_val (stable_val (stable_val (stable_val (stable_val (stable_val (stable_val (stable_val (stable_val (stable_nil)))))))))
  case wkz =>
    refine' walk_val (by rfl) ?az0 (fun K hK => ?bz0); (case az0 => (intro W hW hd; clear hd; go_simp; first | exact ⟨Ext.rf _, rfl⟩ | rfl)); (go_simp; refine hK _ ?_; clear hK K)
    refine' walk_val (by rfl) ?az1 (fun K hK => ?bz1); (case az1 => (intro W hW hd; clear hd; go_simp; first | exact ⟨Ext.rf _, rfl⟩ | rfl)); (go_simp; refine hK _ ?_; clear hK K)
    refine' walk_val (by rfl) ?az2 (fun K hK => ?bz2); (case az2 => (intro W hW hd; go_simp; (clear hd; exact makes_val (hA W (Ext.tr C6 hW))))); (go_simp; refine hK _ ?_; clear hK K)
    refine' walk_val (by rfl) ?az3 (fun K hK => ?bz3); (case az3 => (intro W hW hd; clear hd; go_simp; first | exact ⟨Ext.rf _, rfl⟩ | rfl)); (go_simp; refine hK _ ?_; clear hK K)
    refine' walk_val (by rfl) ?az4 (fun K hK => ?bz4); (case az4 => (intro W hW hd; clear hd; go_simp; first | exact ⟨Ext.rf _, rfl⟩ | rfl)); (go_simp; refine hK _ ?_; clear hK K)
    refine' walk_val (by rfl) ?az5 (fun K hK => ?bz5); (case az5 => (intro W hW hd; clear hd; go_simp; first | exact ⟨Ext.rf _, rfl⟩ | rfl)); (go_simp; refine hK _ ?_; clear hK K)
    refine' walk_val (by rfl) ?az6 (fun K hK => ?bz6); (case az6 => (intro W hW hd; go_simp; (clear hd; exact makes_val (hY W (Ext.tr C6 hW))))); (go_simp; refine hK _ ?_; clear hK K)
    refine' walk_val (by rfl) ?az7 (fun K hK => ?bz7); (case az7 => (intro W hW hd; clear hd; go_simp; first | exact ⟨Ext.rf _, rfl⟩ | rfl)); (go_simp; refine hK _ ?_; clear hK K)
    refine' walk_val (by rfl) ?az8 (fun K hK => ?bz8); (case az8 => (intro W hW hd; clear hd; go_simp; first | exact ⟨Ext.rf _, rfl⟩ | rfl)); (go_simp; refine hK _ ?_; clear hK K)
    refine walk_end (fun W hW hfin => ?_)
    have B8 : Ext w W := Ext.tr E4 (Ext.tr C6 hW)
    clear hfin
    go_wp2_with (go_at_call 7; with_reducible refine (awake_any _).mono ?_; rintro e w9 ⟨rfl, hb9⟩)
    go_ret
    exact ⟨rfl, Ext.tr B8 hb9⟩
end Go.Proofs.Ytomcoacndppkcaa
