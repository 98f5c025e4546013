/-
  What conditions come to: Check of the program and of the reference.
-/
import Derived.Test.YtomcoacndppkcaaUA
import Derived.Deep.Cut
import Derived.Deep.CutRange
import Derived.Deep.DeepCutAuto
namespace Go.Proofs.Ytomcoacndppkcaa
open Go Go.RowKit
open T (Tg TgAt inD stD oneD wkD)

/-- two lists of tags, as they are read -/
structure TwoAt (w : World) (A B : Option Addr) (n m : Nat) (l1 l2 : List Tg) : Prop where
  n1 : l1.length = n
  m1 : n ≤ 1000000
  M1 : T.Mx l1
  s1 : TgAt w w.heap.size A l1
  n2 : l2.length = m
  m2 : m ≤ 1000000
  M2 : T.Mx l2
  s2 : TgAt w w.heap.size B l2
theorem TwoAt.below {w W : World} {A B : Option Addr} {n m : Nat} {l1 l2 : List Tg} (h : TwoAt w A B n m l1 l2) (e : Below w.heap.size w W) : TwoAt W A B n m l1 l2 :=
  ⟨h.n1, h.m1, h.M1, h.s1.below e e.size, h.n2, h.m2, h.M2, h.s2.below e e.size⟩

def checkD (fl sm : Bool) (ns : Nat) (sr st there : Bool) : Int := if fl then 4 else if there && sm then 3 else if there && decide (0 < ns) && sr && !st then 2 else 1
/-- what a request's conditions come to -/
def cmD (n m : Nat) (l1 l2 : List Tg) (am an : Bool) (s u : Int) (r : Tg) (t : Tg) (md ln : Int) (ns : Nat) (there : Bool) : Int :=
  checkD (failD (am || decide (0 < n)) am (inD l1 t true) u md there) (sameD (an || decide (0 < m)) an (inD l2 t false) s md ln) ns (someR r.1 r.2) (stD t r) there

set_option maxHeartbeats 8000000 in
theorem check_any (hd : Bool) (ob : ByteArray) (S : Option Addr) (ns sc : Nat) (A B : Option Addr) (n c m d : Nat) (am an : Bool) (s u : Int) (rt : ByteArray) (rw : Bool) (tt : ByteArray) (tw : Bool) (md ln hv f1 f2 f3 : Int) (K : Option Addr) (kn kc : Nat) (tn : ByteArray) (kp : Bool) (there : Bool) (l1 l2 : List Tg) (w : World) (h : TwoAt w A B n m l1 l2) (ht : tt.size ≤ maxLen) (hr : rt.size ≤ maxLen) :
    Calls Try.prog 8 #[rqV hd ob S ns sc A B n c m d am an s u rt rw, mdV tt tw md ln hv f1 f2 f3 K kn kc tn kp, .bool there] w fun e w' => e = .returned (.int .i64 (cmD n m l1 l2 am an s u (rt, rw) (tt, tw) md ln ns there)) ∧ Below w.heap.size w w' := by
  have FB0 : Below w.heap.size w ((w.alloc (.cells #[.bool hd, .string ob, .slice S ns sc, .slice A n c, .slice B m d, .bool am, .bool an, .int .i64 s, .int .i64 u, .string rt, .bool rw] 29)).alloc (.cells #[.string tt, .bool tw, .int .i64 md, .int .i64 ln, .int .i64 hv, .int .i64 f1, .int .i64 f2, .int .i64 f3, .slice K kn kc, .string tn, .bool kp] 32)) := by go_grown
  have HH := Lib.hid h
  clear h
  have hF : ∀ W, Below w.heap.size w W → Calls Try.prog 12 #[cdV A B n c m d am an s u rt rw, mdV tt tw md ln hv f1 f2 f3 K kn kc tn kp, .bool there] W fun e w' => e = .returned (.bool (failD (am || decide (0 < n)) am (inD l1 (tt, tw) true) u md there)) ∧ Below W.heap.size W w' :=
    fun W e => failed_any A B n c m d am an s u rt rw tt tw md ln hv f1 f2 f3 K kn kc tn kp there l1 W HH.out.n1 HH.out.m1 HH.out.M1 ht (HH.out.below e).s1
  have hS : ∀ W, Below w.heap.size w W → Calls Try.prog 13 #[cdV A B n c m d am an s u rt rw, mdV tt tw md ln hv f1 f2 f3 K kn kc tn kp] W fun e w' => e = .returned (.bool (sameD (an || decide (0 < m)) an (inD l2 (tt, tw) false) s md ln)) ∧ Below W.heap.size W w' :=
    fun W e => same_any A B n c m d am an s u rt rw tt tw md ln hv f1 f2 f3 K kn kc tn kp l2 W HH.out.n2 HH.out.m2 HH.out.M2 ht (HH.out.below e).s2
  have hR := fun W => hasRange_any A B n c m d am an s u rt rw W
  have hT := fun W => T.strong_any tt rt tw rw W ht hr
  clear HH
  unfold cmD
  generalize failD (am || decide (0 < n)) am (inD l1 (tt, tw) true) u md there = fl at *
  generalize sameD (an || decide (0 < m)) an (inD l2 (tt, tw) false) s md ln = sm at *
  simp only
  generalize someR rt rw = sr at *
  generalize stD (tt, tw) (rt, rw) = st at *
  cases fl with
  | true =>
    rw [show checkD true sm ns sr st there = 4 from rfl]
    go_enter Try.func8, Try.ntmps8
    go_wp2_with (first
        | (go_at_call 12; with_reducible refine (hF _ FB0).mono ?_; rintro e w1 ⟨rfl, hb1⟩; have C1 := hb1; obtain ⟨x0, x1, x2, x3, x4, x5, x6, x7, x8, x9, x10, y0, y1, y2, y3, y4, y5, y6, y7, y8, y9, y10, z1, z2, B1⟩ := rq_md hb1)
        | (go_at_call 13; with_reducible refine (hS _ B1).mono ?_; rintro e w2 ⟨rfl, hb2⟩; have C2 := C1.trans (hb2.mono C1.size); obtain ⟨x0, x1, x2, x3, x4, x5, x6, x7, x8, x9, x10, y0, y1, y2, y3, y4, y5, y6, y7, y8, y9, y10, z1, z2, B2⟩ := rq_md C2)
        | (go_at_call 14; with_reducible refine (hR _).mono ?_; rintro e w3 ⟨rfl, hb3⟩; have C3 := C2.trans (hb3.mono C2.size); obtain ⟨x0, x1, x2, x3, x4, x5, x6, x7, x8, x9, x10, y0, y1, y2, y3, y4, y5, y6, y7, y8, y9, y10, z1, z2, B3⟩ := rq_md C3)
        | (go_at_call 15; with_reducible refine (hT _).mono ?_; rintro e w4 ⟨rfl, hb4⟩; have C4 := C3.trans (hb4.mono C3.size); obtain ⟨x0, x1, x2, x3, x4, x5, x6, x7, x8, x9, x10, y0, y1, y2, y3, y4, y5, y6, y7, y8, y9, y10, z1, z2, B4⟩ := rq_md C4))
    go_ret
    exact ⟨rfl, B1⟩
  | false =>
    cases there with
    | false =>
      rw [show checkD false sm ns sr st false = 1 from rfl]
      go_enter Try.func8, Try.ntmps8
      go_wp2_with (first
          | (go_at_call 12; with_reducible refine (hF _ FB0).mono ?_; rintro e w1 ⟨rfl, hb1⟩; have C1 := hb1; obtain ⟨x0, x1, x2, x3, x4, x5, x6, x7, x8, x9, x10, y0, y1, y2, y3, y4, y5, y6, y7, y8, y9, y10, z1, z2, B1⟩ := rq_md hb1)
          | (go_at_call 13; with_reducible refine (hS _ B1).mono ?_; rintro e w2 ⟨rfl, hb2⟩; have C2 := C1.trans (hb2.mono C1.size); obtain ⟨x0, x1, x2, x3, x4, x5, x6, x7, x8, x9, x10, y0, y1, y2, y3, y4, y5, y6, y7, y8, y9, y10, z1, z2, B2⟩ := rq_md C2)
          | (go_at_call 14; with_reducible refine (hR _).mono ?_; rintro e w3 ⟨rfl, hb3⟩; have C3 := C2.trans (hb3.mono C2.size); obtain ⟨x0, x1, x2, x3, x4, x5, x6, x7, x8, x9, x10, y0, y1, y2, y3, y4, y5, y6, y7, y8, y9, y10, z1, z2, B3⟩ := rq_md C3)
          | (go_at_call 15; with_reducible refine (hT _).mono ?_; rintro e w4 ⟨rfl, hb4⟩; have C4 := C3.trans (hb4.mono C3.size); obtain ⟨x0, x1, x2, x3, x4, x5, x6, x7, x8, x9, x10, y0, y1, y2, y3, y4, y5, y6, y7, y8, y9, y10, z1, z2, B4⟩ := rq_md C4))
      go_ret
      exact ⟨rfl, B1⟩
    | true =>
      cases sm with
      | true =>
        rw [show checkD false true ns sr st true = 3 from rfl]
        go_enter Try.func8, Try.ntmps8
        go_wp2_with (first
            | (go_at_call 12; with_reducible refine (hF _ FB0).mono ?_; rintro e w1 ⟨rfl, hb1⟩; have C1 := hb1; obtain ⟨x0, x1, x2, x3, x4, x5, x6, x7, x8, x9, x10, y0, y1, y2, y3, y4, y5, y6, y7, y8, y9, y10, z1, z2, B1⟩ := rq_md hb1)
            | (go_at_call 13; with_reducible refine (hS _ B1).mono ?_; rintro e w2 ⟨rfl, hb2⟩; have C2 := C1.trans (hb2.mono C1.size); obtain ⟨x0, x1, x2, x3, x4, x5, x6, x7, x8, x9, x10, y0, y1, y2, y3, y4, y5, y6, y7, y8, y9, y10, z1, z2, B2⟩ := rq_md C2)
            | (go_at_call 14; with_reducible refine (hR _).mono ?_; rintro e w3 ⟨rfl, hb3⟩; have C3 := C2.trans (hb3.mono C2.size); obtain ⟨x0, x1, x2, x3, x4, x5, x6, x7, x8, x9, x10, y0, y1, y2, y3, y4, y5, y6, y7, y8, y9, y10, z1, z2, B3⟩ := rq_md C3)
            | (go_at_call 15; with_reducible refine (hT _).mono ?_; rintro e w4 ⟨rfl, hb4⟩; have C4 := C3.trans (hb4.mono C3.size); obtain ⟨x0, x1, x2, x3, x4, x5, x6, x7, x8, x9, x10, y0, y1, y2, y3, y4, y5, y6, y7, y8, y9, y10, z1, z2, B4⟩ := rq_md C4))
        go_ret
        exact ⟨rfl, B2⟩
      | false =>
        by_cases hn : 0 < ns
        · cases sr with
          | false =>
            rw [show checkD false false ns false st true = 1 by simp [checkD]]
            go_enter Try.func8, Try.ntmps8
            go_wp2_with (first
                | (go_at_call 12; with_reducible refine (hF _ FB0).mono ?_; rintro e w1 ⟨rfl, hb1⟩; have C1 := hb1; obtain ⟨x0, x1, x2, x3, x4, x5, x6, x7, x8, x9, x10, y0, y1, y2, y3, y4, y5, y6, y7, y8, y9, y10, z1, z2, B1⟩ := rq_md hb1)
                | (go_at_call 13; with_reducible refine (hS _ B1).mono ?_; rintro e w2 ⟨rfl, hb2⟩; have C2 := C1.trans (hb2.mono C1.size); obtain ⟨x0, x1, x2, x3, x4, x5, x6, x7, x8, x9, x10, y0, y1, y2, y3, y4, y5, y6, y7, y8, y9, y10, z1, z2, B2⟩ := rq_md C2)
                | (go_at_call 14; with_reducible refine (hR _).mono ?_; rintro e w3 ⟨rfl, hb3⟩; have C3 := C2.trans (hb3.mono C2.size); obtain ⟨x0, x1, x2, x3, x4, x5, x6, x7, x8, x9, x10, y0, y1, y2, y3, y4, y5, y6, y7, y8, y9, y10, z1, z2, B3⟩ := rq_md C3)
                | (go_at_call 15; with_reducible refine (hT _).mono ?_; rintro e w4 ⟨rfl, hb4⟩; have C4 := C3.trans (hb4.mono C3.size); obtain ⟨x0, x1, x2, x3, x4, x5, x6, x7, x8, x9, x10, y0, y1, y2, y3, y4, y5, y6, y7, y8, y9, y10, z1, z2, B4⟩ := rq_md C4))
            go_ret
            exact ⟨rfl, B3⟩
          | true =>
            cases st with
            | true =>
              rw [show checkD false false ns true true true = 1 by simp [checkD]]
              go_enter Try.func8, Try.ntmps8
              go_wp2_with (first
                  | (go_at_call 12; with_reducible refine (hF _ FB0).mono ?_; rintro e w1 ⟨rfl, hb1⟩; have C1 := hb1; obtain ⟨x0, x1, x2, x3, x4, x5, x6, x7, x8, x9, x10, y0, y1, y2, y3, y4, y5, y6, y7, y8, y9, y10, z1, z2, B1⟩ := rq_md hb1)
                  | (go_at_call 13; with_reducible refine (hS _ B1).mono ?_; rintro e w2 ⟨rfl, hb2⟩; have C2 := C1.trans (hb2.mono C1.size); obtain ⟨x0, x1, x2, x3, x4, x5, x6, x7, x8, x9, x10, y0, y1, y2, y3, y4, y5, y6, y7, y8, y9, y10, z1, z2, B2⟩ := rq_md C2)
                  | (go_at_call 14; with_reducible refine (hR _).mono ?_; rintro e w3 ⟨rfl, hb3⟩; have C3 := C2.trans (hb3.mono C2.size); obtain ⟨x0, x1, x2, x3, x4, x5, x6, x7, x8, x9, x10, y0, y1, y2, y3, y4, y5, y6, y7, y8, y9, y10, z1, z2, B3⟩ := rq_md C3)
                  | (go_at_call 15; with_reducible refine (hT _).mono ?_; rintro e w4 ⟨rfl, hb4⟩; have C4 := C3.trans (hb4.mono C3.size); obtain ⟨x0, x1, x2, x3, x4, x5, x6, x7, x8, x9, x10, y0, y1, y2, y3, y4, y5, y6, y7, y8, y9, y10, z1, z2, B4⟩ := rq_md C4))
              go_ret
              exact ⟨rfl, B4⟩
            | false =>
              rw [show checkD false false ns true false true = 2 by simp [checkD, hn]]
              go_enter Try.func8, Try.ntmps8
              go_wp2_with (first
                  | (go_at_call 12; with_reducible refine (hF _ FB0).mono ?_; rintro e w1 ⟨rfl, hb1⟩; have C1 := hb1; obtain ⟨x0, x1, x2, x3, x4, x5, x6, x7, x8, x9, x10, y0, y1, y2, y3, y4, y5, y6, y7, y8, y9, y10, z1, z2, B1⟩ := rq_md hb1)
                  | (go_at_call 13; with_reducible refine (hS _ B1).mono ?_; rintro e w2 ⟨rfl, hb2⟩; have C2 := C1.trans (hb2.mono C1.size); obtain ⟨x0, x1, x2, x3, x4, x5, x6, x7, x8, x9, x10, y0, y1, y2, y3, y4, y5, y6, y7, y8, y9, y10, z1, z2, B2⟩ := rq_md C2)
                  | (go_at_call 14; with_reducible refine (hR _).mono ?_; rintro e w3 ⟨rfl, hb3⟩; have C3 := C2.trans (hb3.mono C2.size); obtain ⟨x0, x1, x2, x3, x4, x5, x6, x7, x8, x9, x10, y0, y1, y2, y3, y4, y5, y6, y7, y8, y9, y10, z1, z2, B3⟩ := rq_md C3)
                  | (go_at_call 15; with_reducible refine (hT _).mono ?_; rintro e w4 ⟨rfl, hb4⟩; have C4 := C3.trans (hb4.mono C3.size); obtain ⟨x0, x1, x2, x3, x4, x5, x6, x7, x8, x9, x10, y0, y1, y2, y3, y4, y5, y6, y7, y8, y9, y10, z1, z2, B4⟩ := rq_md C4))
              go_ret
              exact ⟨rfl, B4⟩
        · rw [show checkD false false ns sr st true = 1 by simp [checkD, hn]]
          go_enter Try.func8, Try.ntmps8
          go_wp2_with (first
              | (go_at_call 12; with_reducible refine (hF _ FB0).mono ?_; rintro e w1 ⟨rfl, hb1⟩; have C1 := hb1; obtain ⟨x0, x1, x2, x3, x4, x5, x6, x7, x8, x9, x10, y0, y1, y2, y3, y4, y5, y6, y7, y8, y9, y10, z1, z2, B1⟩ := rq_md hb1)
              | (go_at_call 13; with_reducible refine (hS _ B1).mono ?_; rintro e w2 ⟨rfl, hb2⟩; have C2 := C1.trans (hb2.mono C1.size); obtain ⟨x0, x1, x2, x3, x4, x5, x6, x7, x8, x9, x10, y0, y1, y2, y3, y4, y5, y6, y7, y8, y9, y10, z1, z2, B2⟩ := rq_md C2)
              | (go_at_call 14; with_reducible refine (hR _).mono ?_; rintro e w3 ⟨rfl, hb3⟩; have C3 := C2.trans (hb3.mono C2.size); obtain ⟨x0, x1, x2, x3, x4, x5, x6, x7, x8, x9, x10, y0, y1, y2, y3, y4, y5, y6, y7, y8, y9, y10, z1, z2, B3⟩ := rq_md C3)
              | (go_at_call 15; with_reducible refine (hT _).mono ?_; rintro e w4 ⟨rfl, hb4⟩; have C4 := C3.trans (hb4.mono C3.size); obtain ⟨x0, x1, x2, x3, x4, x5, x6, x7, x8, x9, x10, y0, y1, y2, y3, y4, y5, y6, y7, y8, y9, y10, z1, z2, B4⟩ := rq_md C4))
          go_ret
          exact ⟨rfl, B2⟩

set_option maxHeartbeats 4000000 in
theorem rone_any (A : Option Addr) (n c : Nat) (l : List Tg) (t : ByteArray) (q st : Bool) (w : World) (hn : l.length = n) (hm : n ≤ 1000000) (hM : T.Mx l) (ht : t.size ≤ maxLen) (hs : TgAt w w.heap.size A l) :
    Calls Try.prog 16 #[.slice A n c, .agg #[.string t, .bool q], .bool st] w fun e w' => e = .returned (.bool (inD l (t, q) st)) ∧ Below w.heap.size w w' := by
  have HS := Lib.hid hs
  have HL := Lib.hid hn
  have HM := Lib.hid hM
  clear hs hn hM
  have hb0 : Below w.heap.size w (w.alloc (.cells #[.string t, .bool q] 25)) := by go_grown
  cases st with
  | true =>
    go_enter Try.func16, Try.ntmps16
    go_wp2
    go_loopw [11] (fun i wr => ∃ k : Nat, k ≤ n ∧ i = .int .i64 k ∧ Hid (inD (l.take k) (t, q) true = false) ∧ Below (w.heap.size + 1) (w.alloc (.cells #[.string t, .bool q] 25)) wr) (fun i _ => n - (intOf i).toNat)
    case atStart => exact ⟨0, Nat.zero_le _, rfl, rfl, Below.refl _ _⟩
    case round =>
      obtain ⟨k, hk, rfl, HG, hbel⟩ := hrel
      have bw : Below w.heap.size w wr := hb0.trans (hbel.mono (by simp))
      have hcz := hbel.size
      simp only [World.size_alloc] at hcz
      by_cases hlt : k < n
      · have hkl : k < l.length := by have := HL.out; omega
        obtain ⟨b, o, rfl, hb, hc⟩ := (HS.out.below bw (Nat.le_refl _)) (by omega)
        obtain ⟨c0, c1⟩ := hc k hkl
        clear hc
        have hx := HM.out.at_ hkl
        have HT := Lib.hid (T.inD_take (t := (t, q)) (st := true) hkl)
        have HA := Lib.hid (fun h => T.inD_at (t := (t, q)) (st := true) hkl h)
        obtain ⟨X, hX⟩ : ∃ X, Hid (l[k] = X) := ⟨l[k], rfl⟩
        rw [hX.out] at HT HA c0 c1 hx
        clear hX
        obtain ⟨x, p⟩ := X
        simp only at c0 c1 hx
        have hbz : b < wr.heap.size := by have := bw.size; omega
        obtain ⟨d0, d1, dz⟩ := T.cell1 hbel
        have hA := fun W => T.rstrong_any x t p q W hx ht
        have HO : Hid (oneD true (x, p) (t, q) = stD (x, p) (t, q)) := rfl
        generalize stD (x, p) (t, q) = r at *
        cases r with
        | true =>
          have HF : Hid (inD l (t, q) true = true) := HA.out HO.out
          clear HT HA HO HG HS HL HM
          go_wp2_with (go_at_call 17; with_reducible refine (hA _).mono ?_; rintro e w1 ⟨rfl, hb1⟩; have B1 : Below w.heap.size w w1 := bw.trans ((((Below.refl _ _).alloc (Nat.le_refl _) _).trans (hb1.mono (by simp))).mono bw.size))
          go_ret
          exact ⟨T.ret_bool HF.out.symm, B1⟩
        | false =>
          have HF : Hid (inD (l.take (k + 1)) (t, q) true = false) := by unfold Hid; rw [HT.out, HG.out, HO.out]; rfl
          clear HT HA HO HG
          go_wp2_with (go_at_call 17; with_reducible refine (hA _).mono ?_; rintro e w1 ⟨rfl, hb1⟩; have B1 : Below (w.heap.size + 1) (w.alloc (.cells #[.string t, .bool q] 25)) w1 := hbel.trans ((((Below.refl _ _).alloc (Nat.le_refl _) _).trans (hb1.mono (by simp))).mono hcz))
          go_roundw
          case rel => exact ⟨k + 1, by omega, by go_num, HF, B1⟩
          case measure => simp [intOf]; omega
      · obtain rfl : k = n := by omega
        have HF : Hid (inD l (t, q) true = false) := by have h := HG.out; rw [List.take_of_length_le (by have := HL.out; omega)] at h; exact h
        go_wp2
        go_ret
        exact ⟨T.ret_bool HF.out.symm, bw⟩
  | false =>
    go_enter Try.func16, Try.ntmps16
    go_wp2
    go_loopw [11] (fun i wr => ∃ k : Nat, k ≤ n ∧ i = .int .i64 k ∧ Hid (inD (l.take k) (t, q) false = false) ∧ Below (w.heap.size + 1) (w.alloc (.cells #[.string t, .bool q] 25)) wr) (fun i _ => n - (intOf i).toNat)
    case atStart => exact ⟨0, Nat.zero_le _, rfl, rfl, Below.refl _ _⟩
    case round =>
      obtain ⟨k, hk, rfl, HG, hbel⟩ := hrel
      have bw : Below w.heap.size w wr := hb0.trans (hbel.mono (by simp))
      have hcz := hbel.size
      simp only [World.size_alloc] at hcz
      by_cases hlt : k < n
      · have hkl : k < l.length := by have := HL.out; omega
        obtain ⟨b, o, rfl, hb, hc⟩ := (HS.out.below bw (Nat.le_refl _)) (by omega)
        obtain ⟨c0, c1⟩ := hc k hkl
        clear hc
        have hx := HM.out.at_ hkl
        have HT := Lib.hid (T.inD_take (t := (t, q)) (st := false) hkl)
        have HA := Lib.hid (fun h => T.inD_at (t := (t, q)) (st := false) hkl h)
        obtain ⟨X, hX⟩ : ∃ X, Hid (l[k] = X) := ⟨l[k], rfl⟩
        rw [hX.out] at HT HA c0 c1 hx
        clear hX
        obtain ⟨x, p⟩ := X
        simp only at c0 c1 hx
        have hbz : b < wr.heap.size := by have := bw.size; omega
        obtain ⟨d0, d1, dz⟩ := T.cell1 hbel
        have hA := fun W => T.rweak_any x t p q W hx ht
        have HO : Hid (oneD false (x, p) (t, q) = wkD x t) := rfl
        generalize wkD x t = r at *
        cases r with
        | true =>
          have HF : Hid (inD l (t, q) false = true) := HA.out HO.out
          clear HT HA HO HG HS HL HM
          go_wp2_with (go_at_call 22; with_reducible refine (hA _).mono ?_; rintro e w1 ⟨rfl, hb1⟩; have B1 : Below w.heap.size w w1 := bw.trans ((((Below.refl _ _).alloc (Nat.le_refl _) _).trans (hb1.mono (by simp))).mono bw.size))
          go_ret
          exact ⟨T.ret_bool HF.out.symm, B1⟩
        | false =>
          have HF : Hid (inD (l.take (k + 1)) (t, q) false = false) := by unfold Hid; rw [HT.out, HG.out, HO.out]; rfl
          clear HT HA HO HG
          go_wp2_with (go_at_call 22; with_reducible refine (hA _).mono ?_; rintro e w1 ⟨rfl, hb1⟩; have B1 : Below (w.heap.size + 1) (w.alloc (.cells #[.string t, .bool q] 25)) w1 := hbel.trans ((((Below.refl _ _).alloc (Nat.le_refl _) _).trans (hb1.mono (by simp))).mono hcz))
          go_roundw
          case rel => exact ⟨k + 1, by omega, by go_num, HF, B1⟩
          case measure => simp [intOf]; omega
      · obtain rfl : k = n := by omega
        have HF : Hid (inD l (t, q) false = false) := by have h := HG.out; rw [List.take_of_length_le (by have := HL.out; omega)] at h; exact h
        go_wp2
        go_ret
        exact ⟨T.ret_bool HF.out.symm, bw⟩
set_option maxHeartbeats 16000000 in
set_option maxRecDepth 20000 in
theorem rcheck_any (hd : Bool) (ob : ByteArray) (S : Option Addr) (ns sc : Nat) (A B : Option Addr) (n c m d : Nat) (am an : Bool) (s u : Int) (rt : ByteArray) (rw : Bool) (tt : ByteArray) (tw : Bool) (md ln hv f1 f2 f3 : Int) (K : Option Addr) (kn kc : Nat) (tn : ByteArray) (kp : Bool) (there : Bool) (l1 l2 : List Tg) (w : World) (h : TwoAt w A B n m l1 l2) (ht : tt.size ≤ maxLen) (hr : rt.size ≤ maxLen) :
    Calls Try.prog 9 #[rqV hd ob S ns sc A B n c m d am an s u rt rw, mdV tt tw md ln hv f1 f2 f3 K kn kc tn kp, .bool there] w fun e w' => e = .returned (.int .i64 (cmD n m l1 l2 am an s u (rt, rw) (tt, tw) md ln ns there)) ∧ Below w.heap.size w w' := by
  have FB0 : Below w.heap.size w (((w.alloc (.cells #[.bool hd, .string ob, .slice S ns sc, .slice A n c, .slice B m d, .bool am, .bool an, .int .i64 s, .int .i64 u, .string rt, .bool rw] 29)).alloc (.cells #[.string tt, .bool tw, .int .i64 md, .int .i64 ln, .int .i64 hv, .int .i64 f1, .int .i64 f2, .int .i64 f3, .slice K kn kc, .string tn, .bool kp] 32)).alloc (.cells #[.slice A n c, .slice B m d, .bool am, .bool an, .int .i64 s, .int .i64 u, .string rt, .bool rw] 27)) := by go_grown
  have HH := Lib.hid h
  clear h
  have hF : ∀ W, Below w.heap.size w W → Calls Try.prog 16 #[.slice A n c, .agg #[.string tt, .bool tw], .bool true] W fun e w' => e = .returned (.bool (inD l1 (tt, tw) true)) ∧ Below W.heap.size W w' :=
    fun W e => rone_any A n c l1 tt tw true W HH.out.n1 HH.out.m1 HH.out.M1 ht (HH.out.below e).s1
  have hS : ∀ W, Below w.heap.size w W → Calls Try.prog 16 #[.slice B m d, .agg #[.string tt, .bool tw], .bool false] W fun e w' => e = .returned (.bool (inD l2 (tt, tw) false)) ∧ Below W.heap.size W w' :=
    fun W e => rone_any B m d l2 tt tw false W HH.out.n2 HH.out.m2 HH.out.M2 ht (HH.out.below e).s2
  have hT := fun W => T.rstrong_any rt tt rw tw W hr ht
  clear HH
  unfold cmD
  rw [T.stD_comm (rt, rw) (tt, tw)] at hT
  generalize inD l1 (tt, tw) true = im at *
  generalize inD l2 (tt, tw) false = ix at *
  simp only
  generalize hSR : someR rt rw = sr at *
  generalize stD (tt, tw) (rt, rw) = st at *
  generalize hHM : (am || decide (0 < n)) = hm at *
  generalize hHN : (an || decide (0 < m)) = hn at *
  have HSR := Lib.hid hSR
  have HHM := Lib.hid hHM
  have HHN := Lib.hid hHN
  clear hSR hHM hHN
  go_enter Try.func9, Try.ntmps9
  go_upto_region 2 with fail
  go_cut [18] (fun q18 wx => q18 = .bool hm ∧ Below (((w.alloc (.cells #[.bool hd, .string ob, .slice S ns sc, .slice A n c, .slice B m d, .bool am, .bool an, .int .i64 s, .int .i64 u, .string rt, .bool rw] 29)).alloc (.cells #[.string tt, .bool tw, .int .i64 md, .int .i64 ln, .int .i64 hv, .int .i64 f1, .int .i64 f2, .int .i64 f3, .slice K kn kc, .string tn, .bool kp] 32)).alloc (.cells #[.slice A n c, .slice B m d, .bool am, .bool an, .int .i64 s, .int .i64 u, .string rt, .bool rw] 27)).heap.size (((w.alloc (.cells #[.bool hd, .string ob, .slice S ns sc, .slice A n c, .slice B m d, .bool am, .bool an, .int .i64 s, .int .i64 u, .string rt, .bool rw] 29)).alloc (.cells #[.string tt, .bool tw, .int .i64 md, .int .i64 ln, .int .i64 hv, .int .i64 f1, .int .i64 f2, .int .i64 f3, .slice K kn kc, .string tn, .bool kp] 32)).alloc (.cells #[.slice A n c, .slice B m d, .bool am, .bool an, .int .i64 s, .int .i64 u, .string rt, .bool rw] 27)) wx)
  case first =>
    cases am with
    | true =>
      go_wp2_with fail
      go_meet
      exact ⟨by rw [← HHM.out]; rfl, Below.refl _ _⟩
    | false =>
      by_cases h : 0 < n
      · go_wp2_with fail
        go_meet
        exact ⟨by rw [← HHM.out]; simp [h], Below.refl _ _⟩
      · go_wp2_with fail
        go_meet
        exact ⟨by rw [← HHM.out]; simp [h], Below.refl _ _⟩
  case rest =>
    obtain ⟨rfl, C1⟩ := hcut
    generalize hwc : wc = w1 at *
    clear hwc
    obtain ⟨x0, x1, x2, x3, x4, x5, x6, x7, x8, x9, x10, y0, y1, y2, y3, y4, y5, y6, y7, y8, y9, y10, v0, v1, v2, v3, v4, v5, v6, v7, z1, z2, z3, B1⟩ := rq_md_cd C1
    go_upto_if 18 with fail
    go_cut [] (fun wx => failD hm am im u md there = false ∧ Below (((w.alloc (.cells #[.bool hd, .string ob, .slice S ns sc, .slice A n c, .slice B m d, .bool am, .bool an, .int .i64 s, .int .i64 u, .string rt, .bool rw] 29)).alloc (.cells #[.string tt, .bool tw, .int .i64 md, .int .i64 ln, .int .i64 hv, .int .i64 f1, .int .i64 f2, .int .i64 f3, .slice K kn kc, .string tn, .bool kp] 32)).alloc (.cells #[.slice A n c, .slice B m d, .bool am, .bool an, .int .i64 s, .int .i64 u, .string rt, .bool rw] 27)).heap.size (((w.alloc (.cells #[.bool hd, .string ob, .slice S ns sc, .slice A n c, .slice B m d, .bool am, .bool an, .int .i64 s, .int .i64 u, .string rt, .bool rw] 29)).alloc (.cells #[.string tt, .bool tw, .int .i64 md, .int .i64 ln, .int .i64 hv, .int .i64 f1, .int .i64 f2, .int .i64 f3, .slice K kn kc, .string tn, .bool kp] 32)).alloc (.cells #[.slice A n c, .slice B m d, .bool am, .bool an, .int .i64 s, .int .i64 u, .string rt, .bool rw] 27)) wx)
    case first =>
      cases hm with
      | true =>
        cases there with
        | false =>
          go_wp2_with fail
          go_ret
          exact ⟨T.ret_int (by simp [checkD, failD]), B1⟩
        | true =>
          cases am with
          | true =>
            go_wp2_with fail
            go_meet
            exact ⟨by simp [failD], C1⟩
          | false =>
            cases im with
            | true =>
              go_wp2_with (go_at_call 16; with_reducible refine (hF _ B1).mono ?_; rintro e w2 ⟨rfl, hb2⟩; have C2 := C1.trans (hb2.mono C1.size))
              go_meet
              exact ⟨by simp [failD], C2⟩
            | false =>
              go_wp2_with (go_at_call 16; with_reducible refine (hF _ B1).mono ?_; rintro e w2 ⟨rfl, hb2⟩; have C2 := B1.trans (hb2.mono B1.size))
              go_ret
              exact ⟨T.ret_int (by simp [checkD, failD]), C2⟩
      | false =>
        cases there with
        | false =>
          go_wp2_with fail
          go_meet
          exact ⟨by simp [failD], C1⟩
        | true =>
          by_cases h1 : 0 ≤ u
          · by_cases h2 : 0 ≤ md
            · by_cases h3 : u < md
              · go_wp2_with fail
                go_ret
                exact ⟨T.ret_int (by simp [checkD, failD, h1, h3]), B1⟩
              · go_wp2_with fail
                go_meet
                exact ⟨by simp [failD, h3], C1⟩
            · have h3 : ¬ u < md := by omega
              go_wp2_with fail
              go_meet
              exact ⟨by simp [failD, h3], C1⟩
          · go_wp2_with fail
            go_meet
            exact ⟨by simp [failD]; omega, C1⟩
    case rest =>
      obtain ⟨hfl, C2⟩ := hcut
      have HFL := Lib.hid hfl
      clear hfl x0 x1 x2 x3 x4 x5 x6 x7 x8 x9 x10 y0 y1 y2 y3 y4 y5 y6 y7 y8 y9 y10 v0 v1 v2 v3 v4 v5 v6 v7 z1 z2 z3 B1 C1
      generalize hwc : wc = w2 at *
      clear hwc
      obtain ⟨x0, x1, x2, x3, x4, x5, x6, x7, x8, x9, x10, y0, y1, y2, y3, y4, y5, y6, y7, y8, y9, y10, v0, v1, v2, v3, v4, v5, v6, v7, z1, z2, z3, B2⟩ := rq_md_cd C2
      cases there with
      | false =>
        go_wp2_with fail
        go_ret
        exact ⟨T.ret_int (by have := HFL.out; simp [checkD, this]), B2⟩
      | true =>
        go_upto_region 9 with fail
        go_cut [61] (fun q61 wx => q61 = .bool hn ∧ wx = w2)
        case first =>
          cases an with
          | true =>
            go_wp2_with fail
            go_meet
            exact ⟨by rw [← HHN.out]; rfl, rfl⟩
          | false =>
            by_cases h : 0 < m
            · go_wp2_with fail
              go_meet
              exact ⟨by rw [← HHN.out]; simp [h], rfl⟩
            · go_wp2_with fail
              go_meet
              exact ⟨by rw [← HHN.out]; simp [h], rfl⟩
        case rest =>
          obtain ⟨rfl, rfl⟩ := hcut
          generalize hwc : wc = w2 at *
          clear hwc
          go_upto_if 61 with fail
          go_cut [] (fun wx => sameD hn an ix s md ln = false ∧ Below (((w.alloc (.cells #[.bool hd, .string ob, .slice S ns sc, .slice A n c, .slice B m d, .bool am, .bool an, .int .i64 s, .int .i64 u, .string rt, .bool rw] 29)).alloc (.cells #[.string tt, .bool tw, .int .i64 md, .int .i64 ln, .int .i64 hv, .int .i64 f1, .int .i64 f2, .int .i64 f3, .slice K kn kc, .string tn, .bool kp] 32)).alloc (.cells #[.slice A n c, .slice B m d, .bool am, .bool an, .int .i64 s, .int .i64 u, .string rt, .bool rw] 27)).heap.size (((w.alloc (.cells #[.bool hd, .string ob, .slice S ns sc, .slice A n c, .slice B m d, .bool am, .bool an, .int .i64 s, .int .i64 u, .string rt, .bool rw] 29)).alloc (.cells #[.string tt, .bool tw, .int .i64 md, .int .i64 ln, .int .i64 hv, .int .i64 f1, .int .i64 f2, .int .i64 f3, .slice K kn kc, .string tn, .bool kp] 32)).alloc (.cells #[.slice A n c, .slice B m d, .bool am, .bool an, .int .i64 s, .int .i64 u, .string rt, .bool rw] 27)) wx)
          case first =>
            cases hn with
            | true =>
              cases an with
              | true =>
                go_wp2_with fail
                go_ret
                exact ⟨T.ret_int (by have := HFL.out; simp [checkD, sameD, this]), B2⟩
              | false =>
                cases ix with
                | true =>
                  go_wp2_with (go_at_call 16; with_reducible refine (hS _ B2).mono ?_; rintro e w3 ⟨rfl, hb3⟩; have C3 := B2.trans (hb3.mono B2.size))
                  go_ret
                  exact ⟨T.ret_int (by have := HFL.out; simp [checkD, sameD, this]), C3⟩
                | false =>
                  go_wp2_with (go_at_call 16; with_reducible refine (hS _ B2).mono ?_; rintro e w3 ⟨rfl, hb3⟩; have C3 := C2.trans (hb3.mono C2.size))
                  go_meet
                  exact ⟨by simp [sameD], C3⟩
            | false =>
              by_cases h0 : 0 ≤ s
              · by_cases h1 : ln = -1
                · subst h1
                  go_wp2_with fail
                  go_meet
                  exact ⟨by simp [sameD], C2⟩
                · have h1b : (ln != -1) = true := by simpa using h1
                  by_cases h2 : 0 ≤ md
                  · by_cases h3 : md ≤ s
                    · go_wp2_with fail
                      go_ret
                      exact ⟨T.ret_int (by have := HFL.out; simp [checkD, sameD, this, h1, h2, h3]), B2⟩
                    · go_wp2_with fail
                      go_meet
                      exact ⟨by simp [sameD, h3], C2⟩
                  · go_wp2_with fail
                    go_meet
                    exact ⟨by simp [sameD]; omega, C2⟩
              · have h3 : ¬ (0 ≤ md ∧ md ≤ s) := by omega
                go_wp2_with fail
                go_meet
                exact ⟨by simp only [sameD, Bool.false_eq_true, if_false]; cases h : (decide (0 ≤ md) && decide (md ≤ s)) with
                  | true => simp at h; exact absurd h h3
                  | false => rw [Bool.and_assoc, h, Bool.and_false], C2⟩
          case rest =>
            obtain ⟨hsm, C4⟩ := hcut
            have HSM := Lib.hid hsm
            clear hsm x0 x1 x2 x3 x4 x5 x6 x7 x8 x9 x10 y0 y1 y2 y3 y4 y5 y6 y7 y8 y9 y10 v0 v1 v2 v3 v4 v5 v6 v7 z1 z2 z3 B2 C2
            generalize hwc : wc = w4 at *
            clear hwc
            obtain ⟨x0, x1, x2, x3, x4, x5, x6, x7, x8, x9, x10, y0, y1, y2, y3, y4, y5, y6, y7, y8, y9, y10, v0, v1, v2, v3, v4, v5, v6, v7, z1, z2, z3, B4⟩ := rq_md_cd C4
            go_upto_region 14 with fail
            go_cut [8] (fun q8 wx => q8 = .bool sr ∧ wx = w4)
            case first =>
              by_cases he : rt = ⟨#[]⟩
              · have hs : rw = sr := by rw [← HSR.out]; unfold someR; simp [he]
                clear HSR
                subst he
                subst hs
                go_wp2_with fail
                go_meet
                exact ⟨rfl, rfl⟩
              · have hs : true = sr := by rw [← HSR.out]; unfold someR; simp [he]
                clear HSR
                subst hs
                have hx : ¬ rt.toList = [] := fun q => he (by rw [ByteArray.toList_eq] at q; exact ByteArray.ext (Array.toList_inj.1 q))
                go_wp2_with fail
                go_meet
                exact ⟨rfl, rfl⟩
            case rest =>
              obtain ⟨rfl, rfl⟩ := hcut
              generalize hwc : wc = w4 at *
              clear hwc
              by_cases hn0 : 0 < ns
              · cases sr with
                | false =>
                  go_wp2_with fail
                  go_ret
                  exact ⟨T.ret_int (by have h1 := HFL.out; have h2 := HSM.out; simp [checkD, h1, h2]), B4⟩
                | true =>
                  cases st with
                  | true =>
                    go_wp2_with (go_at_call 17; with_reducible refine (hT _).mono ?_; rintro e w5 ⟨rfl, hb5⟩; have B5 := B4.trans (hb5.mono B4.size))
                    go_ret
                    exact ⟨T.ret_int (by have h1 := HFL.out; have h2 := HSM.out; simp [checkD, h1, h2]), B5⟩
                  | false =>
                    go_wp2_with (go_at_call 17; with_reducible refine (hT _).mono ?_; rintro e w5 ⟨rfl, hb5⟩; have B5 := B4.trans (hb5.mono B4.size))
                    go_ret
                    exact ⟨T.ret_int (by have h1 := HFL.out; have h2 := HSM.out; simp [checkD, h1, h2, hn0]), B5⟩
              · go_wp2_with fail
                go_ret
                exact ⟨T.ret_int (by have h1 := HFL.out; have h2 := HSM.out; simp [checkD, h1, h2, hn0]), B4⟩
end Go.Proofs.Ytomcoacndppkcaa
