/-
  What conditions come to: Check of the program and of the reference.
-/
import Derived.Test.YtomcoacndppkcaaGreatDoorUA
import Derived.Deep.Cut
import Derived.Deep.CutRange
import Derived.Deep.DeepCutAuto
namespace Go.Proofs.YtomcoacndppkcaaGreatDoor
open Go Go.RowKit
open T (Tg TgAt inD stD oneD wkD)

/-- two lists of tags, as they are read -/
structure TwoAt (w : World) (A B : Option Addr) (n m : Nat) (l1 l2 : List Tg) : Prop where
  n1 : l1.length = n
  m1 : n ≤ 1000000
  M1 : T.Mx l1
  s1 : TgAt w w.heap.size A l1
  n2 : l2.length = m
  m2 : m ≤ 1000000
  M2 : T.Mx l2
  s2 : TgAt w w.heap.size B l2
theorem TwoAt.below {w W : World} {A B : Option Addr} {n m : Nat} {l1 l2 : List Tg} (h : TwoAt w A B n m l1 l2) (e : Below w.heap.size w W) : TwoAt W A B n m l1 l2 :=
  ⟨h.n1, h.m1, h.M1, h.s1.below e e.size, h.n2, h.m2, h.M2, h.s2.below e e.size⟩

def checkD (fl sm : Bool) (ns : Nat) (sr st there : Bool) : Int := if fl then 4 else if there && sm then 3 else if there && decide (0 < ns) && sr && !st then 2 else 1
/-- what a request's conditions come to -/
def cmD (n m : Nat) (l1 l2 : List Tg) (am an : Bool) (s u : Int) (r : Tg) (t : Tg) (md ln : Int) (ns : Nat) (there : Bool) : Int :=
  checkD (failD (am || decide (0 < n)) am (inD l1 t true) u md there) (sameD (an || decide (0 < m)) an (inD l2 t false) s md ln) ns (someR r.1 r.2) (stD t r) there

set_option maxHeartbeats 8000000 in
theorem check_any (hd : Bool) (ob : ByteArray) (S : Option Addr) (ns sc : Nat) (A B : Option Addr) (n c m d : Nat) (am an : Bool) (s u : Int) (rt : ByteArray) (rw : Bool) (tt : ByteArray) (tw : Bool) (md ln hv f1 f2 f3 : Int) (K : Option Addr) (kn kc : Nat) (tn : ByteArray) (kp : Bool) (there : Bool) (l1 l2 : List Tg) (w : World) (h : TwoAt w A B n m l1 l2) (ht : tt.size ≤ maxLen) (hr : rt.size ≤ maxLen) :
    Calls Tryz.prog 18 #[rqV hd ob S ns sc A B n c m d am an s u rt rw, mdV tt tw md ln hv f1 f2 f3 K kn kc tn kp, .bool there] w fun e w' => e = .returned (.int .i64 (cmD n m l1 l2 am an s u (rt, rw) (tt, tw) md ln ns there)) ∧ Below w.heap.size w w' := by
  have FB0 : Below w.heap.size w ((w.alloc (.cells #[.bool hd, .string ob, .slice S ns sc, .slice A n c, .slice B m d, .bool am, .bool an, .int .i64 s, .int .i64 u, .string rt, .bool rw] 49)).alloc (.cells #[.string tt, .bool tw, .int .i64 md, .int .i64 ln, .int .i64 hv, .int .i64 f1, .int .i64 f2, .int .i64 f3, .slice K kn kc, .string tn, .bool kp] 45)) := by go_grown
  have HH := Lib.hid h
  clear h
  have hF : ∀ W, Below w.heap.size w W → Calls Tryz.prog 44 #[cdV A B n c m d am an s u rt rw, mdV tt tw md ln hv f1 f2 f3 K kn kc tn kp, .bool there] W fun e w' => e = .returned (.bool (failD (am || decide (0 < n)) am (inD l1 (tt, tw) true) u md there)) ∧ Below W.heap.size W w' :=
    fun W e => failed_any A B n c m d am an s u rt rw tt tw md ln hv f1 f2 f3 K kn kc tn kp there l1 W HH.out.n1 HH.out.m1 HH.out.M1 ht (HH.out.below e).s1
  have hS : ∀ W, Below w.heap.size w W → Calls Tryz.prog 45 #[cdV A B n c m d am an s u rt rw, mdV tt tw md ln hv f1 f2 f3 K kn kc tn kp] W fun e w' => e = .returned (.bool (sameD (an || decide (0 < m)) an (inD l2 (tt, tw) false) s md ln)) ∧ Below W.heap.size W w' :=
    fun W e => same_any A B n c m d am an s u rt rw tt tw md ln hv f1 f2 f3 K kn kc tn kp l2 W HH.out.n2 HH.out.m2 HH.out.M2 ht (HH.out.below e).s2
  have hR := fun W => hasRange_any A B n c m d am an s u rt rw W
  have hT := fun W => T.strong_any tt rt tw rw W ht hr
  clear HH
  unfold cmD
  generalize failD (am || decide (0 < n)) am (inD l1 (tt, tw) true) u md there = fl at *
  generalize sameD (an || decide (0 < m)) an (inD l2 (tt, tw) false) s md ln = sm at *
  simp only
  generalize someR rt rw = sr at *
  generalize stD (tt, tw) (rt, rw) = st at *
  cases fl with
  | true =>
    rw [show checkD true sm ns sr st there = 4 from rfl]
    go_enter Tryz.func18, Tryz.ntmps18
    go_wp2_with (first
        | (go_at_call 44; with_reducible refine (hF _ FB0).mono ?_; rintro e w1 ⟨rfl, hb1⟩; have C1 := hb1; obtain ⟨x0, x1, x2, x3, x4, x5, x6, x7, x8, x9, x10, y0, y1, y2, y3, y4, y5, y6, y7, y8, y9, y10, z1, z2, B1⟩ := rq_md hb1)
        | (go_at_call 45; with_reducible refine (hS _ B1).mono ?_; rintro e w2 ⟨rfl, hb2⟩; have C2 := C1.trans (hb2.mono C1.size); obtain ⟨x0, x1, x2, x3, x4, x5, x6, x7, x8, x9, x10, y0, y1, y2, y3, y4, y5, y6, y7, y8, y9, y10, z1, z2, B2⟩ := rq_md C2)
        | (go_at_call 32; with_reducible refine (hR _).mono ?_; rintro e w3 ⟨rfl, hb3⟩; have C3 := C2.trans (hb3.mono C2.size); obtain ⟨x0, x1, x2, x3, x4, x5, x6, x7, x8, x9, x10, y0, y1, y2, y3, y4, y5, y6, y7, y8, y9, y10, z1, z2, B3⟩ := rq_md C3)
        | (go_at_call 46; with_reducible refine (hT _).mono ?_; rintro e w4 ⟨rfl, hb4⟩; have C4 := C3.trans (hb4.mono C3.size); obtain ⟨x0, x1, x2, x3, x4, x5, x6, x7, x8, x9, x10, y0, y1, y2, y3, y4, y5, y6, y7, y8, y9, y10, z1, z2, B4⟩ := rq_md C4))
    go_ret
    exact ⟨rfl, B1⟩
  | false =>
    cases there with
    | false =>
      rw [show checkD false sm ns sr st false = 1 from rfl]
      go_enter Tryz.func18, Tryz.ntmps18
      go_wp2_with (first
          | (go_at_call 44; with_reducible refine (hF _ FB0).mono ?_; rintro e w1 ⟨rfl, hb1⟩; have C1 := hb1; obtain ⟨x0, x1, x2, x3, x4, x5, x6, x7, x8, x9, x10, y0, y1, y2, y3, y4, y5, y6, y7, y8, y9, y10, z1, z2, B1⟩ := rq_md hb1)
          | (go_at_call 45; with_reducible refine (hS _ B1).mono ?_; rintro e w2 ⟨rfl, hb2⟩; have C2 := C1.trans (hb2.mono C1.size); obtain ⟨x0, x1, x2, x3, x4, x5, x6, x7, x8, x9, x10, y0, y1, y2, y3, y4, y5, y6, y7, y8, y9, y10, z1, z2, B2⟩ := rq_md C2)
          | (go_at_call 32; with_reducible refine (hR _).mono ?_; rintro e w3 ⟨rfl, hb3⟩; have C3 := C2.trans (hb3.mono C2.size); obtain ⟨x0, x1, x2, x3, x4, x5, x6, x7, x8, x9, x10, y0, y1, y2, y3, y4, y5, y6, y7, y8, y9, y10, z1, z2, B3⟩ := rq_md C3)
          | (go_at_call 46; with_reducible refine (hT _).mono ?_; rintro e w4 ⟨rfl, hb4⟩; have C4 := C3.trans (hb4.mono C3.size); obtain ⟨x0, x1, x2, x3, x4, x5, x6, x7, x8, x9, x10, y0, y1, y2, y3, y4, y5, y6, y7, y8, y9, y10, z1, z2, B4⟩ := rq_md C4))
      go_ret
      exact ⟨rfl, B1⟩
    | true =>
      cases sm with
      | true =>
        rw [show checkD false true ns sr st true = 3 from rfl]
        go_enter Tryz.func18, Tryz.ntmps18
        go_wp2_with (first
            | (go_at_call 44; with_reducible refine (hF _ FB0).mono ?_; rintro e w1 ⟨rfl, hb1⟩; have C1 := hb1; obtain ⟨x0, x1, x2, x3, x4, x5, x6, x7, x8, x9, x10, y0, y1, y2, y3, y4, y5, y6, y7, y8, y9, y10, z1, z2, B1⟩ := rq_md hb1)
            | (go_at_call 45; with_reducible refine (hS _ B1).mono ?_; rintro e w2 ⟨rfl, hb2⟩; have C2 := C1.trans (hb2.mono C1.size); obtain ⟨x0, x1, x2, x3, x4, x5, x6, x7, x8, x9, x10, y0, y1, y2, y3, y4, y5, y6, y7, y8, y9, y10, z1, z2, B2⟩ := rq_md C2)
            | (go_at_call 32; with_reducible refine (hR _).mono ?_; rintro e w3 ⟨rfl, hb3⟩; have C3 := C2.trans (hb3.mono C2.size); obtain ⟨x0, x1, x2, x3, x4, x5, x6, x7, x8, x9, x10, y0, y1, y2, y3, y4, y5, y6, y7, y8, y9, y10, z1, z2, B3⟩ := rq_md C3)
            | (go_at_call 46; with_reducible refine (hT _).mono ?_; rintro e w4 ⟨rfl, hb4⟩; have C4 := C3.trans (hb4.mono C3.size); obtain ⟨x0, x1, x2, x3, x4, x5, x6, x7, x8, x9, x10, y0, y1, y2, y3, y4, y5, y6, y7, y8, y9, y10, z1, z2, B4⟩ := rq_md C4))
        go_ret
        exact ⟨rfl, B2⟩
      | false =>
        by_cases hn : 0 < ns
        · cases sr with
          | false =>
            rw [show checkD false false ns false st true = 1 by simp [checkD]]
            go_enter Tryz.func18, Tryz.ntmps18
            go_wp2_with (first
                | (go_at_call 44; with_reducible refine (hF _ FB0).mono ?_; rintro e w1 ⟨rfl, hb1⟩; have C1 := hb1; obtain ⟨x0, x1, x2, x3, x4, x5, x6, x7, x8, x9, x10, y0, y1, y2, y3, y4, y5, y6, y7, y8, y9, y10, z1, z2, B1⟩ := rq_md hb1)
                | (go_at_call 45; with_reducible refine (hS _ B1).mono ?_; rintro e w2 ⟨rfl, hb2⟩; have C2 := C1.trans (hb2.mono C1.size); obtain ⟨x0, x1, x2, x3, x4, x5, x6, x7, x8, x9, x10, y0, y1, y2, y3, y4, y5, y6, y7, y8, y9, y10, z1, z2, B2⟩ := rq_md C2)
                | (go_at_call 32; with_reducible refine (hR _).mono ?_; rintro e w3 ⟨rfl, hb3⟩; have C3 := C2.trans (hb3.mono C2.size); obtain ⟨x0, x1, x2, x3, x4, x5, x6, x7, x8, x9, x10, y0, y1, y2, y3, y4, y5, y6, y7, y8, y9, y10, z1, z2, B3⟩ := rq_md C3)
                | (go_at_call 46; with_reducible refine (hT _).mono ?_; rintro e w4 ⟨rfl, hb4⟩; have C4 := C3.trans (hb4.mono C3.size); obtain ⟨x0, x1, x2, x3, x4, x5, x6, x7, x8, x9, x10, y0, y1, y2, y3, y4, y5, y6, y7, y8, y9, y10, z1, z2, B4⟩ := rq_md C4))
            go_ret
            exact ⟨rfl, B3⟩
          | true =>
            cases st with
            | true =>
              rw [show checkD false false ns true true true = 1 by simp [checkD]]
              go_enter Tryz.func18, Tryz.ntmps18
              go_wp2_with (first
                  | (go_at_call 44; with_reducible refine (hF _ FB0).mono ?_; rintro e w1 ⟨rfl, hb1⟩; have C1 := hb1; obtain ⟨x0, x1, x2, x3, x4, x5, x6, x7, x8, x9, x10, y0, y1, y2, y3, y4, y5, y6, y7, y8, y9, y10, z1, z2, B1⟩ := rq_md hb1)
                  | (go_at_call 45; with_reducible refine (hS _ B1).mono ?_; rintro e w2 ⟨rfl, hb2⟩; have C2 := C1.trans (hb2.mono C1.size); obtain ⟨x0, x1, x2, x3, x4, x5, x6, x7, x8, x9, x10, y0, y1, y2, y3, y4, y5, y6, y7, y8, y9, y10, z1, z2, B2⟩ := rq_md C2)
                  | (go_at_call 32; with_reducible refine (hR _).mono ?_; rintro e w3 ⟨rfl, hb3⟩; have C3 := C2.trans (hb3.mono C2.size); obtain ⟨x0, x1, x2, x3, x4, x5, x6, x7, x8, x9, x10, y0, y1, y2, y3, y4, y5, y6, y7, y8, y9, y10, z1, z2, B3⟩ := rq_md C3)
                  | (go_at_call 46; with_reducible refine (hT _).mono ?_; rintro e w4 ⟨rfl, hb4⟩; have C4 := C3.trans (hb4.mono C3.size); obtain ⟨x0, x1, x2, x3, x4, x5, x6, x7, x8, x9, x10, y0, y1, y2, y3, y4, y5, y6, y7, y8, y9, y10, z1, z2, B4⟩ := rq_md C4))
              go_ret
              exact ⟨rfl, B4⟩
            | false =>
              rw [show checkD false false ns true false true = 2 by simp [checkD, hn]]
              go_enter Tryz.func18, Tryz.ntmps18
              go_wp2_with (first
                  | (go_at_call 44; with_reducible refine (hF _ FB0).mono ?_; rintro e w1 ⟨rfl, hb1⟩; have C1 := hb1; obtain ⟨x0, x1, x2, x3, x4, x5, x6, x7, x8, x9, x10, y0, y1, y2, y3, y4, y5, y6, y7, y8, y9, y10, z1, z2, B1⟩ := rq_md hb1)
                  | (go_at_call 45; with_reducible refine (hS _ B1).mono ?_; rintro e w2 ⟨rfl, hb2⟩; have C2 := C1.trans (hb2.mono C1.size); obtain ⟨x0, x1, x2, x3, x4, x5, x6, x7, x8, x9, x10, y0, y1, y2, y3, y4, y5, y6, y7, y8, y9, y10, z1, z2, B2⟩ := rq_md C2)
                  | (go_at_call 32; with_reducible refine (hR _).mono ?_; rintro e w3 ⟨rfl, hb3⟩; have C3 := C2.trans (hb3.mono C2.size); obtain ⟨x0, x1, x2, x3, x4, x5, x6, x7, x8, x9, x10, y0, y1, y2, y3, y4, y5, y6, y7, y8, y9, y10, z1, z2, B3⟩ := rq_md C3)
                  | (go_at_call 46; with_reducible refine (hT _).mono ?_; rintro e w4 ⟨rfl, hb4⟩; have C4 := C3.trans (hb4.mono C3.size); obtain ⟨x0, x1, x2, x3, x4, x5, x6, x7, x8, x9, x10, y0, y1, y2, y3, y4, y5, y6, y7, y8, y9, y10, z1, z2, B4⟩ := rq_md C4))
              go_ret
              exact ⟨rfl, B4⟩
        · rw [show checkD false false ns sr st true = 1 by simp [checkD, hn]]
          go_enter Tryz.func18, Tryz.ntmps18
          go_wp2_with (first
              | (go_at_call 44; with_reducible refine (hF _ FB0).mono ?_; rintro e w1 ⟨rfl, hb1⟩; have C1 := hb1; obtain ⟨x0, x1, x2, x3, x4, x5, x6, x7, x8, x9, x10, y0, y1, y2, y3, y4, y5, y6, y7, y8, y9, y10, z1, z2, B1⟩ := rq_md hb1)
              | (go_at_call 45; with_reducible refine (hS _ B1).mono ?_; rintro e w2 ⟨rfl, hb2⟩; have C2 := C1.trans (hb2.mono C1.size); obtain ⟨x0, x1, x2, x3, x4, x5, x6, x7, x8, x9, x10, y0, y1, y2, y3, y4, y5, y6, y7, y8, y9, y10, z1, z2, B2⟩ := rq_md C2)
              | (go_at_call 32; with_reducible refine (hR _).mono ?_; rintro e w3 ⟨rfl, hb3⟩; have C3 := C2.trans (hb3.mono C2.size); obtain ⟨x0, x1, x2, x3, x4, x5, x6, x7, x8, x9, x10, y0, y1, y2, y3, y4, y5, y6, y7, y8, y9, y10, z1, z2, B3⟩ := rq_md C3)
              | (go_at_call 46; with_reducible refine (hT _).mono ?_; rintro e w4 ⟨rfl, hb4⟩; have C4 := C3.trans (hb4.mono C3.size); obtain ⟨x0, x1, x2, x3, x4, x5, x6, x7, x8, x9, x10, y0, y1, y2, y3, y4, y5, y6, y7, y8, y9, y10, z1, z2, B4⟩ := rq_md C4))
          go_ret
          exact ⟨rfl, B2⟩

end Go.Proofs.YtomcoacndppkcaaGreatDoor
