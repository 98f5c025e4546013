/-
  What conditions come to: the small questions of the program, and the reference's.
-/
import Derived.Test.YtomcoacndppkcaaGreatDoorTD
namespace Go.Proofs.YtomcoacndppkcaaGreatDoor
open Go Go.RowKit
open T (Tg TgAt inD stD oneD wkD)

/-- the cells of a block that has just been made, and what came behind -/
theorem blk {w W : World} {C : Array Value} {ty : TypeId} (h : Below (w.heap.size + 1) (w.alloc (.cells C ty)) W) :
    (∀ i, W.cell? ⟨w.heap.size, i, none⟩ = C[i]?) ∧ w.heap.size < W.heap.size ∧ Below w.heap.size w W := by
  have hz := h.size
  simp only [World.size_alloc] at hz
  refine ⟨fun i => ?_, by omega, ?_⟩
  · rw [h.cell (p := ⟨w.heap.size, i, none⟩) (by simp)]; simp
  · exact ((Below.refl _ _).alloc (Nat.le_refl _) _).trans (h.mono (by omega))
/-- of two blocks -/
theorem blk2 {w W : World} {C D : Array Value} {ty tz : TypeId} (h : Below ((w.alloc (.cells C ty)).alloc (.cells D tz)).heap.size ((w.alloc (.cells C ty)).alloc (.cells D tz)) W) :
    (∀ i, W.cell? ⟨w.heap.size, i, none⟩ = C[i]?) ∧ (∀ i, W.cell? ⟨w.heap.size + 1, i, none⟩ = D[i]?) ∧ w.heap.size < W.heap.size ∧ w.heap.size + 1 < W.heap.size ∧ Below w.heap.size w W := by
  have hz := h.size
  simp only [World.size_alloc] at hz
  refine ⟨fun i => ?_, fun i => ?_, by omega, by omega, ?_⟩
  · rw [h.cell (p := ⟨w.heap.size, i, none⟩) (by simp; omega)]; simp
  · rw [h.cell (p := ⟨w.heap.size + 1, i, none⟩) (by simp)]; simp
  · exact (((Below.refl _ _).alloc (Nat.le_refl _) _).alloc (by simp) _).trans (h.mono (by simp; omega))
/-- of three -/
theorem blk3 {w W : World} {C D E : Array Value} {ty tz tx : TypeId} (h : Below (((w.alloc (.cells C ty)).alloc (.cells D tz)).alloc (.cells E tx)).heap.size (((w.alloc (.cells C ty)).alloc (.cells D tz)).alloc (.cells E tx)) W) :
    (∀ i, W.cell? ⟨w.heap.size, i, none⟩ = C[i]?) ∧ (∀ i, W.cell? ⟨w.heap.size + 1, i, none⟩ = D[i]?) ∧ (∀ i, W.cell? ⟨w.heap.size + 1 + 1, i, none⟩ = E[i]?) ∧ w.heap.size < W.heap.size ∧ w.heap.size + 1 < W.heap.size ∧ w.heap.size + 1 + 1 < W.heap.size ∧ Below w.heap.size w W := by
  have hz := h.size
  simp only [World.size_alloc] at hz
  refine ⟨fun i => ?_, fun i => ?_, fun i => ?_, by omega, by omega, by omega, ?_⟩
  · rw [h.cell (p := ⟨w.heap.size, i, none⟩) (by simp only [World.size_alloc]; omega)]; go_simp
  · rw [h.cell (p := ⟨w.heap.size + 1, i, none⟩) (by simp only [World.size_alloc]; omega)]; go_simp
  · rw [h.cell (p := ⟨w.heap.size + 1 + 1, i, none⟩) (by simp only [World.size_alloc]; omega)]; go_simp
  · exact ((((Below.refl _ _).alloc (Nat.le_refl _) _).alloc (by simp only [World.size_alloc]; omega) _).alloc (by simp only [World.size_alloc]; omega) _).trans (h.mono (by simp only [World.size_alloc]; omega))

/-- conditions, versions and requests as values -/
abbrev cdV (A B : Option Addr) (n c m d : Nat) (am an : Bool) (s u : Int) (rt : ByteArray) (rw : Bool) : Value := .agg #[.slice A n c, .slice B m d, .bool am, .bool an, .int .i64 s, .int .i64 u, .string rt, .bool rw]
abbrev mdV (tt : ByteArray) (tw : Bool) (md ln hv f1 f2 f3 : Int) (K : Option Addr) (kn kc : Nat) (tn : ByteArray) (kp : Bool) : Value := .agg #[.string tt, .bool tw, .int .i64 md, .int .i64 ln, .int .i64 hv, .int .i64 f1, .int .i64 f2, .int .i64 f3, .slice K kn kc, .string tn, .bool kp]
abbrev rqV (hd : Bool) (ob : ByteArray) (S : Option Addr) (ns sc : Nat) (A B : Option Addr) (n c m d : Nat) (am an : Bool) (s u : Int) (rt : ByteArray) (rw : Bool) : Value := .agg #[.bool hd, .string ob, .slice S ns sc, .slice A n c, .slice B m d, .bool am, .bool an, .int .i64 s, .int .i64 u, .string rt, .bool rw]

theorem cd_md {w W : World} {A B : Option Addr} {n c m d : Nat} {am an : Bool} {s u : Int} {rt : ByteArray} {rw : Bool} {tt : ByteArray} {tw : Bool} {md ln hv f1 f2 f3 : Int} {K : Option Addr} {kn kc : Nat} {tn : ByteArray} {kp : Bool}
    (h : Below ((w.alloc (.cells #[.slice A n c, .slice B m d, .bool am, .bool an, .int .i64 s, .int .i64 u, .string rt, .bool rw] 29)).alloc (.cells #[.string tt, .bool tw, .int .i64 md, .int .i64 ln, .int .i64 hv, .int .i64 f1, .int .i64 f2, .int .i64 f3, .slice K kn kc, .string tn, .bool kp] 45)).heap.size ((w.alloc (.cells #[.slice A n c, .slice B m d, .bool am, .bool an, .int .i64 s, .int .i64 u, .string rt, .bool rw] 29)).alloc (.cells #[.string tt, .bool tw, .int .i64 md, .int .i64 ln, .int .i64 hv, .int .i64 f1, .int .i64 f2, .int .i64 f3, .slice K kn kc, .string tn, .bool kp] 45)) W) :
    W.cell? ⟨w.heap.size, 0, none⟩ = some (.slice A n c) ∧ W.cell? ⟨w.heap.size, 1, none⟩ = some (.slice B m d) ∧ W.cell? ⟨w.heap.size, 2, none⟩ = some (.bool am) ∧ W.cell? ⟨w.heap.size, 3, none⟩ = some (.bool an) ∧ W.cell? ⟨w.heap.size, 4, none⟩ = some (.int .i64 s) ∧ W.cell? ⟨w.heap.size, 5, none⟩ = some (.int .i64 u) ∧ W.cell? ⟨w.heap.size, 6, none⟩ = some (.string rt) ∧ W.cell? ⟨w.heap.size, 7, none⟩ = some (.bool rw) ∧ W.cell? ⟨w.heap.size + 1, 0, none⟩ = some (.string tt) ∧ W.cell? ⟨w.heap.size + 1, 1, none⟩ = some (.bool tw) ∧ W.cell? ⟨w.heap.size + 1, 2, none⟩ = some (.int .i64 md) ∧ W.cell? ⟨w.heap.size + 1, 3, none⟩ = some (.int .i64 ln) ∧ W.cell? ⟨w.heap.size + 1, 4, none⟩ = some (.int .i64 hv) ∧ W.cell? ⟨w.heap.size + 1, 5, none⟩ = some (.int .i64 f1) ∧ W.cell? ⟨w.heap.size + 1, 6, none⟩ = some (.int .i64 f2) ∧ W.cell? ⟨w.heap.size + 1, 7, none⟩ = some (.int .i64 f3) ∧ W.cell? ⟨w.heap.size + 1, 8, none⟩ = some (.slice K kn kc) ∧ W.cell? ⟨w.heap.size + 1, 9, none⟩ = some (.string tn) ∧ W.cell? ⟨w.heap.size + 1, 10, none⟩ = some (.bool kp) ∧ w.heap.size < W.heap.size ∧ w.heap.size + 1 < W.heap.size ∧ Below w.heap.size w W := by
  obtain ⟨hx, hy, z0, z1, B1⟩ := blk2 h
  exact ⟨hx 0, hx 1, hx 2, hx 3, hx 4, hx 5, hx 6, hx 7, hy 0, hy 1, hy 2, hy 3, hy 4, hy 5, hy 6, hy 7, hy 8, hy 9, hy 10, z0, z1, B1⟩
theorem rq_md {w W : World} {A B : Option Addr} {n c m d : Nat} {am an : Bool} {s u : Int} {rt : ByteArray} {rw : Bool} {tt : ByteArray} {tw : Bool} {md ln hv f1 f2 f3 : Int} {K : Option Addr} {kn kc : Nat} {tn : ByteArray} {kp : Bool} {hd : Bool} {ob : ByteArray} {S : Option Addr} {ns sc : Nat}
    (h : Below ((w.alloc (.cells #[.bool hd, .string ob, .slice S ns sc, .slice A n c, .slice B m d, .bool am, .bool an, .int .i64 s, .int .i64 u, .string rt, .bool rw] 49)).alloc (.cells #[.string tt, .bool tw, .int .i64 md, .int .i64 ln, .int .i64 hv, .int .i64 f1, .int .i64 f2, .int .i64 f3, .slice K kn kc, .string tn, .bool kp] 45)).heap.size ((w.alloc (.cells #[.bool hd, .string ob, .slice S ns sc, .slice A n c, .slice B m d, .bool am, .bool an, .int .i64 s, .int .i64 u, .string rt, .bool rw] 49)).alloc (.cells #[.string tt, .bool tw, .int .i64 md, .int .i64 ln, .int .i64 hv, .int .i64 f1, .int .i64 f2, .int .i64 f3, .slice K kn kc, .string tn, .bool kp] 45)) W) :
    W.cell? ⟨w.heap.size, 0, none⟩ = some (.bool hd) ∧ W.cell? ⟨w.heap.size, 1, none⟩ = some (.string ob) ∧ W.cell? ⟨w.heap.size, 2, none⟩ = some (.slice S ns sc) ∧ W.cell? ⟨w.heap.size, 3, none⟩ = some (.slice A n c) ∧ W.cell? ⟨w.heap.size, 4, none⟩ = some (.slice B m d) ∧ W.cell? ⟨w.heap.size, 5, none⟩ = some (.bool am) ∧ W.cell? ⟨w.heap.size, 6, none⟩ = some (.bool an) ∧ W.cell? ⟨w.heap.size, 7, none⟩ = some (.int .i64 s) ∧ W.cell? ⟨w.heap.size, 8, none⟩ = some (.int .i64 u) ∧ W.cell? ⟨w.heap.size, 9, none⟩ = some (.string rt) ∧ W.cell? ⟨w.heap.size, 10, none⟩ = some (.bool rw) ∧ W.cell? ⟨w.heap.size + 1, 0, none⟩ = some (.string tt) ∧ W.cell? ⟨w.heap.size + 1, 1, none⟩ = some (.bool tw) ∧ W.cell? ⟨w.heap.size + 1, 2, none⟩ = some (.int .i64 md) ∧ W.cell? ⟨w.heap.size + 1, 3, none⟩ = some (.int .i64 ln) ∧ W.cell? ⟨w.heap.size + 1, 4, none⟩ = some (.int .i64 hv) ∧ W.cell? ⟨w.heap.size + 1, 5, none⟩ = some (.int .i64 f1) ∧ W.cell? ⟨w.heap.size + 1, 6, none⟩ = some (.int .i64 f2) ∧ W.cell? ⟨w.heap.size + 1, 7, none⟩ = some (.int .i64 f3) ∧ W.cell? ⟨w.heap.size + 1, 8, none⟩ = some (.slice K kn kc) ∧ W.cell? ⟨w.heap.size + 1, 9, none⟩ = some (.string tn) ∧ W.cell? ⟨w.heap.size + 1, 10, none⟩ = some (.bool kp) ∧ w.heap.size < W.heap.size ∧ w.heap.size + 1 < W.heap.size ∧ Below w.heap.size w W := by
  obtain ⟨hx, hy, z0, z1, B1⟩ := blk2 h
  exact ⟨hx 0, hx 1, hx 2, hx 3, hx 4, hx 5, hx 6, hx 7, hx 8, hx 9, hx 10, hy 0, hy 1, hy 2, hy 3, hy 4, hy 5, hy 6, hy 7, hy 8, hy 9, hy 10, z0, z1, B1⟩
theorem rq_md_cd {w W : World} {A B : Option Addr} {n c m d : Nat} {am an : Bool} {s u : Int} {rt : ByteArray} {rw : Bool} {tt : ByteArray} {tw : Bool} {md ln hv f1 f2 f3 : Int} {K : Option Addr} {kn kc : Nat} {tn : ByteArray} {kp : Bool} {hd : Bool} {ob : ByteArray} {S : Option Addr} {ns sc : Nat}
    (h : Below (((w.alloc (.cells #[.bool hd, .string ob, .slice S ns sc, .slice A n c, .slice B m d, .bool am, .bool an, .int .i64 s, .int .i64 u, .string rt, .bool rw] 49)).alloc (.cells #[.string tt, .bool tw, .int .i64 md, .int .i64 ln, .int .i64 hv, .int .i64 f1, .int .i64 f2, .int .i64 f3, .slice K kn kc, .string tn, .bool kp] 45)).alloc (.cells #[.slice A n c, .slice B m d, .bool am, .bool an, .int .i64 s, .int .i64 u, .string rt, .bool rw] 29)).heap.size (((w.alloc (.cells #[.bool hd, .string ob, .slice S ns sc, .slice A n c, .slice B m d, .bool am, .bool an, .int .i64 s, .int .i64 u, .string rt, .bool rw] 49)).alloc (.cells #[.string tt, .bool tw, .int .i64 md, .int .i64 ln, .int .i64 hv, .int .i64 f1, .int .i64 f2, .int .i64 f3, .slice K kn kc, .string tn, .bool kp] 45)).alloc (.cells #[.slice A n c, .slice B m d, .bool am, .bool an, .int .i64 s, .int .i64 u, .string rt, .bool rw] 29)) W) :
    W.cell? ⟨w.heap.size, 0, none⟩ = some (.bool hd) ∧ W.cell? ⟨w.heap.size, 1, none⟩ = some (.string ob) ∧ W.cell? ⟨w.heap.size, 2, none⟩ = some (.slice S ns sc) ∧ W.cell? ⟨w.heap.size, 3, none⟩ = some (.slice A n c) ∧ W.cell? ⟨w.heap.size, 4, none⟩ = some (.slice B m d) ∧ W.cell? ⟨w.heap.size, 5, none⟩ = some (.bool am) ∧ W.cell? ⟨w.heap.size, 6, none⟩ = some (.bool an) ∧ W.cell? ⟨w.heap.size, 7, none⟩ = some (.int .i64 s) ∧ W.cell? ⟨w.heap.size, 8, none⟩ = some (.int .i64 u) ∧ W.cell? ⟨w.heap.size, 9, none⟩ = some (.string rt) ∧ W.cell? ⟨w.heap.size, 10, none⟩ = some (.bool rw) ∧ W.cell? ⟨w.heap.size + 1, 0, none⟩ = some (.string tt) ∧ W.cell? ⟨w.heap.size + 1, 1, none⟩ = some (.bool tw) ∧ W.cell? ⟨w.heap.size + 1, 2, none⟩ = some (.int .i64 md) ∧ W.cell? ⟨w.heap.size + 1, 3, none⟩ = some (.int .i64 ln) ∧ W.cell? ⟨w.heap.size + 1, 4, none⟩ = some (.int .i64 hv) ∧ W.cell? ⟨w.heap.size + 1, 5, none⟩ = some (.int .i64 f1) ∧ W.cell? ⟨w.heap.size + 1, 6, none⟩ = some (.int .i64 f2) ∧ W.cell? ⟨w.heap.size + 1, 7, none⟩ = some (.int .i64 f3) ∧ W.cell? ⟨w.heap.size + 1, 8, none⟩ = some (.slice K kn kc) ∧ W.cell? ⟨w.heap.size + 1, 9, none⟩ = some (.string tn) ∧ W.cell? ⟨w.heap.size + 1, 10, none⟩ = some (.bool kp) ∧ W.cell? ⟨w.heap.size + 1 + 1, 0, none⟩ = some (.slice A n c) ∧ W.cell? ⟨w.heap.size + 1 + 1, 1, none⟩ = some (.slice B m d) ∧ W.cell? ⟨w.heap.size + 1 + 1, 2, none⟩ = some (.bool am) ∧ W.cell? ⟨w.heap.size + 1 + 1, 3, none⟩ = some (.bool an) ∧ W.cell? ⟨w.heap.size + 1 + 1, 4, none⟩ = some (.int .i64 s) ∧ W.cell? ⟨w.heap.size + 1 + 1, 5, none⟩ = some (.int .i64 u) ∧ W.cell? ⟨w.heap.size + 1 + 1, 6, none⟩ = some (.string rt) ∧ W.cell? ⟨w.heap.size + 1 + 1, 7, none⟩ = some (.bool rw) ∧ w.heap.size < W.heap.size ∧ w.heap.size + 1 < W.heap.size ∧ w.heap.size + 1 + 1 < W.heap.size ∧ Below w.heap.size w W := by
  obtain ⟨hx, hy, hz, z0, z1, z2, B1⟩ := blk3 h
  exact ⟨hx 0, hx 1, hx 2, hx 3, hx 4, hx 5, hx 6, hx 7, hx 8, hx 9, hx 10, hy 0, hy 1, hy 2, hy 3, hy 4, hy 5, hy 6, hy 7, hy 8, hy 9, hy 10, hz 0, hz 1, hz 2, hz 3, hz 4, hz 5, hz 6, hz 7, z0, z1, z2, B1⟩
theorem hasMatch_any (A B : Option Addr) (n c m d : Nat) (am an : Bool) (s u : Int) (rt : ByteArray) (rw : Bool) (w : World) :
    Calls Tryz.prog 29 #[cdV A B n c m d am an s u rt rw] w fun e w' => e = .returned (.bool (am || decide (0 < n))) ∧ Below w.heap.size w w' := by
  cases am with
  | true =>
    go_enter Tryz.func29, Tryz.ntmps29
    go_wp2
    go_ret
    exact ⟨rfl, by go_grown⟩
  | false =>
    by_cases h : 0 < n
    · have e : (false || decide (0 < n)) = true := by simp [h]
      rw [e]
      go_enter Tryz.func29, Tryz.ntmps29
      go_wp2
      go_ret
      exact ⟨rfl, by go_grown⟩
    · have e : (false || decide (0 < n)) = false := by simp [h]
      rw [e]
      go_enter Tryz.func29, Tryz.ntmps29
      go_wp2
      go_ret
      exact ⟨rfl, by go_grown⟩
theorem hasNone_any (A B : Option Addr) (n c m d : Nat) (am an : Bool) (s u : Int) (rt : ByteArray) (rw : Bool) (w : World) :
    Calls Tryz.prog 31 #[cdV A B n c m d am an s u rt rw] w fun e w' => e = .returned (.bool (an || decide (0 < m))) ∧ Below w.heap.size w w' := by
  cases an with
  | true =>
    go_enter Tryz.func31, Tryz.ntmps31
    go_wp2
    go_ret
    exact ⟨rfl, by go_grown⟩
  | false =>
    by_cases h : 0 < m
    · have e : (false || decide (0 < m)) = true := by simp [h]
      rw [e]
      go_enter Tryz.func31, Tryz.ntmps31
      go_wp2
      go_ret
      exact ⟨rfl, by go_grown⟩
    · have e : (false || decide (0 < m)) = false := by simp [h]
      rw [e]
      go_enter Tryz.func31, Tryz.ntmps31
      go_wp2
      go_ret
      exact ⟨rfl, by go_grown⟩
/-- is there a Range? -/
def someR (rt : ByteArray) (rw : Bool) : Bool := !decide (rt = ⟨#[]⟩) || rw
theorem empty_iff (x : ByteArray) : (x.toList == (⟨#[]⟩ : ByteArray).toList) = decide (x = ⟨#[]⟩) := by
  rw [Bool.eq_iff_iff]; simp only [beq_iff_eq, decide_eq_true_eq]
  rw [ByteArray.toList_eq, ByteArray.toList_eq]
  exact ⟨fun h => ByteArray.ext (Array.toList_inj.1 h), fun h => by rw [h]⟩
theorem hasRange_any (A B : Option Addr) (n c m d : Nat) (am an : Bool) (s u : Int) (rt : ByteArray) (rw : Bool) (w : World) :
    Calls Tryz.prog 32 #[cdV A B n c m d am an s u rt rw] w fun e w' => e = .returned (.bool (someR rt rw)) ∧ Below w.heap.size w w' := by
  by_cases h : rt = ⟨#[]⟩
  · subst h
    cases rw with
    | true =>
      have e : someR ⟨#[]⟩ true = true := rfl
      rw [e]
      go_enter Tryz.func32, Tryz.ntmps32
      go_wp2
      go_ret
      exact ⟨rfl, by go_grown⟩
    | false =>
      have e : someR ⟨#[]⟩ false = false := rfl
      rw [e]
      go_enter Tryz.func32, Tryz.ntmps32
      go_wp2
      go_ret
      exact ⟨rfl, by go_grown⟩
  · have e : someR rt rw = true := by unfold someR; simp [h]
    rw [e]
    have hx : ¬ rt.toList = [] := fun q => h (by rw [ByteArray.toList_eq] at q; exact ByteArray.ext (Array.toList_inj.1 q))
    go_enter Tryz.func32, Tryz.ntmps32
    go_wp2
    go_ret
    exact ⟨rfl, by go_grown⟩
theorem cNone_any (w : World) :
    Calls Tryz.prog 17 #[] w fun e w' => e = .returned (cdV none none 0 0 0 0 false false (-1) (-1) ⟨#[]⟩ false) ∧ Below w.heap.size w w' := by
  go_enter Tryz.func17, Tryz.ntmps17
  go_wp2
  exact bodyPost_ret (v := cdV none none 0 0 0 0 false false (-1) (-1) ⟨#[]⟩ false) (by simp [results, Tryz.results17, go_sem]) rfl ⟨rfl, by go_grown⟩

/-- is something failed; is it the same? -/
def failD (hm am im : Bool) (u md : Int) (there : Bool) : Bool := if hm then !there || (!am && !im) else there && decide (0 ≤ u) && decide (u < md)
def sameD (hn an ix : Bool) (s md ln : Int) : Bool := if hn then an || ix else decide (ln ≠ -1) && decide (0 ≤ md) && decide (md ≤ s)
set_option maxHeartbeats 4000000 in
theorem failed_any (A B : Option Addr) (n c m d : Nat) (am an : Bool) (s u : Int) (rt : ByteArray) (rw : Bool) (tt : ByteArray) (tw : Bool) (md ln hv f1 f2 f3 : Int) (K : Option Addr) (kn kc : Nat) (tn : ByteArray) (kp : Bool) (there : Bool) (l : List Tg) (w : World) (hn : l.length = n) (hm : n ≤ 1000000) (hM : T.Mx l) (ht : tt.size ≤ maxLen) (hs : TgAt w w.heap.size A l) :
    Calls Tryz.prog 44 #[cdV A B n c m d am an s u rt rw, mdV tt tw md ln hv f1 f2 f3 K kn kc tn kp, .bool there] w fun e w' => e = .returned (.bool (failD (am || decide (0 < n)) am (inD l (tt, tw) true) u md there)) ∧ Below w.heap.size w w' := by
  have hA := fun W => hasMatch_any A B n c m d am an s u rt rw W
  have HS := Lib.hid hs; have HL := Lib.hid hn; have HM := Lib.hid hM
  clear hs hn hM
  have HI : ∀ W, Below w.heap.size w W → Calls Tryz.prog 66 #[.slice A n c, .agg #[.string tt, .bool tw], .bool true] W fun e w' => e = .returned (.bool (inD l (tt, tw) true)) ∧ Below W.heap.size W w' :=
    fun W h => T.in_any A n c l tt tw true W HL.out hm HM.out ht (HS.out.below h h.size)
  generalize inD l (tt, tw) true = im at *
  generalize (am || decide (0 < n)) = hq at *
  clear HS HL HM
  cases hq with
  | false =>
    cases there with
    | false =>
      rw [show failD false am im u md false = false from rfl]
      go_enter Tryz.func44, Tryz.ntmps44
      go_wp2_with (go_at_call 29; with_reducible refine (hA _).mono ?_; rintro e w1 ⟨rfl, hb1⟩; obtain ⟨x0, x1, x2, x3, x4, x5, x6, x7, y0, y1, y2, y3, y4, y5, y6, y7, y8, y9, y10, z1, z2, B1⟩ := cd_md hb1)
      go_ret
      first | exact ⟨rfl, B1⟩ | exact ⟨T.ret_bool (by simp [*]), B1⟩
    | true =>
      by_cases h1 : 0 ≤ u
      · by_cases h2 : u < md
        · rw [show failD false am im u md true = true by simp [failD, h1, h2]]
          go_enter Tryz.func44, Tryz.ntmps44
          go_wp2_with (go_at_call 29; with_reducible refine (hA _).mono ?_; rintro e w1 ⟨rfl, hb1⟩; obtain ⟨x0, x1, x2, x3, x4, x5, x6, x7, y0, y1, y2, y3, y4, y5, y6, y7, y8, y9, y10, z1, z2, B1⟩ := cd_md hb1)
          go_ret
          first | exact ⟨rfl, B1⟩ | exact ⟨T.ret_bool (by simp [*]), B1⟩
        · rw [show failD false am im u md true = false by simp [failD, h2]]
          go_enter Tryz.func44, Tryz.ntmps44
          go_wp2_with (go_at_call 29; with_reducible refine (hA _).mono ?_; rintro e w1 ⟨rfl, hb1⟩; obtain ⟨x0, x1, x2, x3, x4, x5, x6, x7, y0, y1, y2, y3, y4, y5, y6, y7, y8, y9, y10, z1, z2, B1⟩ := cd_md hb1)
          go_ret
          first | exact ⟨rfl, B1⟩ | exact ⟨T.ret_bool (by simp [*]), B1⟩
      · rw [show failD false am im u md true = false by simp [failD, h1]]
        go_enter Tryz.func44, Tryz.ntmps44
        go_wp2_with (go_at_call 29; with_reducible refine (hA _).mono ?_; rintro e w1 ⟨rfl, hb1⟩; obtain ⟨x0, x1, x2, x3, x4, x5, x6, x7, y0, y1, y2, y3, y4, y5, y6, y7, y8, y9, y10, z1, z2, B1⟩ := cd_md hb1)
        go_ret
        first | exact ⟨rfl, B1⟩ | exact ⟨T.ret_bool (by simp [*]), B1⟩
  | true =>
    cases there with
    | false =>
      rw [show failD true am im u md false = true from rfl]
      go_enter Tryz.func44, Tryz.ntmps44
      go_wp2_with (go_at_call 29; with_reducible refine (hA _).mono ?_; rintro e w1 ⟨rfl, hb1⟩; obtain ⟨x0, x1, x2, x3, x4, x5, x6, x7, y0, y1, y2, y3, y4, y5, y6, y7, y8, y9, y10, z1, z2, B1⟩ := cd_md hb1)
      go_ret
      first | exact ⟨rfl, B1⟩ | exact ⟨T.ret_bool (by simp [*]), B1⟩
    | true =>
      cases am with
      | true =>
        rw [show failD true true im u md true = false from rfl]
        go_enter Tryz.func44, Tryz.ntmps44
        go_wp2_with (go_at_call 29; with_reducible refine (hA _).mono ?_; rintro e w1 ⟨rfl, hb1⟩; obtain ⟨x0, x1, x2, x3, x4, x5, x6, x7, y0, y1, y2, y3, y4, y5, y6, y7, y8, y9, y10, z1, z2, B1⟩ := cd_md hb1)
        go_ret
        first | exact ⟨rfl, B1⟩ | exact ⟨T.ret_bool (by simp [*]), B1⟩
      | false =>
        have e : failD true false im u md true = !im := by simp [failD]
        rw [e]
        go_enter Tryz.func44, Tryz.ntmps44
        go_wp2_with (first
          | (go_at_call 29; with_reducible refine (hA _).mono ?_; rintro e w1 ⟨rfl, hb1⟩; obtain ⟨x0, x1, x2, x3, x4, x5, x6, x7, y0, y1, y2, y3, y4, y5, y6, y7, y8, y9, y10, z1, z2, B1⟩ := cd_md hb1)
          | (go_at_call 66; with_reducible refine (HI _ B1).mono ?_; rintro e w2 ⟨rfl, hb2⟩))
        go_ret
        exact ⟨rfl, B1.trans (hb2.mono B1.size)⟩

set_option maxHeartbeats 4000000 in
theorem same_any (A B : Option Addr) (n c m d : Nat) (am an : Bool) (s u : Int) (rt : ByteArray) (rw : Bool) (tt : ByteArray) (tw : Bool) (md ln hv f1 f2 f3 : Int) (K : Option Addr) (kn kc : Nat) (tn : ByteArray) (kp : Bool) (l : List Tg) (w : World) (hn : l.length = m) (hm : m ≤ 1000000) (hM : T.Mx l) (ht : tt.size ≤ maxLen) (hs : TgAt w w.heap.size B l) :
    Calls Tryz.prog 45 #[cdV A B n c m d am an s u rt rw, mdV tt tw md ln hv f1 f2 f3 K kn kc tn kp] w fun e w' => e = .returned (.bool (sameD (an || decide (0 < m)) an (inD l (tt, tw) false) s md ln)) ∧ Below w.heap.size w w' := by
  have hA := fun W => hasNone_any A B n c m d am an s u rt rw W
  have HS := Lib.hid hs; have HL := Lib.hid hn; have HM := Lib.hid hM
  clear hs hn hM
  have HI : ∀ W, Below w.heap.size w W → Calls Tryz.prog 66 #[.slice B m d, .agg #[.string tt, .bool tw], .bool false] W fun e w' => e = .returned (.bool (inD l (tt, tw) false)) ∧ Below W.heap.size W w' :=
    fun W h => T.in_any B m d l tt tw false W HL.out hm HM.out ht (HS.out.below h h.size)
  generalize inD l (tt, tw) false = im at *
  generalize (an || decide (0 < m)) = hq at *
  clear HS HL HM
  cases hq with
  | false =>
    by_cases h0 : ln = -1
    · rw [show sameD false an im s md ln = false by simp [sameD, h0]]
      go_enter Tryz.func45, Tryz.ntmps45
      go_wp2_with (go_at_call 31; with_reducible refine (hA _).mono ?_; rintro e w1 ⟨rfl, hb1⟩; obtain ⟨x0, x1, x2, x3, x4, x5, x6, x7, y0, y1, y2, y3, y4, y5, y6, y7, y8, y9, y10, z1, z2, B1⟩ := cd_md hb1)
      go_ret
      first | exact ⟨rfl, B1⟩ | exact ⟨T.ret_bool (by simp [*]), B1⟩
    · by_cases h1 : 0 ≤ md
      · by_cases h2 : md ≤ s
        · rw [show sameD false an im s md ln = true by simp [sameD, h0, h1, h2]]
          go_enter Tryz.func45, Tryz.ntmps45
          go_wp2_with (go_at_call 31; with_reducible refine (hA _).mono ?_; rintro e w1 ⟨rfl, hb1⟩; obtain ⟨x0, x1, x2, x3, x4, x5, x6, x7, y0, y1, y2, y3, y4, y5, y6, y7, y8, y9, y10, z1, z2, B1⟩ := cd_md hb1)
          go_ret
          first | exact ⟨rfl, B1⟩ | exact ⟨T.ret_bool (by simp [*]), B1⟩
        · rw [show sameD false an im s md ln = false by simp [sameD, h2]]
          go_enter Tryz.func45, Tryz.ntmps45
          go_wp2_with (go_at_call 31; with_reducible refine (hA _).mono ?_; rintro e w1 ⟨rfl, hb1⟩; obtain ⟨x0, x1, x2, x3, x4, x5, x6, x7, y0, y1, y2, y3, y4, y5, y6, y7, y8, y9, y10, z1, z2, B1⟩ := cd_md hb1)
          go_ret
          first | exact ⟨rfl, B1⟩ | exact ⟨T.ret_bool (by simp [*]), B1⟩
      · rw [show sameD false an im s md ln = false by simp [sameD, h1]]
        go_enter Tryz.func45, Tryz.ntmps45
        go_wp2_with (go_at_call 31; with_reducible refine (hA _).mono ?_; rintro e w1 ⟨rfl, hb1⟩; obtain ⟨x0, x1, x2, x3, x4, x5, x6, x7, y0, y1, y2, y3, y4, y5, y6, y7, y8, y9, y10, z1, z2, B1⟩ := cd_md hb1)
        go_ret
        first | exact ⟨rfl, B1⟩ | exact ⟨T.ret_bool (by simp [*]), B1⟩
  | true =>
    cases an with
    | true =>
      rw [show sameD true true im s md ln = true from rfl]
      go_enter Tryz.func45, Tryz.ntmps45
      go_wp2_with (go_at_call 31; with_reducible refine (hA _).mono ?_; rintro e w1 ⟨rfl, hb1⟩; obtain ⟨x0, x1, x2, x3, x4, x5, x6, x7, y0, y1, y2, y3, y4, y5, y6, y7, y8, y9, y10, z1, z2, B1⟩ := cd_md hb1)
      go_ret
      first | exact ⟨rfl, B1⟩ | exact ⟨T.ret_bool (by simp [*]), B1⟩
    | false =>
      have e : sameD true false im s md ln = im := by simp [sameD]
      rw [e]
      go_enter Tryz.func45, Tryz.ntmps45
      go_wp2_with (first
        | (go_at_call 31; with_reducible refine (hA _).mono ?_; rintro e w1 ⟨rfl, hb1⟩; obtain ⟨x0, x1, x2, x3, x4, x5, x6, x7, y0, y1, y2, y3, y4, y5, y6, y7, y8, y9, y10, z1, z2, B1⟩ := cd_md hb1)
        | (go_at_call 66; with_reducible refine (HI _ B1).mono ?_; rintro e w2 ⟨rfl, hb2⟩))
      go_ret
      exact ⟨rfl, B1.trans (hb2.mono B1.size)⟩
end Go.Proofs.YtomcoacndppkcaaGreatDoor
