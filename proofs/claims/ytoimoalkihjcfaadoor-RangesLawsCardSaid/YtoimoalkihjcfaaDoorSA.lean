/-
  Set.All: its spans one by one; the yields of RangesStops and RangesOf.
-/
import Derived.Test.YtoimoalkihjcfaaDoorRY
namespace Go.Proofs.YtoimoalkihjcfaaDoor
open Go Go.RowKit

set_option maxHeartbeats 1000000 in
theorem All_any (A : Option Addr) (n c : Nat) (w : World) :
    Calls Tryd.prog 15 #[.agg #[.slice A n c]] w fun e w' => e = .returned (.func (.func 45) #[] #[.pointer (some ⟨w.heap.size, 0, none⟩)]) ∧ w' = w.alloc (.cells #[.slice A n c] 26) := by
  have hmf : ∀ (fn : Fn) (first cap : Array Value) (w : World), (Instr.makeFunc fn first cap).run Tryd.prog w = .ok (.func fn first cap) w := fun _ _ _ _ => rfl
  go_enter Tryd.func15, Tryd.ntmps15
  go_wp2
  go_ret
  exact ⟨rfl, rfl⟩

set_option maxHeartbeats 4000000 in
set_option maxRecDepth 100000 in
theorem all_stops (go : Nat → Bool) (I : Nat → World → Prop) (p q : Value) (sb : Nat) (A : Option Addr) (n c : Nat) (l : List Sp) (hn : l.length = n) (hm : n ≤ 1000000)
    (hIa : ∀ k W o, I k W → I k (W.alloc o)) (hsb : ∀ W, I 0 W → W.cell? ⟨sb, 0, none⟩ = some (.slice A n c)) (hcell : ∀ k W, I k W → SpAt W W.heap.size A l)
    (hy : ∀ k (hk : k < l.length) W, I k W → Calls Tryd.prog 21 #[.agg #[.int .i64 l[k].1, .int .i64 l[k].2], p, q] W fun e w' => e = .returned (.bool (go k)) ∧ I (k + 1) w') (w : World) (hw : I 0 w) :
    Calls Tryd.prog 45 #[.func (.func 21) #[] #[p, q], .pointer (some ⟨sb, 0, none⟩)] w fun e w' =>
      e = .returned (.tuple #[]) ∧ ∃ r, r ≤ n ∧ (∀ j, j + 1 < r → go j = true) ∧ (r = n ∨ (0 < r ∧ go (r - 1) = false)) ∧ I r w' := by
  have HN := Lib.hid hn
  have hs0 := hsb w hw
  clear hn
  go_enter Tryd.func45, Tryd.ntmps45
  go_wp2
  go_loopw [8] (fun i wr => ∃ k : Nat, k ≤ n ∧ i = .int .i64 k ∧ I k wr ∧ Hid (∀ j, j < k → go j = true)) (fun i _ => n - (intOf i).toNat)
  case atStart => exact ⟨0, Nat.zero_le _, rfl, hw, fun j h => absurd h (Nat.not_lt_zero _)⟩
  case round =>
    obtain ⟨k, hk, rfl, hI, HG⟩ := hrel
    by_cases hlt : k < n
    · have hkl : k < l.length := by have := HN.out; omega
      obtain ⟨b, o, rfl, hbb, hc⟩ := (hcell k wr hI) (by omega)
      obtain ⟨c0, c1⟩ := hc k hkl
      clear hc
      have HY := Lib.hid (hy k hkl (wr.alloc (.cells #[.int .i64 l[k].1, .int .i64 l[k].2] 33)) (hIa _ _ _ hI))
      generalize l[k] = X at *
      obtain ⟨x, y⟩ := X
      simp only at HY c0 c1
      clear hI hIa hsb hcell hy hw
      cases hg : go k with
      | false =>
        rw [hg] at HY
        have HR : Hid (∀ j, j + 1 < k + 1 → go j = true) := fun j h => HG.out j (by omega)
        go_wp2_with (go_at_call 21; refine HY.out.mono ?_; rintro e w1 ⟨rfl, hI1⟩; have HI1 := Lib.hid hI1; clear hI1)
        refine bodyPost_ret (v := .tuple #[]) (by simp [results, Tryd.results45, go_sem]) rfl ?_
        exact ⟨rfl, k + 1, by omega, HR.out, .inr ⟨by omega, by simpa using hg⟩, HI1.out⟩
      | true =>
        rw [hg] at HY
        have HR : Hid (∀ j, j < k + 1 → go j = true) := fun j h => by
          by_cases e : j = k
          · subst e; exact hg
          · exact HG.out j (by omega)
        go_wp2_with (go_at_call 21; refine HY.out.mono ?_; rintro e w1 ⟨rfl, hI1⟩; have HI1 := Lib.hid hI1; clear hI1)
        go_roundw
        case rel => exact ⟨k + 1, by omega, by go_num, HI1.out, HR⟩
        case measure => simp [intOf]; omega
    · obtain rfl : k = n := by omega
      have HI := Lib.hid hI
      clear hI hIa hsb hcell hy hw
      go_wp2
      go_end0
      exact ⟨rfl, k, Nat.le_refl _, fun j h => HG.out j (by omega), .inl rfl, HI.out⟩

set_option maxHeartbeats 4000000 in
set_option maxRecDepth 100000 in
theorem all_of (go : Nat → Bool) (I : Nat → World → Prop) (p q : Value) (sb : Nat) (A : Option Addr) (n c : Nat) (l : List Sp) (hn : l.length = n) (hm : n ≤ 1000000)
    (hIa : ∀ k W o, I k W → I k (W.alloc o)) (hsb : ∀ W, I 0 W → W.cell? ⟨sb, 0, none⟩ = some (.slice A n c)) (hcell : ∀ k W, I k W → SpAt W W.heap.size A l)
    (hy : ∀ k (hk : k < l.length) W, I k W → Calls Tryd.prog 16 #[.agg #[.int .i64 l[k].1, .int .i64 l[k].2], p, q] W fun e w' => e = .returned (.bool (go k)) ∧ I (k + 1) w') (w : World) (hw : I 0 w) :
    Calls Tryd.prog 45 #[.func (.func 16) #[] #[p, q], .pointer (some ⟨sb, 0, none⟩)] w fun e w' =>
      e = .returned (.tuple #[]) ∧ ∃ r, r ≤ n ∧ (∀ j, j + 1 < r → go j = true) ∧ (r = n ∨ (0 < r ∧ go (r - 1) = false)) ∧ I r w' := by
  have HN := Lib.hid hn
  have hs0 := hsb w hw
  clear hn
  go_enter Tryd.func45, Tryd.ntmps45
  go_wp2
  go_loopw [8] (fun i wr => ∃ k : Nat, k ≤ n ∧ i = .int .i64 k ∧ I k wr ∧ Hid (∀ j, j < k → go j = true)) (fun i _ => n - (intOf i).toNat)
  case atStart => exact ⟨0, Nat.zero_le _, rfl, hw, fun j h => absurd h (Nat.not_lt_zero _)⟩
  case round =>
    obtain ⟨k, hk, rfl, hI, HG⟩ := hrel
    by_cases hlt : k < n
    · have hkl : k < l.length := by have := HN.out; omega
      obtain ⟨b, o, rfl, hbb, hc⟩ := (hcell k wr hI) (by omega)
      obtain ⟨c0, c1⟩ := hc k hkl
      clear hc
      have HY := Lib.hid (hy k hkl (wr.alloc (.cells #[.int .i64 l[k].1, .int .i64 l[k].2] 33)) (hIa _ _ _ hI))
      generalize l[k] = X at *
      obtain ⟨x, y⟩ := X
      simp only at HY c0 c1
      clear hI hIa hsb hcell hy hw
      cases hg : go k with
      | false =>
        rw [hg] at HY
        have HR : Hid (∀ j, j + 1 < k + 1 → go j = true) := fun j h => HG.out j (by omega)
        go_wp2_with (go_at_call 16; refine HY.out.mono ?_; rintro e w1 ⟨rfl, hI1⟩; have HI1 := Lib.hid hI1; clear hI1)
        refine bodyPost_ret (v := .tuple #[]) (by simp [results, Tryd.results45, go_sem]) rfl ?_
        exact ⟨rfl, k + 1, by omega, HR.out, .inr ⟨by omega, by simpa using hg⟩, HI1.out⟩
      | true =>
        rw [hg] at HY
        have HR : Hid (∀ j, j < k + 1 → go j = true) := fun j h => by
          by_cases e : j = k
          · subst e; exact hg
          · exact HG.out j (by omega)
        go_wp2_with (go_at_call 16; refine HY.out.mono ?_; rintro e w1 ⟨rfl, hI1⟩; have HI1 := Lib.hid hI1; clear hI1)
        go_roundw
        case rel => exact ⟨k + 1, by omega, by go_num, HI1.out, HR⟩
        case measure => simp [intOf]; omega
    · obtain rfl : k = n := by omega
      have HI := Lib.hid hI
      clear hI hIa hsb hcell hy hw
      go_wp2
      go_end0
      exact ⟨rfl, k, Nat.le_refl _, fun j h => HG.out j (by omega), .inl rfl, HI.out⟩

/- all blocks but one as before -/
abbrev But (p : Nat) (W W' : World) : Prop := W.grownBy W' (some p)
theorem But.tr {p : Nat} {a b c : World} (h : But p a b) (k : But p b c) : But p a c :=
  ⟨k.os.trans h.os, k.tape.trans h.tape, k.output.trans h.output, Nat.le_trans h.size k.size, fun i hi hne => (k.block i (Nat.lt_of_lt_of_le hi h.size) hne).trans (h.block i hi hne)⟩
theorem But.ext {p : Nat} {a b : World} (h : Ext a b) : But p a b := ⟨h.os, h.tape, h.output, h.size, fun i hi _ => h.block i hi⟩
theorem But.set (p : Nat) (W : World) (v : Value) : But p W (W.setCell ⟨p, 0, none⟩ v) := ⟨rfl, rfl, rfl, by simp, fun k _ hk => Below.heap_setCell _ _ _ k (fun e => hk (by rw [e]))⟩
theorem But.cell {p b o : Nat} {W W' : World} (h : But p W W') (hb : b < W.heap.size) (hne : b ≠ p) : W'.cell? ⟨b, o, none⟩ = W.cell? ⟨b, o, none⟩ :=
  World.cell?_of_block (h.block b hb (fun e => hne (Option.some.inj e)))
/-- a variable of one cell -/
def Box (W : World) (p : Nat) (t : TypeId) (v : Value) : Prop := W.heap[p]? = some (.cells #[v] t (0, 0))
theorem Box.lt {W : World} {p : Nat} {t : TypeId} {v : Value} (h : Box W p t v) : p < W.heap.size := (Array.getElem?_eq_some_iff.1 h).1
theorem Box.cell {W : World} {p : Nat} {t : TypeId} {v : Value} (h : Box W p t v) : W.cell? ⟨p, 0, none⟩ = some v := by simp [World.cell?, show W.heap[p]? = _ from h]
theorem Box.free {W : World} {p : Nat} {t : TypeId} {v : Value} (h : Box W p t v) : W.frozen? ⟨p, 0, none⟩ = false := by simp [World.frozen?, show W.heap[p]? = _ from h]
theorem Box.no {W : World} {p k : Nat} {t : TypeId} {v : Value} (h : Box W p t v) : W.cell? ⟨p, k + 1, none⟩ = none := by simp [World.cell?, show W.heap[p]? = _ from h]
theorem Box.ext {W W' : World} {p : Nat} {t : TypeId} {v : Value} (h : Box W p t v) (e : Ext W W') : Box W' p t v := (e.block p h.lt).trans h
theorem Box.new (W : World) (t : TypeId) (v : Value) : Box (W.alloc (.cells #[v] t)) W.heap.size t v := heap_alloc_new W _
theorem Box.set {W : World} {p : Nat} {t : TypeId} {v : Value} (v' : Value) (h : Box W p t v) : Box (W.setCell ⟨p, 0, none⟩ v') p t v' := by
  obtain ⟨hlt, hk⟩ := Array.getElem?_eq_some_iff.1 h
  show (W.heap.modify p _)[p]? = _
  rw [Array.getElem?_eq_getElem (by rw [Array.size_modify]; exact hlt), Array.getElem_modify_self, hk]
  rfl
theorem SpAt.but {p : Nat} {W W' : World} {t : TypeId} {v : Value} {A : Option Addr} {l : List Sp} (h : SpAt W W.heap.size A l) (hp : Box W p t v) (hb : But p W W') : SpAt W' W'.heap.size A l := fun h0 => by
  obtain ⟨b, o, e, hbb, hc⟩ := h h0
  have hne : b ≠ p := by
    rintro rfl
    have := (hc 0 h0).2
    rw [hp.no] at this; cases this
  exact ⟨b, o, e, Nat.lt_of_lt_of_le hbb hb.size, fun j hj => ⟨(hb.cell hbb hne).trans (hc j hj).1, (hb.cell hbb hne).trans (hc j hj).2⟩⟩

set_option maxHeartbeats 2000000 in
theorem stops_clo (p q : Nat) (x y m : Int) (a : Nat) (W : World) (ha : a ≤ 1000000) (hp : Box W p 3 (.int .i64 a)) (hq : W.cell? ⟨q, 0, none⟩ = some (.int .i64 m)) (hqz : q < W.heap.size) (hpq : q ≠ p) :
    Calls Tryd.prog 21 #[.agg #[.int .i64 x, .int .i64 y], .pointer (some ⟨p, 0, none⟩), .pointer (some ⟨q, 0, none⟩)] W fun e w' =>
      e = .returned (.bool (decide ((a : Int) + 1 < m))) ∧ Box w' p 3 (.int .i64 (a + 1 : Nat)) ∧ But p W w' := by
  have hp0 := hp.cell
  have hpf := hp.free
  have hpz := hp.lt
  have e1 : Ext W (W.alloc (.cells #[.int .i64 x, .int .i64 y] 33)) := (Below.refl _ _).alloc (Nat.le_refl _) _
  have HB : Hid (Box ((W.setCell ⟨p, 0, none⟩ (.int .i64 ((a : Int) + 1))).alloc (.cells #[.int .i64 x, .int .i64 y] 33)) p 3 (.int .i64 (a + 1 : Nat))) := (hp.set _).ext ((Below.refl _ _).alloc (Nat.le_refl _) _)
  have HT : Hid (But p W ((W.setCell ⟨p, 0, none⟩ (.int .i64 ((a : Int) + 1))).alloc (.cells #[.int .i64 x, .int .i64 y] 33))) := (But.set p _ _).tr (But.ext ((Below.refl _ _).alloc (Nat.le_refl _) _))
  clear e1 hp
  go_enter Tryd.func21, Tryd.ntmps21
  go_wp2
  go_ret
  exact ⟨rfl, HB.out, HT.out⟩
end Go.Proofs.YtoimoalkihjcfaaDoor
