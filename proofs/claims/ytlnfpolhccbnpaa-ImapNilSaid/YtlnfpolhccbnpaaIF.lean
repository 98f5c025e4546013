/-
  New, Len, All of a map; the runs that All tells, by two functions; the reference's Same.
-/
import Derived.Test.YtlnfpolhccbnpaaIP
namespace Go.Proofs.Ytlnfpolhccbnpaa
open Go Go.RowKit

set_option maxHeartbeats 1000000 in
theorem new_any (w : World) : Calls Try.prog 34 #[] w fun e w' => e = .returned (.pointer (some ⟨w.heap.size, 0, none⟩)) ∧ w' = w.alloc (.cells #[.slice none 0 0] 73) := by
  go_enter Try.func34, Try.ntmps34
  go_wp2
  go_ret
  exact ⟨rfl, rfl⟩
theorem new_map (w : World) : MapAt (w.alloc (.cells #[.slice none 0 0] 73)) w.heap.size w.heap.size none 0 0 [] := ⟨Box.new w _ _, World.ownsRow_nil _ _ _ _, fun k hk => by simp [Value.ownBlock] at hk⟩
set_option maxHeartbeats 1000000 in
theorem len_map (M : Value) (A : Option Addr) (n c : Nat) (w : World) (hM : Lists M w A n c) :
    Calls Try.prog 14 #[M] w fun e w' => e = .returned (.int .i64 n) ∧ w' = w := by
  have HL := Lib.hid (hM w (Ext.rf w))
  go_enter Try.func14, Try.ntmps14
  go_wp2_with (go_at_call 37; refine (Hid.out HL).mono ?_; rintro e w1 ⟨rfl, rfl⟩)
  go_ret
  exact ⟨rfl, rfl⟩
theorem RnAt.news {w : World} {B : Nat} {a : Addr} {l : List Rn} (h : RnAt w B (some a) l) : ∀ j u, (flatR l)[j]? = some u → w.cell? (a.add j) = some u := fun j u hj => by
  have hjl : j < l.length * 3 := by rw [← flatR_len]; exact (List.getElem?_eq_some_iff.1 hj).1
  obtain ⟨b, off, e, hb, hc⟩ := h (by omega)
  obtain rfl := Option.some.inj e
  obtain ⟨c0, c1, c2⟩ := hc (j / 3) (by omega)
  obtain ⟨d0, d1, d2⟩ := flatR_get l (j / 3) (by omega)
  rw [Addr.add_lit]
  rcases (by omega : j % 3 = 0 ∨ j % 3 = 1 ∨ j % 3 = 2) with h0 | h0 | h0
  · rw [show j = j / 3 * 3 by omega] at hj ⊢
    rw [c0, ← d0]; exact hj
  · rw [show j = j / 3 * 3 + 1 by omega] at hj ⊢
    rw [← Nat.add_assoc, c1, ← d1]; exact hj
  · rw [show j = j / 3 * 3 + 2 by omega] at hj ⊢
    rw [← Nat.add_assoc, c2, ← d2]; exact hj
theorem OwnR.nil_at (w : World) (base : Nat) (hb : base ≤ w.heap.size) : OwnR (w.alloc (.cells #[] 81)) base (.slice (some ⟨w.heap.size, 0, none⟩) 0 0) [] :=
  World.ownsRow_made w #[] 0 hb (Nat.zero_le _) (by simp)

set_option maxHeartbeats 2000000 in
theorem cloneR_any (A : Option Addr) (n c : Nat) (l : List Rn) (w : World) (hn : l.length = n) (hm : n ≤ 1000000) (hs : RnAt w w.heap.size A l) :
    Calls Try.prog 49 #[.slice A n c] w fun e w' => ∃ A' c', e = .returned (.slice A' n c') ∧ OwnR w' w.heap.size (.slice A' n c') l ∧ Ext w w' := by
  subst hn
  have q : ∀ (w : World) (a : Option Addr) (n c n' c' : Nat), (binOp .eql 71 (.slice a n c) (.slice none n' c')).run Try.prog w = .ok (.bool a.isNone) w := fun w a n c n' c' => Lib.run_eql_slice_nil w _ _ a n c n' c' Try.underlying71
  have HS := Lib.hid hs
  clear hs
  obtain ⟨i0, hi, hz0, hz1, hz2⟩ := info_parts infoRn
  cases A with
  | none =>
    have hl : l = [] := by
      rcases Nat.eq_zero_or_pos l.length with h0 | h0
      · exact List.eq_nil_of_length_eq_zero h0
      · obtain ⟨_, _, e, _⟩ := HS.out h0; cases e
    subst hl
    go_enter Try.func49, Try.ntmps49
    go_wp2
    go_ret
    exact ⟨Option.none, 0, rfl, World.ownsRow_nil _ _ _ _, Ext.rf _⟩
  | some ad =>
    have e0 : Ext w (w.alloc (.cells #[] 81)) := (Below.refl _ _).alloc (Nat.le_refl _) _
    obtain ⟨v', w', hr, ho, hgr, _⟩ := run_append_own (P := Try.prog) (w.alloc (.cells #[] 81)) w.heap.size 71 71 81 i0 _ 3 24 Try.underlying71 hi hz0 hz1 hz2 rfl (by omega) _ 0 (flatR []) (OwnR.nil_at w _ (Nat.le_refl _)) ad l.length c (flatR l) (flatR_len l) (RnAt.news (HS.out.ext e0)) (flatR_one l) (by unfold maxLen; omega) (by omega) (by simp)
    have hE : Ext w w' := e0.grown hgr (by simp) (fun k hk => by simp only [Value.ownBlock] at hk; injection hk with hk; omega)
    have ho' : OwnR w' w.heap.size v' l := by
      unfold OwnR
      simpa [flatR] using ho
    obtain ⟨A', c', rfl⟩ : ∃ A' c', v' = .slice A' l.length c' := by
      rcases ho'.2 with ⟨e, h0⟩ | ⟨g', c', _, e, _⟩
      · exact ⟨Option.none, 0, by rw [h0]; exact e⟩
      · exact ⟨_, c', e⟩
    have HO := Lib.hid ho'; have HE := Lib.hid hE
    clear ho ho' hE hgr
    go_enter Try.func49, Try.ntmps49
    go_wp2_with (at_builtin; refine Lib.wpList_append_run _ rfl _ _ _ _ rfl _ _ rfl rfl _ _ hr ?_)
    go_ret
    exact ⟨A', c', rfl, HO.out, HE.out⟩

set_option maxHeartbeats 1000000 in
theorem through_any (A : Option Addr) (n c : Nat) (w : World) :
    Calls Try.prog 44 #[.slice A n c] w fun e w' => e = .returned (.func (.func 59) #[] #[.pointer (some ⟨w.heap.size, 0, none⟩)]) ∧ w' = w.alloc (.cells #[.slice A n c] 71) := by
  have hmf : ∀ (fn : Fn) (first cap : Array Value) (w : World), (Instr.makeFunc fn first cap).run Try.prog w = .ok (.func fn first cap) w := fun _ _ _ _ => rfl
  go_enter Try.func44, Try.ntmps44
  go_wp2
  go_ret
  exact ⟨rfl, rfl⟩
set_option maxHeartbeats 2000000 in
/-- All: a function over a copy of its own -/
theorem All_map (M : Value) (A : Option Addr) (n c : Nat) (l : List Rn) (w : World) (hM : Lists M w A n c) (hn : l.length = n) (hm : n ≤ 1000000) (hs : RnAt w w.heap.size A l) :
    Calls Try.prog 27 #[M] w fun e w' => ∃ A' c' p, e = .returned (.func (.func 59) #[] #[.pointer (some ⟨p, 0, none⟩)]) ∧ Box w' p 71 (.slice A' n c') ∧ OwnR w' w.heap.size (.slice A' n c') l ∧ w.heap.size ≤ p ∧ Ext w w' := by
  have HL := Lib.hid (hM w (Ext.rf w))
  have HC := Lib.hid (cloneR_any A n c l w hn hm hs)
  clear hM hs
  go_enter Try.func27, Try.ntmps27
  go_wp2_with (first
    | (go_at_call 37; refine (Hid.out HL).mono ?_; rintro e w1 ⟨rfl, rfl⟩)
    | (go_at_call 49; refine (Hid.out HC).mono ?_; rintro e w1 ⟨A', c', rfl, ho, E1⟩; have HO := Lib.hid ho; clear ho)
    | (go_at_call 44; refine (through_any A' n c' _).mono ?_; rintro e w2 ⟨rfl, rfl⟩))
  go_ret
  have e2 : Ext w1 (w1.alloc (.cells #[.slice A' n c'] 71)) := (Below.refl _ _).alloc (Nat.le_refl _) _
  exact ⟨A', c', _, rfl, Box.new w1 _ _, OwnR.ext HO.out e2, E1.size, Ext.tr E1 e2⟩

set_option maxHeartbeats 4000000 in
set_option maxRecDepth 100000 in
theorem thr_all (go : Nat → Bool) (I : Nat → World → Prop) (cap : Array Value) (sb : Nat) (A : Option Addr) (n c : Nat) (l : List Rn) (hn : l.length = n) (hm : n ≤ 1000000)
    (hIa : ∀ k W o, I k W → I k (W.alloc o)) (hsb : ∀ W, I 0 W → W.cell? ⟨sb, 0, none⟩ = some (.slice A n c)) (hcell : ∀ k W, I k W → RnAt W W.heap.size A l)
    (hy : ∀ k (hk : k < l.length) W, I k W → Calls Try.prog 38 (#[.agg #[.int .i64 l[k].1, .int .i64 l[k].2.1], .int .i64 l[k].2.2] ++ cap) W fun e w' => e = .returned (.bool (go k)) ∧ I (k + 1) w') (w : World) (hw : I 0 w) :
    Calls Try.prog 59 #[.func (.func 38) #[] cap, .pointer (some ⟨sb, 0, none⟩)] w fun e w' =>
      e = .returned (.tuple #[]) ∧ ∃ r, r ≤ n ∧ (∀ j, j + 1 < r → go j = true) ∧ (r = n ∨ (0 < r ∧ go (r - 1) = false)) ∧ I r w' := by
  have HN := Lib.hid hn
  have hs0 := hsb w hw
  clear hn
  go_enter Try.func59, Try.ntmps59
  go_wp2
  go_loopw [7] (fun i wr => ∃ k : Nat, k ≤ n ∧ i = .int .i64 k ∧ I k wr ∧ Hid (∀ j, j < k → go j = true)) (fun i _ => n - (intOf i).toNat)
  case atStart => exact ⟨0, Nat.zero_le _, rfl, hw, fun j h => absurd h (Nat.not_lt_zero _)⟩
  case round =>
    obtain ⟨k, hk, rfl, hI, HG⟩ := hrel
    by_cases hlt : k < n
    · have hkl : k < l.length := by have := HN.out; omega
      obtain ⟨b, o, rfl, hbb, hc⟩ := (hcell k wr hI) (by omega)
      obtain ⟨c0, c1, c2⟩ := hc k hkl
      clear hc
      have HY := Lib.hid (hy k hkl (wr.alloc (.cells #[.int .i64 l[k].1, .int .i64 l[k].2.1, .int .i64 l[k].2.2] 81)) (hIa _ _ _ hI))
      generalize l[k] = X at *
      obtain ⟨x, y, z⟩ := X
      simp only at HY c0 c1 c2
      clear hI hIa hsb hcell hy hw
      cases hg : go k with
      | false =>
        rw [hg] at HY
        have HR : Hid (∀ j, j + 1 < k + 1 → go j = true) := fun j h => HG.out j (by omega)
        go_wp2_with (go_at_call 38; refine HY.out.mono ?_; rintro e w1 ⟨rfl, hI1⟩; have HI1 := Lib.hid hI1; clear hI1)
        refine bodyPost_ret (v := .tuple #[]) (by simp [results, Try.results59, go_sem]) rfl ?_
        exact ⟨rfl, k + 1, by omega, HR.out, .inr ⟨by omega, by simpa using hg⟩, HI1.out⟩
      | true =>
        rw [hg] at HY
        have HR : Hid (∀ j, j < k + 1 → go j = true) := fun j h => by
          by_cases e : j = k
          · subst e; exact hg
          · exact HG.out j (by omega)
        go_wp2_with (go_at_call 38; refine HY.out.mono ?_; rintro e w1 ⟨rfl, hI1⟩; have HI1 := Lib.hid hI1; clear hI1)
        go_roundw
        case rel => exact ⟨k + 1, by omega, by go_num, HI1.out, HR⟩
        case measure => simp [intOf]; omega
    · obtain rfl : k = n := by omega
      have HI := Lib.hid hI
      clear hI hIa hsb hcell hy hw
      go_wp2
      go_end0
      exact ⟨rfl, k, Nat.le_refl _, fun j h => HG.out j (by omega), .inl rfl, HI.out⟩

set_option maxHeartbeats 4000000 in
set_option maxRecDepth 100000 in
theorem thr_stops (go : Nat → Bool) (I : Nat → World → Prop) (cap : Array Value) (sb : Nat) (A : Option Addr) (n c : Nat) (l : List Rn) (hn : l.length = n) (hm : n ≤ 1000000)
    (hIa : ∀ k W o, I k W → I k (W.alloc o)) (hsb : ∀ W, I 0 W → W.cell? ⟨sb, 0, none⟩ = some (.slice A n c)) (hcell : ∀ k W, I k W → RnAt W W.heap.size A l)
    (hy : ∀ k (hk : k < l.length) W, I k W → Calls Try.prog 33 (#[.agg #[.int .i64 l[k].1, .int .i64 l[k].2.1], .int .i64 l[k].2.2] ++ cap) W fun e w' => e = .returned (.bool (go k)) ∧ I (k + 1) w') (w : World) (hw : I 0 w) :
    Calls Try.prog 59 #[.func (.func 33) #[] cap, .pointer (some ⟨sb, 0, none⟩)] w fun e w' =>
      e = .returned (.tuple #[]) ∧ ∃ r, r ≤ n ∧ (∀ j, j + 1 < r → go j = true) ∧ (r = n ∨ (0 < r ∧ go (r - 1) = false)) ∧ I r w' := by
  have HN := Lib.hid hn
  have hs0 := hsb w hw
  clear hn
  go_enter Try.func59, Try.ntmps59
  go_wp2
  go_loopw [7] (fun i wr => ∃ k : Nat, k ≤ n ∧ i = .int .i64 k ∧ I k wr ∧ Hid (∀ j, j < k → go j = true)) (fun i _ => n - (intOf i).toNat)
  case atStart => exact ⟨0, Nat.zero_le _, rfl, hw, fun j h => absurd h (Nat.not_lt_zero _)⟩
  case round =>
    obtain ⟨k, hk, rfl, hI, HG⟩ := hrel
    by_cases hlt : k < n
    · have hkl : k < l.length := by have := HN.out; omega
      obtain ⟨b, o, rfl, hbb, hc⟩ := (hcell k wr hI) (by omega)
      obtain ⟨c0, c1, c2⟩ := hc k hkl
      clear hc
      have HY := Lib.hid (hy k hkl (wr.alloc (.cells #[.int .i64 l[k].1, .int .i64 l[k].2.1, .int .i64 l[k].2.2] 81)) (hIa _ _ _ hI))
      generalize l[k] = X at *
      obtain ⟨x, y, z⟩ := X
      simp only at HY c0 c1 c2
      clear hI hIa hsb hcell hy hw
      cases hg : go k with
      | false =>
        rw [hg] at HY
        have HR : Hid (∀ j, j + 1 < k + 1 → go j = true) := fun j h => HG.out j (by omega)
        go_wp2_with (go_at_call 33; refine HY.out.mono ?_; rintro e w1 ⟨rfl, hI1⟩; have HI1 := Lib.hid hI1; clear hI1)
        refine bodyPost_ret (v := .tuple #[]) (by simp [results, Try.results59, go_sem]) rfl ?_
        exact ⟨rfl, k + 1, by omega, HR.out, .inr ⟨by omega, by simpa using hg⟩, HI1.out⟩
      | true =>
        rw [hg] at HY
        have HR : Hid (∀ j, j < k + 1 → go j = true) := fun j h => by
          by_cases e : j = k
          · subst e; exact hg
          · exact HG.out j (by omega)
        go_wp2_with (go_at_call 33; refine HY.out.mono ?_; rintro e w1 ⟨rfl, hI1⟩; have HI1 := Lib.hid hI1; clear hI1)
        go_roundw
        case rel => exact ⟨k + 1, by omega, by go_num, HI1.out, HR⟩
        case measure => simp [intOf]; omega
    · obtain rfl : k = n := by omega
      have HI := Lib.hid hI
      clear hI hIa hsb hcell hy hw
      go_wp2
      go_end0
      exact ⟨rfl, k, Nat.le_refl _, fun j h => HG.out j (by omega), .inl rfl, HI.out⟩
end Go.Proofs.Ytlnfpolhccbnpaa
