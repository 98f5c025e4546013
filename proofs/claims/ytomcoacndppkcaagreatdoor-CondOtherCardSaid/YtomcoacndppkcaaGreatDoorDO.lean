/-
  The day of a tick, of the program.
-/
import Derived.Test.YtomcoacndppkcaaGreatDoorDC
import Derived.Test.YtomcoacndppkcaaGreatDoorShelf
import Derived.Shelf.SlSorted.Search
import Derived.Deep.RegionHeld3
namespace Go.Proofs.YtomcoacndppkcaaGreatDoor.D
open Go Go.RowKit
open Go.Sort (grow)

theorem still_tail {P : Program} {id : Nat} {Q : Exit → Act → World → Prop} {a : Act} {w : World} {l : List Oper} (n : Nat) (hm : P.follows .mixedOrders = true) (hB : Region.lexTailB .any l.toArray n = true) (w8 : World) (hw : w8 = w.drew)
    (h : wpStill P l.toArray w8 (fun a' => wpList P l.toArray Q (l.drop n) a' w8) (l.take n) a) : (Code.region id l.toArray true).wp P Q a w := by
  subst hw
  exact wp_region_still_tail n hm hB h

/- how many are still false -/
theorem cnt_spec (p : Nat → Bool) : ∀ n, (∀ a b, a ≤ b → b < n → p a = true → p b = true) →
    (List.range n).countP (fun i => !p i) ≤ n ∧ (∀ j, j < (List.range n).countP (fun i => !p i) → p j = false) ∧ (∀ j, (List.range n).countP (fun i => !p i) ≤ j → j < n → p j = true)
  | 0, _ => ⟨by simp, fun j h => by simp at h, fun j _ h => by omega⟩
  | n + 1, h => by
    obtain ⟨h1, h2, h3⟩ := cnt_spec p n (fun a b hab hb => h a b hab (by omega))
    rw [List.range_succ, List.countP_append]
    cases hp : p n with
    | true =>
      simp only [List.countP_cons, List.countP_nil, hp]
      refine ⟨by simp; omega, fun j hj => h2 j (by simpa using hj), fun j hj hn => ?_⟩
      by_cases e : j = n
      · subst e; exact hp
      · exact h3 j (by simpa using hj) (by omega)
    | false =>
      have all : ∀ j, j < n → p j = false := fun j hj => by
        cases hj' : p j with
        | false => rfl
        | true => rw [h j n (by omega) (by omega) hj'] at hp; cases hp
      have e : (List.range n).countP (fun i => !p i) = n := by
        refine Nat.le_antisymm h1 (Nat.le_of_not_lt fun hlt => ?_)
        have := h3 _ (Nat.le_refl _) hlt
        rw [all _ hlt] at this; cases this
      simp only [List.countP_cons, List.countP_nil, hp, e]
      refine ⟨by simp, fun j hj => ?_, fun j hj hn => ?_⟩
      · simp at hj
        by_cases e' : j = n
        · subst e'; exact hp
        · exact all j (by omega)
      · simp at hj; omega

/-- is a year's end behind a day -/
def yrP (n : Int) (i : Nat) : Bool := decide (n < ahead (1970 + i + 1))

set_option maxHeartbeats 1000000 in
theorem of_clo (b : Nat) (n : Int) (i : Nat) (W : World) (hi : i < 8029) (hc : W.cell? ⟨b, 0, none⟩ = some (.int .i64 n)) :
    Calls Tryz.prog 84 #[.int .i64 i, .pointer (some ⟨b, 0, none⟩)] W fun e w' => e = .returned (.bool (yrP n i)) ∧ ∃ q os', w' = grow (W.drewN q) os' := by
  have hA := fun W => (ahead_any (1970 + (i : Int) + 1) W (by omega) (by omega))
  have HF : Hid (yrP n i = decide (n < ahead (1970 + i + 1))) := Lib.hid rfl
  generalize ahead (1970 + (i : Int) + 1) = A at *
  by_cases h : n < A
  · go_enter Tryz.func84, Tryz.ntmps84
    go_wp2
    have s1 : IntKind.i64.wrap (1970 + (i : Int)) = 1970 + i := IntWalk.i64_in _ (by omega)
    have s2 : IntKind.i64.wrap (1970 + (i : Int) + 1) = 1970 + i + 1 := IntWalk.i64_in _ (by omega)
    go_quiet ((go_at_call 85; exact Calls.quiet_of_same ((hA _).mono fun _ _ h => ⟨h.1, h.2.symm⟩)))
    clear s1 s2
    go_wp2
    go_ret
    exact ⟨ret_bool (by rw [HF.out]; simp [h]), nq, #[], by rw [Go.Sort.grow_empty]⟩
  · have hd : decide (n < A) = false := by simpa using h
    go_enter Tryz.func84, Tryz.ntmps84
    go_wp2
    have s1 : IntKind.i64.wrap (1970 + (i : Int)) = 1970 + i := IntWalk.i64_in _ (by omega)
    have s2 : IntKind.i64.wrap (1970 + (i : Int) + 1) = 1970 + i + 1 := IntWalk.i64_in _ (by omega)
    go_quiet ((go_at_call 85; exact Calls.quiet_of_same ((hA _).mono fun _ _ h => ⟨h.1, h.2.symm⟩)))
    clear s1 s2
    go_wp2
    go_ret
    exact ⟨ret_bool (by rw [HF.out, hd]), nq, #[], by rw [Go.Sort.grow_empty]⟩

/-- where the search ends -/
def SrchPost (n : Int) (W : World) (e : Ending) (w' : World) : Prop := ∃ i : Nat, e = .returned (.int .i64 i) ∧ 1970 + (i : Int) = yO n ∧ Below W.heap.size W w'
theorem search_any (b : Nat) (n : Int) (W : World) (n0 : 0 ≤ n) (n9 : n ≤ 2932896) (hb : b < W.heap.size) (hc : W.cell? ⟨b, 0, none⟩ = some (.int .i64 n)) :
    Calls Tryz.prog 83 #[.int .i64 8029, .func (.func 84) #[] #[.pointer (some ⟨b, 0, none⟩)]] W (SrchPost n W) := by
  have mono : ∀ a b, a ≤ b → b < 8029 → yrP n a = true → yrP n b = true := fun a b hab hb h => by
    unfold yrP at h ⊢
    simp only [decide_eq_true_eq] at h ⊢
    have := ahead_mono (show (1970 + (a : Int) + 1) ≤ 1970 + b + 1 by omega)
    omega
  have eg : ∀ args w, (callFunc 84 args).run Tryz.prog w = .ok (.enter 84 args) w := enters_of Tryz.func84 (by kernel_rfl) rfl
  have h := Any.sort_Search Tryz.searchA 84 #[.pointer (some ⟨b, 0, none⟩)] 8029 (yrP n) W eg (by omega) (fun m os i hi => by
      have eW : Ext W (grow (W.drewN m) os) := below_grown_sl _ W m os (Nat.le_refl _)
      exact of_clo b n i _ hi (by rw [eW.cell (p := ⟨b, 0, none⟩) hb]; exact hc)) mono
  change Calls Tryz.prog 83 _ _ _ at h
  refine h.mono fun e w' ⟨he, q, os, hw⟩ => ?_
  obtain ⟨c1, c2, c3⟩ := cnt_spec (yrP n) 8029 mono
  generalize (List.range 8029).countP (fun i => !yrP n i) = r at *
  refine ⟨r, he, ?_, by subst hw; exact below_grown_sl _ W q os (Nat.le_refl _)⟩
  have s := yrO_spec n0 n9
  symm
  refine year_uniq ?_ ?_ n0 n9
  · rcases Nat.eq_zero_or_pos r with h0 | h0
    · subst h0; rw [show (1970 + ((0 : Nat) : Int)) = 1970 by rfl, ahead_1970]; exact n0
    · have := c2 (r - 1) (by omega)
      unfold yrP at this
      simp only [decide_eq_false_iff_not] at this
      rw [show (1970 + ((r - 1 : Nat) : Int) + 1) = 1970 + r by omega] at this
      omega
  · rcases Nat.lt_or_ge r 8029 with h9 | h9
    · have := c3 r (Nat.le_refl _) h9
      unfold yrP at this
      simpa using this
    · have e : r = 8029 := by omega
      subst e
      show n < ahead 10000
      rw [ahead_10000]; omega
end Go.Proofs.YtomcoacndppkcaaGreatDoor.D
