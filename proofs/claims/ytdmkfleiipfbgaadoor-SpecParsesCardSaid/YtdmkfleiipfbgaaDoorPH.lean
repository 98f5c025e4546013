/-
  spec.Fold: the search of the span that has a byte; spans made fewer, as a plain function of lists.
-/
import Derived.Lib.QuietBelow
import Derived.OneCell
import Derived.Test.YtdmkfleiipfbgaaDoorNA
import Derived.Test.YtdmkfleiipfbgaaDoorPC
namespace Go.Proofs.YtdmkfleiipfbgaaDoor
open Go Go.RowKit
open Go.Sort (grow)

set_option maxHeartbeats 4000000 in
theorem fold_clo (b2 b3 n c i : Nat) (A : Option Addr) (l : List Sp) (p : Int) (W : World) (hn : l.length = n) (hi : i < n) (hbig : n ≤ 1000000) (hs : SpAt W W.heap.size A l) (h2 : W.cell? ⟨b2, 0, none⟩ = some (.slice A n c)) (h3 : W.cell? ⟨b3, 0, none⟩ = some (.int .i64 p)) :
    Calls Tryd.prog 53 #[.int .i64 i, .pointer (some ⟨b2, 0, none⟩), .pointer (some ⟨b3, 0, none⟩)] W fun e w' => e = .returned (.bool (decide (p < toOf l i))) ∧ ∃ q os', w' = grow (W.drewN q) os' := by
  have hil : i < l.length := by omega
  obtain ⟨b, o, rfl, hb, hc⟩ := hs (by omega)
  obtain ⟨-, c1⟩ := hc i hil
  clear hc hs
  have HT := Lib.hid (toOf_get hil)
  generalize l[i].2 = t at *
  have HN := Lib.hid hn
  clear hn
  have q1 : (i : Int) < (n : Int) := by omega
  by_cases h : p < t
  · have HF : Hid (decide (p < toOf l i) = true) := by unfold Hid; rw [HT.out]; simpa using h
    clear HT
    go_enter Tryd.func53, Tryd.ntmps53
    go_wp2
    go_quiet (fail)
    go_wp2
    go_ret
    exact ⟨ret_bool HF.out.symm, nq, #[], by rw [Go.Sort.grow_empty]⟩
  · have HF : Hid (decide (p < toOf l i) = false) := by unfold Hid; rw [HT.out]; simpa using h
    have hd : decide (p < t) = false := by simpa using h
    clear HT
    go_enter Tryd.func53, Tryd.ntmps53
    go_wp2
    go_quiet (fail)
    go_wp2
    go_ret
    exact ⟨ret_bool HF.out.symm, nq, #[], by rw [Go.Sort.grow_empty]⟩

/-- the place of the first span that ends behind p -/
def SeekPost (l : List Sp) (p : Int) (W w' : World) (e : Ending) : Prop :=
  ∃ i : Nat, e = .returned (.int .i64 i) ∧ i ≤ l.length ∧ (∀ j (h : j < l.length), j < i → l[j].2 ≤ p) ∧ (∀ j (h : j < l.length), i ≤ j → p < l[j].2) ∧ Below W.heap.size W w'

set_option maxHeartbeats 4000000 in
theorem seek_any (b2 b3 n c : Nat) (A : Option Addr) (l : List Sp) (p : Int) (W : World) (hn : l.length = n) (hbig : n ≤ 1000000) (hca : Canon l) (hs : SpAt W W.heap.size A l) (k2 : W.cell? ⟨b2, 0, none⟩ = some (.slice A n c)) (k3 : W.cell? ⟨b3, 0, none⟩ = some (.int .i64 p)) :
    Calls Tryd.prog 52 #[.int .i64 n, .func (.func 53) #[] #[.pointer (some ⟨b2, 0, none⟩), .pointer (some ⟨b3, 0, none⟩)]] W fun e w' => SeekPost l p W w' e := by
  have eg : ∀ args w, (callFunc 53 args).run Tryd.prog w = .ok (.enter 53 args) w := enters_of Tryd.func53 (by kernel_rfl) rfl
  have mono : ∀ a b, a ≤ b → b < n → decide (p < toOf l a) = true → decide (p < toOf l b) = true := fun a b hab hb h => by
    have ha : a < l.length := by omega
    have hb' : b < l.length := by omega
    rw [toOf_get ha] at h; rw [toOf_get hb']
    simp only [decide_eq_true_eq] at h ⊢
    rcases Nat.lt_or_ge a b with hlt | hge
    · have := hca.rise hlt hb'; have := hca.at_ hb'; omega
    · have : a = b := by omega
      subst this; exact h
  have h := Any.sort_Search Tryd.searchA 53 #[.pointer (some ⟨b2, 0, none⟩), .pointer (some ⟨b3, 0, none⟩)] n (fun i => decide (p < toOf l i)) W eg (by omega) (fun m os i hi => by
      have eW : Ext W (grow (W.drewN m) os) := below_grown_sl _ W m os (Nat.le_refl _)
      exact fold_clo b2 b3 n c i A l p _ hn hi hbig (hs.below eW eW.size) (by rw [eW.cell (p := ⟨b2, 0, none⟩) (block_lt_of_cell k2)]; exact k2) (by rw [eW.cell (p := ⟨b3, 0, none⟩) (block_lt_of_cell k3)]; exact k3)) mono
  change Calls Tryd.prog 52 _ _ _ at h
  refine h.mono fun e w' ⟨he, q, os, hw⟩ => ?_
  obtain ⟨s1, s2, s3⟩ := cnt_spec (fun i => decide (p < toOf l i)) n mono
  refine ⟨_, he, by omega, fun j hj hlt => ?_, fun j hj hge => ?_, ?_⟩
  · have := s2 j hlt
    simp only [decide_eq_false_iff_not] at this
    rw [toOf_get hj] at this; omega
  · have := s3 j hge (by omega)
    simp only [decide_eq_true_eq] at this
    rwa [toOf_get hj] at this
  · subst hw; exact below_grown_sl _ W q os (Nat.le_refl _)

/-- the span of a list that has a byte -/
def compS (wd : List Sp) (p : Int) : Option Sp := wd.find? fun y => hasB y.1 y.2 p
def stepF (wd out : List Sp) (x : Sp) : List Sp := match compS wd x.1 with
  | some y => if y ∈ out then out else out ++ [y]
  | Option.none => out
/-- the spans of wd, each where the first one of l stands that begins in it -/
def foldF (wd l : List Sp) : List Sp := l.foldl (stepF wd) []
theorem foldF_take {wd l : List Sp} {k : Nat} (h : k < l.length) : foldF wd (l.take (k + 1)) = stepF wd (foldF wd (l.take k)) l[k] := by
  unfold foldF; rw [List.take_succ_eq_append_getElem h, List.foldl_append]; rfl
theorem foldF_len (wd : List Sp) : ∀ (l out : List Sp), (l.foldl (stepF wd) out).length ≤ out.length + l.length
  | [], out => by simp
  | x :: l, out => by
    have := foldF_len wd l (stepF wd out x)
    have h2 : (stepF wd out x).length ≤ out.length + 1 := by
      unfold stepF
      split
      · split
        · omega
        · simp
      · omega
    simp only [List.foldl_cons, List.length_cons]; omega
theorem Canon.same {l : List Sp} (h : Canon l) {y z : Sp} {p : Int} (hy : y ∈ l) (hz : z ∈ l) (h1 : InS y p) (h2 : InS z p) : y = z := by
  obtain ⟨i, hi, rfl⟩ := List.getElem_of_mem hy
  obtain ⟨j, hj, rfl⟩ := List.getElem_of_mem hz
  unfold InS at h1 h2
  rcases Nat.lt_trichotomy i j with hlt | rfl | hlt
  · have := h.rise hlt hj; omega
  · rfl
  · have := h.rise hlt hi; omega
theorem compS_some {wd : List Sp} (h : Canon wd) {y : Sp} {p : Int} (hy : y ∈ wd) (hp : InS y p) : compS wd p = some y := by
  unfold compS
  cases e : wd.find? fun y => hasB y.1 y.2 p with
  | none =>
    have := List.find?_eq_none.1 e y hy
    exact absurd (hasB_iff.2 hp) this
  | some z =>
    have h1 := List.find?_some e
    have h2 := List.mem_of_find?_eq_some e
    rw [h.same hy h2 hp (hasB_iff.1 h1)]
theorem compS_none {wd : List Sp} {p : Int} (h : ¬ InL wd p) : compS wd p = Option.none := by
  unfold compS
  rw [List.find?_eq_none]
  intro y hy hp
  exact h ⟨y, hy, hasB_iff.1 hp⟩
theorem Canon.inj {l : List Sp} (h : Canon l) {i j : Nat} (hi : i < l.length) (hj : j < l.length) (e : l[i] = l[j]) : i = j := by
  rcases Nat.lt_trichotomy i j with hlt | rfl | hlt
  · have a := h.rise hlt hj; have b := h.at_ hi; rw [e] at a b; omega
  · rfl
  · have a := h.rise hlt hi; have b := h.at_ hj; rw [e] at a; omega

/-- whether each span of wd stands in out -/
def StB (wd out : List Sp) (bs : List Bool) : Prop := bs.length = wd.length ∧ ∀ j (h : j < wd.length), bs[j]? = some (decide (wd[j] ∈ out))
theorem StB.more {wd out : List Sp} {bs : List Bool} (hc : Canon wd) (h : StB wd out bs) {i : Nat} (hi : i < wd.length) : StB wd (out ++ [wd[i]]) (bs.set i true) := by
  refine ⟨by simpa using h.1, fun j hj => ?_⟩
  by_cases e : i = j
  · subst e
    rw [List.getElem?_set_self (by rw [h.1]; exact hi)]; simp
  · rw [List.getElem?_set_ne e, h.2 j hj]
    have : wd[j] ≠ wd[i] := fun e2 => e (hc.inj hj hi e2).symm
    simp [this]
end Go.Proofs.YtdmkfleiipfbgaaDoor
