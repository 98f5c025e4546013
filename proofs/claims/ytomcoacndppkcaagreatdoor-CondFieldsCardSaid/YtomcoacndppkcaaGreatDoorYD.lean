/-
  Which conditions are right, by the program and by the reference; the fields of conditions, by the program.
-/
import Derived.Test.YtomcoacndppkcaaGreatDoorRegion
import Derived.Test.YtomcoacndppkcaaGreatDoorWA
import Derived.Test.YtomcoacndppkcaaGreatDoorVA
import Derived.Test.YtomcoacndppkcaaGreatDoorDY
import Derived.Deep.Cut
import Derived.Deep.CutRange
import Derived.Deep.DeepCutAuto
import Derived.Test.YtomcoacndppkcaaGreatDoorVB
import Derived.Test.YtomcoacndppkcaaGreatDoorTO
namespace Go.Proofs.YtomcoacndppkcaaGreatDoor.S
open Go Go.RowKit

section
variable (P : Program) (ops : Array Oper) (rels : Nat → Rl) (w : World) (m : Nat)

def walkT (Q : Exit → Act → World → Prop) : Nat → List Oper → Act → Prop
  | _, [], a => ∀ W, Ext w W → (∀ j d, j < m → (ops[j]?).bind (·.dst) = some d → (rels j).ok (a.tmps.getD d undef) W) → wpList P ops Q (ops.toList.drop m) a W
  | k, o :: l, a => stepM P ops rels w o k a ∧ ∀ v, (match rels k with | .val c => v = c | .rel _ => True) → walkT Q (k + 1) l (a.put o.dst v)

/-- what an operation waits for, through so many others -/
def aftL (k : Nat) : List Nat := match ops[k]? with
  | none => []
  | some o => (o.after.toList.filter fun e => Region.binds .any e).map (·.on)
def reachL : Nat → List Nat → List Nat
  | 0, S => S
  | f + 1, S => reachL f (S ++ S.flatMap (aftL ops))
theorem reachL_in {p : Nat → Prop} (hp : ∀ k, p k → ∀ i ∈ aftL ops k, p i) : ∀ (f : Nat) (S : List Nat), (∀ i ∈ S, p i) → ∀ i ∈ reachL ops f S, p i
  | 0, S, h, i, hi => h i hi
  | f + 1, S, h, i, hi => reachL_in hp f _ (fun j hj => by
      rcases List.mem_append.1 hj with hj | hj
      · exact h j hj
      · obtain ⟨k, hk, hkj⟩ := List.mem_flatMap.1 hj
        exact hp k (h k hk) j hkj) i hi
def okTB (n : Nat) : Bool :=
  Region.noSelect ops && decide (m ≤ ops.size) && (List.range ops.size).all fun j => match ops[j]? with
    | none => true
    | some o =>
      (decide (m ≤ j) || (match o.dst with | none => false | some d => decide (d < n))) && o.after.all (fun e => !Region.binds .any e || decide (e.on < j)) &&
      (decide (j < m) || (List.range j).all fun k => (reachL ops 3 (aftL ops j)).contains k) &&
      (List.range ops.size).all fun k => match ops[k]? with
        | none => true
        | some p => (k == j || o.dst == none || o.dst != p.dst) && (match p.dst with
          | none => true
          | some t => !(o.looksAt ops).contains t || k == j || (if k < j then o.after.any (fun e => Region.binds .any e && e.on == k) else p.after.any (fun e => Region.binds .any e && e.on == j)))

structure OkT (n : Nat) : Prop where
  le : m ≤ ops.size
  sel : ∀ (j : Nat) (o : Oper) (cs : Array SelectCase) (b : Bool), ops[j]? = some o → o.op ≠ .select cs b
  dst : ∀ (j : Nat) (o : Oper), j < m → ops[j]? = some o → ∃ d, o.dst = some d ∧ d < n
  low : ∀ (j : Nat) (o : Oper) (e : Edge), ops[j]? = some o → e ∈ o.after → Region.binds .any e = true → e.on < j
  all : ∀ (j : Nat) (o : Oper) (k : Nat) (p : Nat → Prop), m ≤ j → ops[j]? = some o → k < j → (∀ e ∈ o.after, Region.binds .any e = true → p e.on) → (∀ (i : Nat) (q : Oper), ops[i]? = some q → p i → ∀ e ∈ q.after, Region.binds .any e = true → p e.on) → p k
  uniq : ∀ (j : Nat) (o : Oper) (k : Nat) (p : Oper) (d : Tmp), ops[j]? = some o → ops[k]? = some p → k ≠ j → o.dst = some d → p.dst ≠ some d
  new : ∀ (j : Nat) (o : Oper) (k : Nat) (p : Oper) (t : Tmp), ops[j]? = some o → ops[k]? = some p → p.dst = some t → t ∈ o.looksAt ops → k < j → ∃ e ∈ o.after, Region.binds .any e = true ∧ e.on = k
  old : ∀ (j : Nat) (o : Oper) (k : Nat) (p : Oper) (t : Tmp), ops[j]? = some o → ops[k]? = some p → p.dst = some t → t ∈ o.looksAt ops → j < k → ∃ e ∈ p.after, Region.binds .any e = true ∧ e.on = j

variable {P ops rels w m}
theorem okT_of {n : Nat} (h : okTB ops m n = true) : OkT ops m n := by
  unfold okTB at h
  rw [Bool.and_eq_true, Bool.and_eq_true] at h
  obtain ⟨⟨hs, hle⟩, h⟩ := h
  rw [List.all_eq_true] at h
  have lt : ∀ j o, ops[j]? = some o → j < ops.size := fun j o ho => (Array.getElem?_eq_some_iff.1 ho).1
  have H := fun j o (ho : ops[j]? = some o) => by
    have := h j (List.mem_range.2 (lt j o ho))
    simp only [ho, Bool.and_eq_true] at this
    exact this
  have H2 := fun j o (ho : ops[j]? = some o) k p (hp : ops[k]? = some p) => by
    have := List.all_eq_true.1 (H j o ho).2 k (List.mem_range.2 (lt k p hp))
    simp only [hp, Bool.and_eq_true] at this
    exact this
  refine ⟨by simpa using hle, Region.noSelect_spec hs, fun j o hj ho => ?_, fun j o e ho he hb => ?_, fun j o k p hm ho hk hs1 hs2 => ?_, fun j o k p d ho hp hne hd heq => ?_, fun j o k p t ho hp ht hl hkj => ?_, fun j o k p t ho hp ht hl hjk => ?_⟩
  · have := (H j o ho).1.1.1
    have hmj : decide (m ≤ j) = false := by simp; omega
    rw [hmj, Bool.false_or] at this
    cases hd : o.dst with
    | none => rw [hd] at this; cases this
    | some d => rw [hd] at this; exact ⟨d, rfl, by simpa using this⟩
  · have := Array.all_eq_true_iff_forall_mem.1 (H j o ho).1.1.2 e he
    simpa [hb] using this
  · have := (H j o ho).1.2
    have hmj : decide (j < m) = false := by simp; omega
    rw [hmj, Bool.false_or, List.all_eq_true] at this
    have := this k (List.mem_range.2 hk)
    have hmem : k ∈ reachL ops 3 (aftL ops j) := by simpa using this
    refine reachL_in ops (p := p) (fun i hi x hx => ?_) 3 _ (fun x hx => ?_) k hmem
    · unfold aftL at hx
      cases hq : ops[i]? with
      | none => rw [hq] at hx; cases hx
      | some q =>
        rw [hq] at hx
        obtain ⟨e, he, rfl⟩ := List.mem_map.1 hx
        obtain ⟨he1, he2⟩ := List.mem_filter.1 he
        exact hs2 i q hq hi e (by simpa using he1) he2
    · unfold aftL at hx
      rw [ho] at hx
      obtain ⟨e, he, rfl⟩ := List.mem_map.1 hx
      obtain ⟨he1, he2⟩ := List.mem_filter.1 he
      exact hs1 e (by simpa using he1) he2
  · have := (H2 j o ho k p hp).1
    simp [hne, heq, hd] at this
  · have := (H2 j o ho k p hp).2
    simp only [ht] at this
    have hc : (o.looksAt ops).contains t = true := by simpa using hl
    have hkj' : (k == j) = false := by simp; omega
    rw [hc, hkj', if_pos hkj] at this
    simp only [Bool.not_true, Bool.false_or, Array.any_eq_true, Bool.and_eq_true, beq_iff_eq] at this
    obtain ⟨i, hi, h1, h2⟩ := this
    exact ⟨_, Array.getElem_mem hi, h1, h2⟩
  · have := (H2 j o ho k p hp).2
    simp only [ht] at this
    have hc : (o.looksAt ops).contains t = true := by simpa using hl
    have hkj' : (k == j) = false := by simp; omega
    rw [hc, hkj', if_neg (by omega)] at this
    simp only [Bool.not_true, Bool.false_or, Array.any_eq_true, Bool.and_eq_true, beq_iff_eq] at this
    obtain ⟨i, hi, h1, h2⟩ := this
    exact ⟨_, Array.getElem_mem hi, h1, h2⟩

theorem symT_hit {n : Nat} (O : OkT ops m n) (vals : Nat → Value) (a : Act) (hn : a.tmps.size = n) {t : Tmp} {k : Nat} {p : Oper} (hk : k < m) (hp : ops[k]? = some p) (ht : p.dst = some t) : ∀ j, k < j → (symM ops vals a j).tmps[t]? = some (vals k)
  | 0, h => by omega
  | j + 1, h => by
    obtain ⟨d, hd, hdn⟩ := O.dst k p hk hp
    rw [ht] at hd
    obtain rfl := Option.some.inj hd
    simp only [symM]
    by_cases hkj : k = j
    · subst hkj
      simp only [hp, ht]
      exact put_same _ _ (by rw [sym_size, hn]; exact hdn)
    · have ih := symT_hit O vals a hn hk hp ht j (by omega)
      split
      · rename_i o ho
        rw [put_other _ _ (O.uniq k p j o t hp ho (by omega) ht)]; exact ih
      · exact ih
theorem walkT_steps {Q : Exit → Act → World → Prop} (vals : Nat → Value) (hv : ∀ k c, rels k = .val c → vals k = c) (a : Act) : ∀ (l : List Oper) (k : Nat), (∀ j o, l[j]? = some o → ops[k + j]? = some o) → k + l.length = m → walkT P ops rels w m Q k l (symM ops vals a k) →
    (∀ j o, k ≤ j → j < m → ops[j]? = some o → stepM P ops rels w o j (symM ops vals a j)) ∧ (∀ W, Ext w W → (∀ j d, j < m → (ops[j]?).bind (·.dst) = some d → (rels j).ok ((symM ops vals a m).tmps.getD d undef) W) → wpList P ops Q (ops.toList.drop m) (symM ops vals a m) W)
  | [], k, hl, hm, h => by
    simp at hm; subst hm
    exact ⟨fun j o hj hjm ho => by omega, h⟩
  | o :: l, k, hl, hm, h => by
    have h0 : ops[k]? = some o := by simpa using hl 0 o rfl
    obtain ⟨h1, h2⟩ := h
    have e : symM ops vals a (k + 1) = (symM ops vals a k).put o.dst (vals k) := by simp only [symM, h0]
    have h3 := h2 (vals k) (by
      cases hr : rels k with
      | val c => exact hv k c hr
      | rel _ => trivial)
    rw [← e] at h3
    obtain ⟨i1, i2⟩ := walkT_steps vals hv a l (k + 1) (fun j p hp => by have := hl (j + 1) p (by simpa using hp); simpa [Nat.add_assoc, Nat.add_comm 1 j] using this) (by simp at hm; omega) h3
    refine ⟨fun j p hj hjm hp => ?_, i2⟩
    by_cases hjk : j = k
    · subst hjk
      rw [h0] at hp
      obtain rfl := Option.some.inj hp
      exact h1
    · exact i1 j p (by omega) hjm hp

theorem sameT_looks {n : Nat} (O : OkT ops m n) {a0 a : Act} (hn : a0.tmps.size = n) {listed : Array Bool} {W : World} (I : InvM ops rels w a0 listed a W) (hT : ∀ k, m ≤ k → listed[k]? ≠ some true) {j : Nat} {o : Oper} (hjm : j < m) (hj : ops[j]? = some o)
    (hun : listed[j]? = some false) (hall : ∀ e ∈ o.after, Region.binds .any e = true → listed[e.on]? = some true) (t : Tmp) (ht : t ∈ o.looksAt ops) :
    (symM ops (valM rels ops a) a0 j).tmps[t]? = a.tmps[t]? := by
  by_cases hw : ∃ (k : Nat) (p : Oper), ops[k]? = some p ∧ p.dst = some t
  · obtain ⟨k, p, hp, hd⟩ := hw
    have only : ∀ (k' : Nat) (p' : Oper), ops[k']? = some p' → p'.dst = some t → k' = k := fun k' p' hp' hd' => by
      refine Classical.byContradiction fun hne => O.uniq k p k' p' t hp hp' hne hd hd'
    rcases Nat.lt_or_ge k j with hkj | hkj
    · obtain ⟨e, he, hb, hon⟩ := O.new j o k p t hj hp hd ht hkj
      have hl := hall e he hb
      rw [hon] at hl
      obtain ⟨d, hd', hdn⟩ := O.dst k p (by omega) hp
      rw [hd] at hd'
      obtain rfl := Option.some.inj hd'
      rw [symT_hit O _ a0 hn (by omega) hp hd j hkj, valM_ok I hp hd hl]
      have : t < a.tmps.size := by rw [I.size, hn]; exact hdn
      rw [getD_of, Array.getElem?_eq_getElem this]; rfl
    · have hk : listed[k]? ≠ some true := fun hl => by
        by_cases hkj' : k = j
        · subst hkj'; rw [hun] at hl; cases hl
        · by_cases hkm : m ≤ k
          · exact hT k hkm hl
          obtain ⟨e, he, hb, hon⟩ := O.old j o k p t hj hp hd ht (by omega)
          have := I.shut k p hp hl e he hb
          rw [hon, hun] at this; cases this
      rw [sym_miss _ _ j fun k' p' hk' hp' hd' => by have := only k' p' hp' hd'; omega]
      exact (I.old t fun k' p' hp' hl' hd' => by have := only k' p' hp' hd'; subst this; exact hk hl').symm
  · rw [sym_miss _ _ j fun k p _ hp hd => hw ⟨k, p, hp, hd⟩]
    exact (I.old t fun k p hp _ hd => hw ⟨k, p, hp, hd⟩).symm

theorem invT_next {n : Nat} (O : OkT ops m n) (hst : ∀ k, (rels k).stable) {a0 a : Act} (hn : a0.tmps.size = n) {listed : Array Bool} {W W' : World} (I : InvM ops rels w a0 listed a W) {j : Nat} {o : Oper} (hjm : j < m) (hj : ops[j]? = some o)
    (hun : listed[j]? = some false) (hall : ∀ e ∈ o.after, Region.binds .any e = true → listed[e.on]? = some true) {v : Value} (he : Ext W W') (hv : (rels j).ok v W') :
    InvM ops rels w a0 (listed.setIfInBounds j true) (a.put o.dst v) W' := by
  obtain ⟨d, hd, hdn⟩ := O.dst j o hjm hj
  have hjl : j < listed.size := (Array.getElem?_eq_some_iff.1 hun).1
  have look : ∀ k, (listed.setIfInBounds j true)[k]? = some true → k ≠ j → listed[k]? = some true := fun k hk hne => by
    rwa [Array.getElem?_setIfInBounds_ne (Ne.symm hne)] at hk
  have up : ∀ k, listed[k]? = some true → (listed.setIfInBounds j true)[k]? = some true := fun k hk => by
    by_cases hkj : k = j
    · rw [hkj, Array.getElem?_setIfInBounds_self_of_lt hjl]
    · rw [Array.getElem?_setIfInBounds_ne (Ne.symm hkj)]; exact hk
  refine ⟨I.ext.tr he, by simp [I.len], by rw [put_defers]; exact I.defers, by rw [put_size]; exact I.size, fun k p t hp ht hl => ?_, fun t ht => ?_, fun k p hp hl e hea hb => ?_⟩
  · by_cases hkj : k = j
    · subst hkj
      rw [hj] at hp
      obtain rfl := Option.some.inj hp
      rw [hd] at ht
      obtain rfl := Option.some.inj ht
      rw [getD_of, hd, put_same _ _ (by rw [I.size, hn]; exact hdn)]
      exact hv
    · rw [getD_of, put_other _ _ (O.uniq k p j o t hp hj (Ne.symm hkj) ht), ← getD_of]
      exact Rl.keep (hst k) (I.ok k p t hp ht (look k hl hkj)) he
  · rw [put_other _ _ (ht j o hj (by simp [hjl]))]
    exact I.old t fun k p hp hl => ht k p hp (up k hl)
  · by_cases hkj : k = j
    · subst hkj
      rw [hj] at hp
      obtain rfl := Option.some.inj hp
      exact up _ (hall e hea hb)
    · exact up _ (I.shut k p hp (look k hl hkj) e hea hb)

/-- the tail: whatever is unlisted waits for all ahead of it -/
theorem wpAny_tail {n : Nat} {Q : Exit → Act → World → Prop} (O : OkT ops m n) : ∀ (fuel k : Nat) (listed : Array Bool) (a : Act) (W : World), m ≤ k → k ≤ ops.size → listed.size = ops.size → ops.size ≤ fuel + k → (∀ j, j < ops.size → listed[j]? = some (decide (j < k))) →
    wpList P ops Q (ops.toList.drop k) a W → wpAny P .any ops Q fuel listed a W := by
  intro fuel
  induction fuel with
  | zero =>
    intro k listed a W hmk hks hlen hf hl h
    have e : k = ops.size := by omega
    subst e
    rw [List.drop_of_length_le (by simp)] at h
    refine ⟨List.eq_nil_iff_forall_not_mem.2 fun j hj => ?_, h⟩
    obtain ⟨h1, o, ho, _⟩ := mem_ready.1 hj
    have hjs := (Array.getElem?_eq_some_iff.1 ho).1
    have := hl j hjs
    simp [hjs, this] at h1
  | succ fuel ih =>
    intro k listed a W hmk hks hlen hf hl h
    rcases Nat.lt_or_ge k ops.size with hk | hk
    · have ho : ops[k]? = some ops[k] := Array.getElem?_eq_getElem hk
      have hd : ops.toList.drop k = ops[k] :: ops.toList.drop (k + 1) := by rw [List.drop_eq_getElem_cons (by simpa using hk)]; rfl
      rw [hd] at h
      have hkr : k ∈ Region.ready .any ops listed := mem_ready.2 ⟨by have := hl k hk; rw [Array.getElem?_eq_getElem (by omega)] at this; simp [hlen, hk] at this ⊢; exact this, _, ho, fun e he hb => by
        have hlo := O.low k _ e ho he hb
        have := hl e.on (by omega)
        rw [Array.getElem?_eq_getElem (by omega)] at this
        simp [hlo, hlen, show e.on < ops.size by omega] at this ⊢; exact this⟩
      refine ⟨fun h0 => (by rw [h0] at hkr; cases hkr), fun i hi => ?_⟩
      have hik : i = k := by
        obtain ⟨h1, o, hoi, h2⟩ := mem_ready.1 hi
        have his := (Array.getElem?_eq_some_iff.1 hoi).1
        have hge : k ≤ i := by
          refine Nat.le_of_not_lt fun hlt => ?_
          have := hl i his
          rw [Array.getElem?_eq_getElem (by omega)] at this
          simp [hlt, hlen, his] at this h1
          rw [this] at h1; cases h1
        rcases Nat.lt_or_ge k i with hlt | hge'
        · have h3 : (listed[k]?).getD false = true := O.all i o k (fun x => (listed[x]?).getD false = true) (by omega) hoi hlt (fun e he hb => by have h6 := h2 e he hb; simpa [Array.getD_eq_getD_getElem?] using h6) (fun x q hq hx e he hb => by
            have hxs := (Array.getElem?_eq_some_iff.1 hq).1
            have hlow := O.low x q e hq he hb
            have h4 := hl x hxs
            have h5 := hl e.on (by omega)
            simp only [h4, h5, Option.getD_some, decide_eq_true_eq] at hx ⊢
            omega)
          have := hl k hk
          rw [Array.getElem?_eq_getElem (by omega)] at this
          simp [hlen, hk] at this h3
          rw [this] at h3; cases h3
        · omega
      subst hik
      have nx : ∀ a' W', wpList P ops Q (ops.toList.drop (i + 1)) a' W' → wpAny P .any ops Q fuel (listed.setIfInBounds i true) a' W' := fun a' W' h' => by
        refine ih (i + 1) _ a' W' (by omega) (by omega) (by simp [hlen]) (by omega) (fun j hj => ?_) h'
        by_cases hji : j = i
        · subst hji; rw [Array.getElem?_setIfInBounds_self_of_lt (by omega)]; simp
        · rw [Array.getElem?_setIfInBounds_ne (Ne.symm hji), hl j hj]; simp; omega
      unfold wpOp
      simp only [ho]
      unfold wpList at h
      by_cases hwt : Region.wanted ops[i] (yielded ops a.tmps) = true
      · rw [if_pos hwt] at h ⊢
        exact h.imp (fun h => Oper.wp_mono nx h) id
      · rw [if_neg hwt] at h ⊢
        exact nx _ _ h
    · have e : k = ops.size := by omega
      subst e
      rw [List.drop_of_length_le (by simp)] at h
      refine ⟨fun _ => h, fun j hj => ?_⟩
      obtain ⟨h1, o, ho, _⟩ := mem_ready.1 hj
      have hjs := (Array.getElem?_eq_some_iff.1 ho).1
      have := hl j hjs
      simp [hjs, this] at h1

theorem wpAny_madeT {n : Nat} {Q : Exit → Act → World → Prop} (O : OkT ops m n) (hst : ∀ k, (rels k).stable) {a0 : Act} (hn : a0.tmps.size = n) (hw : walkT P ops rels w m Q 0 (ops.toList.take m) a0) :
    ∀ (fuel : Nat) (listed : Array Bool) (a : Act) (W : World), InvM ops rels w a0 listed a W → (∀ k, m ≤ k → k < ops.size → listed[k]? = some false) → (List.range ops.size).countP (fun j => listed[j]? == some false) ≤ fuel → wpAny P .any ops Q fuel listed a W := by
  have hlen : 0 + (ops.toList.take m).length = m := by have := O.le; simp; omega
  have htk : ∀ j o, (ops.toList.take m)[j]? = some o → ops[0 + j]? = some o := fun j o h => by
    rw [List.getElem?_take] at h
    split at h
    · simpa using h
    · cases h
  have cntT : ∀ (listed : Array Bool), (∀ k, m ≤ k → k < ops.size → listed[k]? = some false) → ops.size ≤ (List.range ops.size).countP (fun j => listed[j]? == some false) + m := fun listed hT => by
    have e : List.range ops.size = List.range' 0 m ++ List.range' m (ops.size - m) := by
      rw [List.range_eq_range']
      have := List.range'_append_1 (s := 0) (m := m) (n := ops.size - m)
      rw [Nat.zero_add, show m + (ops.size - m) = ops.size by have := O.le; omega] at this
      exact this.symm
    rw [e, List.countP_append]
    have : (List.range' m (ops.size - m)).countP (fun j => listed[j]? == some false) = ops.size - m := by
      have h := (List.countP_eq_length (p := fun j => listed[j]? == some false) (l := List.range' m (ops.size - m))).2 (fun j hj => by
        have hj' := List.mem_range'_1.1 hj
        rw [hT j (by omega) (by omega)]; rfl)
      rw [h]; simp
    omega
  have fin : ∀ (fuel : Nat) (listed : Array Bool) (a : Act) (W : World), InvM ops rels w a0 listed a W → (∀ k, m ≤ k → k < ops.size → listed[k]? = some false) → (∀ j, j < m → listed[j]? = some true) → ops.size ≤ fuel + m → wpAny P .any ops Q fuel listed a W := fun fuel listed a W I hT hall hf => by
    have h := (walkT_steps (valM rels ops a) (fun k c hk => by simp [valM, hk]) a0 (ops.toList.take m) 0 htk hlen hw).2
    have e : symM ops (valM rels ops a) a0 m = a := by
      have e1 : (symM ops (valM rels ops a) a0 m).tmps = a.tmps := by
        refine Array.ext_getElem? fun t => ?_
        by_cases hw : ∃ (k : Nat) (p : Oper), k < m ∧ ops[k]? = some p ∧ p.dst = some t
        · obtain ⟨k, p, hk, hp, hd⟩ := hw
          obtain ⟨d, hd', hdn⟩ := O.dst k p hk hp
          rw [hd] at hd'
          obtain rfl := Option.some.inj hd'
          have : t < a.tmps.size := by rw [I.size, hn]; exact hdn
          rw [symT_hit O _ a0 hn hk hp hd _ hk, valM_ok I hp hd (hall k hk), getD_of, Array.getElem?_eq_getElem this]; rfl
        · rw [sym_miss _ _ _ fun k p hk hp hd => hw ⟨k, p, hk, hp, hd⟩]
          refine (I.old t fun k p hp hl hd => ?_).symm
          rcases Nat.lt_or_ge k m with hk | hk
          · exact hw ⟨k, p, hk, hp, hd⟩
          · rw [hT k hk (Array.getElem?_eq_some_iff.1 hp).1] at hl; cases hl
      have e2 : (symM ops (valM rels ops a) a0 m).defers = a.defers := by rw [sym_defers, I.defers]
      generalize symM ops (valM rels ops a) a0 m = b at e1 e2
      cases a; cases b; simp_all
    rw [e] at h
    refine wpAny_tail O fuel m listed a W (Nat.le_refl _) O.le I.len hf (fun j hj => ?_) (h W I.ext fun j d hjm hd => ?_)
    · rcases Nat.lt_or_ge j m with hjm | hjm
      · rw [hall j hjm]; simp [hjm]
      · rw [hT j hjm hj]; simp; omega
    · cases hj : ops[j]? with
      | none => rw [hj] at hd; cases hd
      | some o =>
        rw [hj] at hd
        exact I.ok j o d hj hd (hall j hjm)
  intro fuel
  induction fuel with
  | zero =>
    intro listed a W I hT hc
    have hsz := cntT listed hT
    refine fin 0 listed a W I hT (fun j hj => ?_) (by omega)
    have hjs : j < ops.size := by have := O.le; omega
    have hz : (List.range ops.size).countP (fun j => listed[j]? == some false) = 0 := by omega
    rw [List.countP_eq_zero] at hz
    have := hz j (List.mem_range.2 hjs)
    rw [Array.getElem?_eq_getElem (show j < listed.size by rw [I.len]; exact hjs)] at this ⊢
    cases hb : listed[j]'(by rw [I.len]; exact hjs) with
    | true => rfl
    | false => rw [hb] at this; simp at this
  | succ fuel ih =>
    intro listed a W I hT hc
    by_cases hall0 : ∀ j, j < m → listed[j]? = some true
    · exact fin _ listed a W I hT hall0 (by have := cntT listed hT; omega)
    have hgap : ∃ j, j < m ∧ listed[j]? = some false := by
      refine Classical.byContradiction fun hno => hall0 fun j hj => ?_
      have hjs : j < listed.size := by rw [I.len]; have := O.le; omega
      rw [Array.getElem?_eq_getElem hjs]
      cases hb : listed[j] with
      | true => rfl
      | false => exact absurd ⟨j, hj, by rw [Array.getElem?_eq_getElem hjs, hb]⟩ hno
    obtain ⟨g, hgm, hg⟩ := hgap
    have lowest : ∃ j, j ∈ Region.ready .any ops listed := by
      have : ∀ j, j < m → listed[j]? = some false → ∃ i, i ∈ Region.ready .any ops listed := by
        intro j
        induction j using Nat.strongRecOn with
        | ind j ihj =>
          intro hj hf
          have hjs : j < ops.size := by have := O.le; omega
          have ho : ops[j]? = some ops[j] := Array.getElem?_eq_getElem hjs
          by_cases hfree : ∀ e ∈ (ops[j]).after, Region.binds .any e = true → listed[e.on]? = some true
          · refine ⟨j, mem_ready.2 ⟨by simp [hf], _, ho, fun e he hb => ?_⟩⟩
            have := hfree e he hb
            simp [this]
          · have ⟨e, he, hb, hne⟩ : ∃ e ∈ (ops[j]).after, Region.binds .any e = true ∧ listed[e.on]? ≠ some true := by
              refine Classical.byContradiction fun hno => hfree fun e he hb => Classical.byContradiction fun h => hno ⟨e, he, hb, h⟩
            have hlo := O.low j _ e ho he hb
            have hes : e.on < listed.size := by rw [I.len]; omega
            refine ihj e.on hlo (by omega) ?_
            rw [Array.getElem?_eq_getElem hes] at hne ⊢
            cases hb' : listed[e.on] with
            | true => rw [hb'] at hne; exact absurd rfl hne
            | false => rfl
      exact this g hgm hg
    refine ⟨fun h0 => (by obtain ⟨j, hj⟩ := lowest; rw [h0] at hj; cases hj), fun j hj => ?_⟩
    obtain ⟨h1, o, ho, h2⟩ := mem_ready.1 hj
    have hjs : j < ops.size := (Array.getElem?_eq_some_iff.1 ho).1
    have hun : listed[j]? = some false := by
      have hjl : j < listed.size := by rw [I.len]; exact hjs
      rw [Array.getElem?_eq_getElem hjl]
      simp [hjl] at h1; rw [h1]
    have hall : ∀ e ∈ o.after, Region.binds .any e = true → listed[e.on]? = some true := fun e he hb => by
      have h3 := h2 e he hb
      rcases Nat.lt_or_ge e.on listed.size with h' | h'
      · rw [Array.getElem?_eq_getElem h']; simp [h'] at h3; rw [h3]
      · simp [Array.getElem?_eq_none h'] at h3
    have hjm : j < m := by
      refine Nat.lt_of_not_le fun hge => ?_
      have := O.all j o g (fun x => listed[x]? = some true) hge ho (by omega) hall (fun x q hq hx e he hb => I.shut x q hq hx e he hb)
      rw [hg] at this; cases this
    have cnt : (List.range ops.size).countP (fun i => (listed.setIfInBounds j true)[i]? == some false) ≤ fuel := by
      have : (List.range ops.size).countP (fun i => (listed.setIfInBounds j true)[i]? == some false) < (List.range ops.size).countP (fun i => listed[i]? == some false) := by
        refine countP_less ?_ (List.mem_range.2 hjs) ?_ ?_
        · intro i hi
          by_cases hij : i = j
          · subst hij; simp [(show i < listed.size by rw [I.len]; exact hjs)] at hi
          · rwa [Array.getElem?_setIfInBounds_ne (Ne.symm hij)] at hi
        · simp [hun]
        · simp [(show j < listed.size by rw [I.len]; exact hjs)]
      omega
    have hT2 : ∀ k, m ≤ k → k < ops.size → (listed.setIfInBounds j true)[k]? = some false := fun k hk hks => by
      rw [Array.getElem?_setIfInBounds_ne (by omega)]; exact hT k hk hks
    have hT1 : ∀ k, m ≤ k → listed[k]? ≠ some true := fun k hk hl => by
      have hks : k < ops.size := by rw [← I.len]; exact (Array.getElem?_eq_some_iff.1 hl).1
      rw [hT k hk hks] at hl; cases hl
    have S := (walkT_steps (valM rels ops a) (fun k c hk => by simp [valM, hk]) a0 (ops.toList.take m) 0 htk hlen hw).1 j o (Nat.zero_le _) hjm ho
    obtain ⟨ex, ew⟩ := exec_same (O.sel j o · · ho) (sameT_looks O hn I hT1 hjm ho hun hall)
    have S' := S W I.ext (fun e he hb d hd => by
      have hlo := O.low j o e ho he hb
      cases hp : ops[e.on]? with
      | none => rw [hp] at hd; cases hd
      | some p =>
        rw [hp] at hd
        rw [getD_of, symT_hit O _ a0 hn (by omega) hp hd j hlo, Option.getD_some, valM_ok I hp hd (hall e he hb)]
        exact I.ok _ p d hp hd (hall e he hb))
    rw [ex, ew] at S'
    unfold wpOp
    simp only [ho]
    by_cases hwt : Region.wanted o (yielded ops a.tmps) = true
    · simp only [hwt, if_true] at S' ⊢
      refine .inl ?_
      unfold Oper.wp
      generalize (execOp a.eval o).run P W = r at *
      cases r with
      | ok nx w' =>
        cases nx <;> simp only [makes] at S' <;> simp only [Oper.upon]
        case value u => exact ih _ _ _ (invT_next O hst hn I hjm ho hun hall S'.1 S'.2) hT2 cnt
        case skip => exact ih _ _ _ (invT_next O hst hn I hjm ho hun hall S'.1 S'.2) hT2 cnt
        case enter f args =>
          refine S'.2.mono fun e w'' ⟨v, hv, h3, h4⟩ => ?_
          subst hv
          exact ih _ _ _ (invT_next O hst hn I hjm ho hun hall (S'.1.tr h3) h4) hT2 cnt
      | halt x w' => simp only [makes] at S'
    · simp only [Bool.not_eq_true] at hwt
      simp only [hwt, Bool.false_eq_true, if_false] at S' ⊢
      exact ih _ _ _ (invT_next O hst hn I hjm ho hun hall (Ext.rf _) S') hT2 cnt

/-- one walk of the head, in the order of the text; the tail behind it -/
theorem wp_region_made_tail {id : Nat} {Q : Exit → Act → World → Prop} {a : Act} {l : List Oper} (n : Nat) (hm : P.follows .mixedOrders = true) (hB : okTB l.toArray m n = true) (hn : a.tmps.size = n) (hst : ∀ k, (rels k).stable)
    (h : walkT P l.toArray rels w m Q 0 (l.take m) a) : (Code.region id l.toArray true).wp P Q a w := by
  refine wp_region_any hm (wpAny_madeT (w := w) (okT_of hB) hst hn (by simpa using h) _ _ _ _ ?_ ?_ ?_)
  · refine ⟨⟨rfl, rfl, rfl, Nat.le_refl _, fun _ _ => rfl⟩, by simp, rfl, rfl, fun k o d ho _ hl => ?_, fun t _ => rfl, fun k o ho hl => ?_⟩
    · have hk := (Array.getElem?_eq_some_iff.1 ho).1
      simp at hk
      simp [hk] at hl
    · have hk := (Array.getElem?_eq_some_iff.1 ho).1
      simp at hk
      simp [hk] at hl
  · intro k _ hk
    simp at hk
    simp [hk]
  · have := List.countP_le_length (p := fun j => (Array.replicate l.toArray.size false)[j]? == some false) (l := List.range l.toArray.size)
    simpa using this
theorem walkT_val {Q : Exit → Act → World → Prop} {k : Nat} {o : Oper} {l : List Oper} {a : Act} {c : Value} (hr : rels k = .val c)
    (h1 : ∀ W, Ext w W → Hid (depsM ops rels o a W) → if Region.wanted o (yielded ops a.tmps) then makes P W (.val c) ((execOp a.eval o).run P W) else undef = c)
    (h2 : ∀ K : Act → Prop, (∀ a, walkT P ops rels w m Q (k + 1) l a → K a) → K (a.put o.dst c)) : walkT P ops rels w m Q k (o :: l) a := by
  refine ⟨fun W hW hd => ?_, fun v hv => ?_⟩
  · rw [hr]; exact h1 W hW hd
  · rw [hr] at hv; simp only at hv; subst hv; exact h2 _ fun _ h => h
theorem walkT_rel {Q : Exit → Act → World → Prop} {k : Nat} {o : Oper} {l : List Oper} {a : Act} {r : Value → World → Prop} (hr : rels k = .rel r)
    (h1 : ∀ W, Ext w W → Hid (depsM ops rels o a W) → if Region.wanted o (yielded ops a.tmps) then makes P W (.rel r) ((execOp a.eval o).run P W) else r undef W)
    (h2 : ∀ v, ∀ K : Act → Prop, (∀ a, walkT P ops rels w m Q (k + 1) l a → K a) → K (a.put o.dst v)) : walkT P ops rels w m Q k (o :: l) a := by
  refine ⟨fun W hW hd => ?_, fun v _ => h2 v _ fun _ h => h⟩
  rw [hr]; exact h1 W hW hd
theorem walkT_end {Q : Exit → Act → World → Prop} {k : Nat} {a : Act} (h : ∀ W, Ext w W → (∀ j d, j < m → (ops[j]?).bind (·.dst) = some d → (rels j).ok (a.tmps.getD d undef) W) → wpList P ops Q (ops.toList.drop m) a W) : walkT P ops rels w m Q k [] a := h
theorem finT_rel {a : Act} {W : World} (h : ∀ j d, j < m → (ops[j]?).bind (·.dst) = some d → (rels j).ok (a.tmps.getD d undef) W) (j : Nat) (d : Tmp) (v : Value) {r : Value → World → Prop} (hj : j < m) (hd : (ops[j]?).bind (·.dst) = some d)
    (hr : rels j = .rel r) (hv : a.tmps.getD d undef = v) : r v W := by
  have := h j d hj hd
  rw [hr, hv] at this
  exact this
end
end Go.Proofs.YtomcoacndppkcaaGreatDoor.S

namespace Go.Proofs.YtomcoacndppkcaaGreatDoor
open Go Go.RowKit
open T (Tg TgAt okS)

def tkOk (t : Int) : Bool := D.inT t || decide (t = -1)
theorem txE_ok {t : Int} : D.txE t = 0 ↔ D.inT t = true := by
  unfold D.txE; cases D.inT t <;> simp
set_option maxHeartbeats 1000000 in
theorem rightTick_any (t : Int) (w : World) (hw : D.LaidD w) :
    Calls Tryz.prog 35 #[.int .i64 t] w fun e w' => e = .returned (.bool (tkOk t)) ∧ Below w.heap.size w w' := by
  have hT := fun W (e : Below w.heap.size w W) => D.text_any t W (hw.below e)
  unfold D.txR at hT
  cases h : D.inT t with
  | true =>
    have HF : Hid (tkOk t = true) := by unfold Hid tkOk; rw [h]; rfl
    rw [show D.txE t = 0 from txE_ok.2 h] at hT
    clear h
    generalize D.txV t = x at *
    go_enter Tryz.func35, Tryz.ntmps35
    go_wp2_with (go_at_call 28; with_reducible refine (hT _ (Below.refl _ _)).mono ?_; rintro e w1 ⟨rfl, hb1⟩)
    go_ret
    exact ⟨T.ret_bool HF.out.symm, hb1⟩
  | false =>
    have HF : Hid (tkOk t = decide (t = -1)) := by unfold Hid tkOk; rw [h]; rfl
    rw [show D.txE t = 1 by unfold D.txE; rw [h]; rfl] at hT
    clear h
    generalize D.txV t = x at *
    by_cases h1 : t = -1
    · subst h1
      go_enter Tryz.func35, Tryz.ntmps35
      go_wp2_with (go_at_call 28; with_reducible refine (hT _ (Below.refl _ _)).mono ?_; rintro e w1 ⟨rfl, hb1⟩)
      go_ret
      exact ⟨T.ret_bool (by rw [HF.out]; rfl), hb1⟩
    · go_enter Tryz.func35, Tryz.ntmps35
      go_wp2_with (go_at_call 28; with_reducible refine (hT _ (Below.refl _ _)).mono ?_; rintro e w1 ⟨rfl, hb1⟩)
      go_ret
      exact ⟨T.ret_bool (by rw [HF.out]; simp [h1]), hb1⟩
set_option maxHeartbeats 1000000 in
theorem rtick8_any (t : Int) (w : World) :
    Calls Tryz.prog 38 #[.int .i64 t] w fun e w' => e = .returned (.bool (tkOk t)) ∧ Below w.heap.size w w' := by
  have hT := fun W => D.rtext_any t W
  unfold D.txR at hT
  by_cases h1 : t = -1
  · have HF : Hid (tkOk t = true) := by unfold Hid tkOk; simp [h1]
    generalize D.txV t = x at *
    generalize D.txE t = y at *
    subst h1
    go_enter Tryz.func38, Tryz.ntmps38
    go_wp2_with (go_at_call 42; with_reducible refine (hT _).mono ?_; rintro e w1 ⟨rfl, hb1⟩)
    go_ret
    exact ⟨T.ret_bool HF.out.symm, hb1⟩
  · have h1b : (t == -1) = false := by simpa using h1
    cases h : D.inT t with
    | true =>
      have HF : Hid (tkOk t = true) := by unfold Hid tkOk; rw [h]; rfl
      rw [show D.txE t = 0 from txE_ok.2 h] at hT
      clear h
      generalize D.txV t = x at *
      go_enter Tryz.func38, Tryz.ntmps38
      go_wp2_with (go_at_call 42; with_reducible refine (hT _).mono ?_; rintro e w1 ⟨rfl, hb1⟩)
      go_ret
      exact ⟨T.ret_bool HF.out.symm, hb1⟩
    | false =>
      have HF : Hid (tkOk t = false) := by unfold Hid tkOk; rw [h]; simp [h1]
      rw [show D.txE t = 1 by unfold D.txE; rw [h]; rfl] at hT
      clear h
      generalize D.txV t = x at *
      go_enter Tryz.func38, Tryz.ntmps38
      go_wp2_with (go_at_call 42; with_reducible refine (hT _).mono ?_; rintro e w1 ⟨rfl, hb1⟩)
      go_ret
      exact ⟨T.ret_bool HF.out.symm, hb1⟩
end Go.Proofs.YtomcoacndppkcaaGreatDoor

namespace Go.Proofs.YtomcoacndppkcaaGreatDoor
open Go Go.RowKit
open T (Tg TgAt okS)

def tg8 (l : List Tg) : Bool := okL l && decide (l.length ≤ 32)
theorem rtD_tg8 {l : List Tg} {any : Bool} (h : (any && decide (0 < l.length)) = false) : rtD l any = tg8 l := by
  unfold rtD tg8; rw [h]; simp [Bool.and_comm]
theorem rtD_any2 {l : List Tg} {any : Bool} (h : (any && decide (0 < l.length)) = true) : rtD l any = false := by
  unfold rtD; rw [h]; simp
def rgOk (rt : ByteArray) : Bool := decide (rt = ⟨#[]⟩) || okS rt
/-- which conditions are right -/
def rightD (l1 l2 : List Tg) (am an : Bool) (s u : Int) (rt : ByteArray) : Bool := rtD l1 am && rtD l2 an && tkOk s && tkOk u && rgOk rt

set_option maxHeartbeats 4000000 in
theorem rtags8_any (A : Option Addr) (n c : Nat) (l : List Tg) (w : World) (hn : l.length = n) (_hm : n ≤ 1000000) (hM : T.Mx l) (hs : TgAt w w.heap.size A l) :
    Calls Tryz.prog 37 #[.slice A n c] w fun e w' => e = .returned (.bool (tg8 l)) ∧ Below w.heap.size w w' := by
  have HS := Lib.hid hs
  have HL := Lib.hid hn
  have HM := Lib.hid hM
  clear hs hn hM
  go_enter Tryz.func37, Tryz.ntmps37
  go_wp2
  go_loopw [7] (fun i wr => ∃ k : Nat, k ≤ n ∧ i = .int .i64 k ∧ Hid (okL (l.take k) = true) ∧ Below w.heap.size w wr) (fun i _ => n - (intOf i).toNat)
  case atStart => exact ⟨0, Nat.zero_le _, rfl, rfl, Below.refl _ _⟩
  case round =>
    obtain ⟨k, hk, rfl, HG, hbel⟩ := hrel
    by_cases hlt : k < n
    · have hkl : k < l.length := by have := HL.out; omega
      obtain ⟨b, o, rfl, hb, hc⟩ := (HS.out.below hbel (Nat.le_refl _)) (by omega)
      obtain ⟨c0, c1⟩ := hc k hkl
      clear hc
      have hx := HM.out.at_ hkl
      have HT := Lib.hid (okL_take hkl)
      have HA := Lib.hid (fun h => okL_at hkl h)
      obtain ⟨X, hX⟩ : ∃ X, Hid (l[k] = X) := ⟨l[k], rfl⟩
      rw [hX.out] at HT HA c0 c1 hx
      clear hX
      obtain ⟨x, p⟩ := X
      simp only at c0 c1 hx
      have hbz : b < wr.heap.size := by have := hbel.size; omega
      have hR := fun W => T.rright_any x p W hx
      have HO : Hid (okS (x, p).1 = okS x) := rfl
      generalize okS x = r at *
      cases r with
      | true =>
        have HF : Hid (okL (l.take (k + 1)) = true) := by unfold Hid; rw [HT.out, HG.out, HO.out]; rfl
        clear HT HA HO HG
        go_wp2_with (go_at_call 40; with_reducible refine (hR _).mono ?_; rintro e w1 ⟨rfl, hb1⟩; have B1 : Below w.heap.size w w1 := hbel.trans ((((Below.refl _ _).alloc (Nat.le_refl _) _).trans (hb1.mono (by simp))).mono hbel.size))
        go_roundw
        case rel => exact ⟨k + 1, by omega, by go_num, HF, B1⟩
        case measure => simp [intOf]; omega
      | false =>
        have HF : Hid (tg8 l = false) := by unfold Hid tg8; rw [HA.out HO.out]; rfl
        clear HT HA HO HG
        go_wp2_with (go_at_call 40; with_reducible refine (hR _).mono ?_; rintro e w1 ⟨rfl, hb1⟩; have B1 : Below w.heap.size w w1 := hbel.trans ((((Below.refl _ _).alloc (Nat.le_refl _) _).trans (hb1.mono (by simp))).mono hbel.size))
        go_ret
        exact ⟨T.ret_bool HF.out.symm, B1⟩
    · obtain rfl : k = n := by omega
      have HF : Hid (tg8 l = decide ((k : Int) ≤ 32)) := by
        have h := HG.out; rw [List.take_of_length_le (by have := HL.out; omega)] at h
        unfold Hid tg8; rw [h, HL.out, Bool.true_and]; exact decide_eq_decide.2 (by omega)
      go_wp2
      go_ret
      exact ⟨T.ret_bool (by rw [HF.out]), hbel⟩

theorem odd_any (rt : ByteArray) (rw : Bool) (w : World) :
    Calls Tryz.prog 39 #[.agg #[.string rt, .bool rw]] w fun e w' => e = .returned (.bool (decide (rt = ⟨#[]⟩) && rw)) ∧ Below w.heap.size w w' := by
  by_cases h : rt = ⟨#[]⟩
  · subst h
    have e : (decide ((⟨#[]⟩ : ByteArray) = ⟨#[]⟩) && rw) = rw := by simp
    rw [e]
    go_enter Tryz.func39, Tryz.ntmps39
    go_wp2
    go_ret
    exact ⟨rfl, by go_grown⟩
  · have e : (decide (rt = ⟨#[]⟩) && rw) = false := by simp [h]
    rw [e]
    have hx : (rt.toList == (⟨#[]⟩ : ByteArray).toList) = false := by rw [empty_iff]; simp [h]
    have hx2 : rt.toList.isEmpty = false := by
      cases e : rt.toList with
      | nil => exact absurd (by rw [ByteArray.toList_eq] at e; exact ByteArray.ext (Array.toList_inj.1 e)) h
      | cons a r => rfl
    go_enter Tryz.func39, Tryz.ntmps39
    go_wp2
    go_ret
    exact ⟨rfl, by go_grown⟩

set_option maxHeartbeats 8000000 in
set_option maxRecDepth 20000 in
theorem right_any (A B : Option Addr) (n c m d : Nat) (am an : Bool) (s u : Int) (rt : ByteArray) (rw : Bool) (l1 l2 : List Tg) (w : World) (h : TwoAt w A B n m l1 l2) (hr : rt.size ≤ maxLen) (hw : D.LaidD w) :
    Calls Tryz.prog 13 #[cdV A B n c m d am an s u rt rw] w fun e w' => e = .returned (.bool (rightD l1 l2 am an s u rt)) ∧ Below w.heap.size w w' := by
  have FB0 : Below w.heap.size w (w.alloc (.cells #[.slice A n c, .slice B m d, .bool am, .bool an, .int .i64 s, .int .i64 u, .string rt, .bool rw] 29)) := by go_grown
  have HF : Hid (rightD l1 l2 am an s u rt = (rtD l1 am && rtD l2 an && tkOk s && tkOk u && rgOk rt)) := rfl
  have hA : ∀ W, Below w.heap.size w W → Calls Tryz.prog 34 #[.slice A n c, .bool am] W fun e w' => e = .returned (.bool (rtD l1 am)) ∧ Below W.heap.size W w' := fun W e => rightTags_any A n c l1 am W h.n1 (by have := h.m1; unfold maxLen; omega) h.M1 (h.below e).s1
  have hB : ∀ W, Below w.heap.size w W → Calls Tryz.prog 34 #[.slice B m d, .bool an] W fun e w' => e = .returned (.bool (rtD l2 an)) ∧ Below W.heap.size W w' := fun W e => rightTags_any B m d l2 an W h.n2 (by have := h.m2; unfold maxLen; omega) h.M2 (h.below e).s2
  have hS := fun W (e : Below w.heap.size w W) => rightTick_any s W (hw.below e)
  have hU := fun W (e : Below w.heap.size w W) => rightTick_any u W (hw.below e)
  have hR := fun W (_ : Below w.heap.size w W) => T.right_any rt rw W hr
  have HG : Hid (rgOk rt = (decide (rt = ⟨#[]⟩) || okS rt)) := rfl
  clear h hw
  generalize rightD l1 l2 am an s u rt = R at *
  generalize rtD l1 am = a at *
  generalize rtD l2 an = b at *
  generalize tkOk s = p at *
  generalize tkOk u = q at *
  generalize rgOk rt = g at *
  cases a with
  | false =>
    have HQ : Hid (R = false) := by unfold Hid; rw [HF.out]; rfl
    clear HF
    go_enter Tryz.func13, Tryz.ntmps13
    go_wp2_with fail
    with_reducible refine (hA _ FB0).mono ?_
    rintro e w1 ⟨rfl, hb1⟩
    have C1 := hb1
    obtain ⟨x0, x1, x2, x3, x4, x5, x6, x7, z, B1⟩ := cd_cells C1
    go_wp2_with fail
    go_ret
    exact ⟨T.ret_bool HQ.out.symm, B1⟩
  | true =>
  cases b with
  | false =>
    have HQ : Hid (R = false) := by unfold Hid; rw [HF.out]; rfl
    clear HF
    go_enter Tryz.func13, Tryz.ntmps13
    go_wp2_with fail
    with_reducible refine (hA _ FB0).mono ?_
    rintro e w1 ⟨rfl, hb1⟩
    have C1 := hb1
    obtain ⟨x0, x1, x2, x3, x4, x5, x6, x7, z, B1⟩ := cd_cells C1
    go_wp2_with fail
    with_reducible refine (hB _ B1).mono ?_
    rintro e w2 ⟨rfl, hb2⟩
    have C2 := C1.trans (hb2.mono C1.size)
    clear x0 x1 x2 x3 x4 x5 x6 x7
    obtain ⟨x0, x1, x2, x3, x4, x5, x6, x7, z, B2⟩ := cd_cells C2
    go_wp2_with fail
    go_ret
    exact ⟨T.ret_bool HQ.out.symm, B2⟩
  | true =>
  cases p with
  | false =>
    have HQ : Hid (R = false) := by unfold Hid; rw [HF.out]; rfl
    clear HF
    go_enter Tryz.func13, Tryz.ntmps13
    go_wp2_with fail
    with_reducible refine (hA _ FB0).mono ?_
    rintro e w1 ⟨rfl, hb1⟩
    have C1 := hb1
    obtain ⟨x0, x1, x2, x3, x4, x5, x6, x7, z, B1⟩ := cd_cells C1
    go_wp2_with fail
    with_reducible refine (hB _ B1).mono ?_
    rintro e w2 ⟨rfl, hb2⟩
    have C2 := C1.trans (hb2.mono C1.size)
    clear x0 x1 x2 x3 x4 x5 x6 x7
    obtain ⟨x0, x1, x2, x3, x4, x5, x6, x7, z, B2⟩ := cd_cells C2
    go_wp2_with fail
    with_reducible refine (hS _ B2).mono ?_
    rintro e w3 ⟨rfl, hb3⟩
    have C3 := C2.trans (hb3.mono C2.size)
    clear x0 x1 x2 x3 x4 x5 x6 x7
    obtain ⟨x0, x1, x2, x3, x4, x5, x6, x7, z, B3⟩ := cd_cells C3
    go_wp2_with fail
    go_ret
    exact ⟨T.ret_bool HQ.out.symm, B3⟩
  | true =>
  cases q with
  | false =>
    have HQ : Hid (R = false) := by unfold Hid; rw [HF.out]; rfl
    clear HF
    go_enter Tryz.func13, Tryz.ntmps13
    go_wp2_with fail
    with_reducible refine (hA _ FB0).mono ?_
    rintro e w1 ⟨rfl, hb1⟩
    have C1 := hb1
    obtain ⟨x0, x1, x2, x3, x4, x5, x6, x7, z, B1⟩ := cd_cells C1
    go_wp2_with fail
    with_reducible refine (hB _ B1).mono ?_
    rintro e w2 ⟨rfl, hb2⟩
    have C2 := C1.trans (hb2.mono C1.size)
    clear x0 x1 x2 x3 x4 x5 x6 x7
    obtain ⟨x0, x1, x2, x3, x4, x5, x6, x7, z, B2⟩ := cd_cells C2
    go_wp2_with fail
    with_reducible refine (hS _ B2).mono ?_
    rintro e w3 ⟨rfl, hb3⟩
    have C3 := C2.trans (hb3.mono C2.size)
    clear x0 x1 x2 x3 x4 x5 x6 x7
    obtain ⟨x0, x1, x2, x3, x4, x5, x6, x7, z, B3⟩ := cd_cells C3
    go_wp2_with fail
    with_reducible refine (hU _ B3).mono ?_
    rintro e w4 ⟨rfl, hb4⟩
    have C4 := C3.trans (hb4.mono C3.size)
    clear x0 x1 x2 x3 x4 x5 x6 x7
    obtain ⟨x0, x1, x2, x3, x4, x5, x6, x7, z, B4⟩ := cd_cells C4
    go_wp2_with fail
    go_ret
    exact ⟨T.ret_bool HQ.out.symm, B4⟩
  | true =>
  by_cases he : rt = ⟨#[]⟩
  · subst he
    have hg : g = true := by rw [HG.out]; rfl
    subst hg
    have HQ : Hid (R = true) := by unfold Hid; rw [HF.out]; rfl
    clear HF
    go_enter Tryz.func13, Tryz.ntmps13
    go_wp2_with fail
    with_reducible refine (hA _ FB0).mono ?_
    rintro e w1 ⟨rfl, hb1⟩
    have C1 := hb1
    obtain ⟨x0, x1, x2, x3, x4, x5, x6, x7, z, B1⟩ := cd_cells C1
    go_wp2_with fail
    with_reducible refine (hB _ B1).mono ?_
    rintro e w2 ⟨rfl, hb2⟩
    have C2 := C1.trans (hb2.mono C1.size)
    clear x0 x1 x2 x3 x4 x5 x6 x7
    obtain ⟨x0, x1, x2, x3, x4, x5, x6, x7, z, B2⟩ := cd_cells C2
    go_wp2_with fail
    with_reducible refine (hS _ B2).mono ?_
    rintro e w3 ⟨rfl, hb3⟩
    have C3 := C2.trans (hb3.mono C2.size)
    clear x0 x1 x2 x3 x4 x5 x6 x7
    obtain ⟨x0, x1, x2, x3, x4, x5, x6, x7, z, B3⟩ := cd_cells C3
    go_wp2_with fail
    with_reducible refine (hU _ B3).mono ?_
    rintro e w4 ⟨rfl, hb4⟩
    have C4 := C3.trans (hb4.mono C3.size)
    clear x0 x1 x2 x3 x4 x5 x6 x7
    obtain ⟨x0, x1, x2, x3, x4, x5, x6, x7, z, B4⟩ := cd_cells C4
    go_wp2_with fail
    go_ret
    exact ⟨T.ret_bool HQ.out.symm, B4⟩
  · have hx : ¬ rt.toList = [] := fun q => he (by rw [ByteArray.toList_eq] at q; exact ByteArray.ext (Array.toList_inj.1 q))
    have hx2 : rt.toList.isEmpty = false := by
      cases e : rt.toList with
      | nil => exact absurd e hx
      | cons a r => rfl
    have hg : g = okS rt := by rw [HG.out]; simp [he]
    subst hg
    clear HG
    cases hk : okS rt with
    | false =>
      rw [hk] at hR HF
      clear hk
      have HQ : Hid (R = false) := by unfold Hid; rw [HF.out]; rfl
      clear HF
      go_enter Tryz.func13, Tryz.ntmps13
      go_wp2_with fail
      with_reducible refine (hA _ FB0).mono ?_
      rintro e w1 ⟨rfl, hb1⟩
      have C1 := hb1
      obtain ⟨x0, x1, x2, x3, x4, x5, x6, x7, z, B1⟩ := cd_cells C1
      go_wp2_with fail
      with_reducible refine (hB _ B1).mono ?_
      rintro e w2 ⟨rfl, hb2⟩
      have C2 := C1.trans (hb2.mono C1.size)
      clear x0 x1 x2 x3 x4 x5 x6 x7
      obtain ⟨x0, x1, x2, x3, x4, x5, x6, x7, z, B2⟩ := cd_cells C2
      go_wp2_with fail
      with_reducible refine (hS _ B2).mono ?_
      rintro e w3 ⟨rfl, hb3⟩
      have C3 := C2.trans (hb3.mono C2.size)
      clear x0 x1 x2 x3 x4 x5 x6 x7
      obtain ⟨x0, x1, x2, x3, x4, x5, x6, x7, z, B3⟩ := cd_cells C3
      go_wp2_with fail
      with_reducible refine (hU _ B3).mono ?_
      rintro e w4 ⟨rfl, hb4⟩
      have C4 := C3.trans (hb4.mono C3.size)
      clear x0 x1 x2 x3 x4 x5 x6 x7
      obtain ⟨x0, x1, x2, x3, x4, x5, x6, x7, z, B4⟩ := cd_cells C4
      go_wp2_with fail
      with_reducible refine (hR _ B4).mono ?_
      rintro e w5 ⟨rfl, hb5⟩
      have C5 := C4.trans (hb5.mono C4.size)
      clear x0 x1 x2 x3 x4 x5 x6 x7
      obtain ⟨x0, x1, x2, x3, x4, x5, x6, x7, z, B5⟩ := cd_cells C5
      go_wp2_with fail
      go_ret
      exact ⟨T.ret_bool HQ.out.symm, B5⟩
    | true =>
      rw [hk] at hR HF
      clear hk
      have HQ : Hid (R = true) := by unfold Hid; rw [HF.out]; rfl
      clear HF
      go_enter Tryz.func13, Tryz.ntmps13
      go_wp2_with fail
      with_reducible refine (hA _ FB0).mono ?_
      rintro e w1 ⟨rfl, hb1⟩
      have C1 := hb1
      obtain ⟨x0, x1, x2, x3, x4, x5, x6, x7, z, B1⟩ := cd_cells C1
      go_wp2_with fail
      with_reducible refine (hB _ B1).mono ?_
      rintro e w2 ⟨rfl, hb2⟩
      have C2 := C1.trans (hb2.mono C1.size)
      clear x0 x1 x2 x3 x4 x5 x6 x7
      obtain ⟨x0, x1, x2, x3, x4, x5, x6, x7, z, B2⟩ := cd_cells C2
      go_wp2_with fail
      with_reducible refine (hS _ B2).mono ?_
      rintro e w3 ⟨rfl, hb3⟩
      have C3 := C2.trans (hb3.mono C2.size)
      clear x0 x1 x2 x3 x4 x5 x6 x7
      obtain ⟨x0, x1, x2, x3, x4, x5, x6, x7, z, B3⟩ := cd_cells C3
      go_wp2_with fail
      with_reducible refine (hU _ B3).mono ?_
      rintro e w4 ⟨rfl, hb4⟩
      have C4 := C3.trans (hb4.mono C3.size)
      clear x0 x1 x2 x3 x4 x5 x6 x7
      obtain ⟨x0, x1, x2, x3, x4, x5, x6, x7, z, B4⟩ := cd_cells C4
      go_wp2_with fail
      with_reducible refine (hR _ B4).mono ?_
      rintro e w5 ⟨rfl, hb5⟩
      have C5 := C4.trans (hb5.mono C4.size)
      clear x0 x1 x2 x3 x4 x5 x6 x7
      obtain ⟨x0, x1, x2, x3, x4, x5, x6, x7, z, B5⟩ := cd_cells C5
      go_wp2_with fail
      go_ret
      exact ⟨T.ret_bool HQ.out.symm, B5⟩

set_option maxHeartbeats 8000000 in
set_option maxRecDepth 20000 in
theorem rright8_any (A B : Option Addr) (n c m d : Nat) (am an : Bool) (s u : Int) (rt : ByteArray) (rw : Bool) (l1 l2 : List Tg) (w : World) (h : TwoAt w A B n m l1 l2) (hr : rt.size ≤ maxLen) :
    Calls Tryz.prog 14 #[cdV A B n c m d am an s u rt rw] w fun e w' => e = .returned (.bool (rightD l1 l2 am an s u rt)) ∧ Below w.heap.size w w' := by
  have FB0 : Below w.heap.size w (w.alloc (.cells #[.slice A n c, .slice B m d, .bool am, .bool an, .int .i64 s, .int .i64 u, .string rt, .bool rw] 29)) := by go_grown
  have HF0 : Hid (rightD l1 l2 am an s u rt = (rtD l1 am && rtD l2 an && tkOk s && tkOk u && rgOk rt)) := rfl
  have hA : ∀ W, Below w.heap.size w W → Calls Tryz.prog 37 #[.slice A n c] W fun e w' => e = .returned (.bool (tg8 l1)) ∧ Below W.heap.size W w' := fun W e => rtags8_any A n c l1 W h.n1 h.m1 h.M1 (h.below e).s1
  have hB : ∀ W, Below w.heap.size w W → Calls Tryz.prog 37 #[.slice B m d] W fun e w' => e = .returned (.bool (tg8 l2)) ∧ Below W.heap.size W w' := fun W e => rtags8_any B m d l2 W h.n2 h.m2 h.M2 (h.below e).s2
  have hS := fun W (_ : Below w.heap.size w W) => rtick8_any s W
  have hU := fun W (_ : Below w.heap.size w W) => rtick8_any u W
  have hO := fun W (_ : Below w.heap.size w W) => odd_any rt rw W
  have hR := fun W (_ : Below w.heap.size w W) => T.rright_any rt rw W hr
  have HG : Hid (rgOk rt = (decide (rt = ⟨#[]⟩) || okS rt)) := rfl
  obtain ⟨g1, HG1⟩ : ∃ g1, Hid ((am && decide (0 < n)) = g1) := ⟨_, rfl⟩
  obtain ⟨g2, HG2⟩ : ∃ g2, Hid ((an && decide (0 < m)) = g2) := ⟨_, rfl⟩
  have HL1 : Hid (rtD l1 am = if g1 then false else tg8 l1) := by
    have e : (am && decide (0 < l1.length)) = g1 := by rw [h.n1]; exact HG1.out
    unfold Hid
    cases g1 with
    | false => exact rtD_tg8 e
    | true => exact rtD_any2 e
  have HL2 : Hid (rtD l2 an = if g2 then false else tg8 l2) := by
    have e : (an && decide (0 < l2.length)) = g2 := by rw [h.n2]; exact HG2.out
    unfold Hid
    cases g2 with
    | false => exact rtD_tg8 e
    | true => exact rtD_any2 e
  clear h
  have HF : Hid (rightD l1 l2 am an s u rt = ((if g1 then false else tg8 l1) && (if g2 then false else tg8 l2) && tkOk s && tkOk u && rgOk rt)) := by unfold Hid; rw [HF0.out, HL1.out, HL2.out]
  clear HF0 HL1 HL2
  generalize rightD l1 l2 am an s u rt = R at *
  generalize tg8 l1 = a at *
  generalize tg8 l2 = b at *
  generalize tkOk s = p at *
  generalize tkOk u = q at *
  generalize rgOk rt = g at *
  go_enter Tryz.func14, Tryz.ntmps14
  go_upto_region 1 with fail
  go_cut [21] (fun q21 wx => q21 = .bool (g1 || g2) ∧ wx = w.alloc (.cells #[.slice A n c, .slice B m d, .bool am, .bool an, .int .i64 s, .int .i64 u, .string rt, .bool rw] 29))
  case first =>
    cases am <;> cases an <;> by_cases h1 : 0 < n <;> by_cases h2 : 0 < m <;>
    · go_wp2_with fail
      go_meet
      exact ⟨by rw [← HG1.out, ← HG2.out]; simp [h1, h2], rfl⟩
  case rest =>
  obtain ⟨rfl, rfl⟩ := hcut
  clear HG1 HG2
  by_cases hgg : (g1 || g2) = true
  · have HQ : Hid (R = false) := by
      unfold Hid; rw [HF.out]
      cases g1 with
      | true => rfl
      | false =>
        have : g2 = true := by simpa using hgg
        subst this
        cases a <;> rfl
    clear HF
    rw [hgg]
    clear hgg
    go_wp2_with fail
    go_ret
    exact ⟨T.ret_bool HQ.out.symm, FB0⟩
  · obtain ⟨rfl, rfl⟩ : g1 = false ∧ g2 = false := by
      cases g1 <;> cases g2 <;> simp_all
    clear hgg
    rw [show (false || false) = false from rfl]
    simp only [Bool.false_eq_true, if_false] at HF
    by_cases he : rt = ⟨#[]⟩
    · subst he
      have hg : g = true := by rw [HG.out]; rfl
      subst hg
      cases a with
      | false =>
        have HQ : Hid (R = false) := by unfold Hid; rw [HF.out]; rfl
        clear HF
        go_wp2_with fail
        with_reducible refine (hA _ FB0).mono ?_
        rintro e w1 ⟨rfl, hb1⟩
        have C1 := hb1
        obtain ⟨x0, x1, x2, x3, x4, x5, x6, x7, z, B1⟩ := cd_cells C1
        go_wp2_with fail
        go_ret
        exact ⟨T.ret_bool HQ.out.symm, B1⟩
      | true =>
      cases b with
      | false =>
        have HQ : Hid (R = false) := by unfold Hid; rw [HF.out]; rfl
        clear HF
        go_wp2_with fail
        with_reducible refine (hA _ FB0).mono ?_
        rintro e w1 ⟨rfl, hb1⟩
        have C1 := hb1
        obtain ⟨x0, x1, x2, x3, x4, x5, x6, x7, z, B1⟩ := cd_cells C1
        go_wp2_with fail
        with_reducible refine (hB _ B1).mono ?_
        rintro e w2 ⟨rfl, hb2⟩
        have C2 := C1.trans (hb2.mono C1.size)
        clear x0 x1 x2 x3 x4 x5 x6 x7
        obtain ⟨x0, x1, x2, x3, x4, x5, x6, x7, z, B2⟩ := cd_cells C2
        go_wp2_with fail
        go_ret
        exact ⟨T.ret_bool HQ.out.symm, B2⟩
      | true =>
      cases p with
      | false =>
        have HQ : Hid (R = false) := by unfold Hid; rw [HF.out]; rfl
        clear HF
        go_wp2_with fail
        with_reducible refine (hA _ FB0).mono ?_
        rintro e w1 ⟨rfl, hb1⟩
        have C1 := hb1
        obtain ⟨x0, x1, x2, x3, x4, x5, x6, x7, z, B1⟩ := cd_cells C1
        go_wp2_with fail
        with_reducible refine (hB _ B1).mono ?_
        rintro e w2 ⟨rfl, hb2⟩
        have C2 := C1.trans (hb2.mono C1.size)
        clear x0 x1 x2 x3 x4 x5 x6 x7
        obtain ⟨x0, x1, x2, x3, x4, x5, x6, x7, z, B2⟩ := cd_cells C2
        go_wp2_with fail
        with_reducible refine (hS _ B2).mono ?_
        rintro e w3 ⟨rfl, hb3⟩
        have C3 := C2.trans (hb3.mono C2.size)
        clear x0 x1 x2 x3 x4 x5 x6 x7
        obtain ⟨x0, x1, x2, x3, x4, x5, x6, x7, z, B3⟩ := cd_cells C3
        go_wp2_with fail
        go_ret
        exact ⟨T.ret_bool HQ.out.symm, B3⟩
      | true =>
      cases q with
      | false =>
        have HQ : Hid (R = false) := by unfold Hid; rw [HF.out]; rfl
        clear HF
        go_wp2_with fail
        with_reducible refine (hA _ FB0).mono ?_
        rintro e w1 ⟨rfl, hb1⟩
        have C1 := hb1
        obtain ⟨x0, x1, x2, x3, x4, x5, x6, x7, z, B1⟩ := cd_cells C1
        go_wp2_with fail
        with_reducible refine (hB _ B1).mono ?_
        rintro e w2 ⟨rfl, hb2⟩
        have C2 := C1.trans (hb2.mono C1.size)
        clear x0 x1 x2 x3 x4 x5 x6 x7
        obtain ⟨x0, x1, x2, x3, x4, x5, x6, x7, z, B2⟩ := cd_cells C2
        go_wp2_with fail
        with_reducible refine (hS _ B2).mono ?_
        rintro e w3 ⟨rfl, hb3⟩
        have C3 := C2.trans (hb3.mono C2.size)
        clear x0 x1 x2 x3 x4 x5 x6 x7
        obtain ⟨x0, x1, x2, x3, x4, x5, x6, x7, z, B3⟩ := cd_cells C3
        go_wp2_with fail
        with_reducible refine (hU _ B3).mono ?_
        rintro e w4 ⟨rfl, hb4⟩
        have C4 := C3.trans (hb4.mono C3.size)
        clear x0 x1 x2 x3 x4 x5 x6 x7
        obtain ⟨x0, x1, x2, x3, x4, x5, x6, x7, z, B4⟩ := cd_cells C4
        go_wp2_with fail
        go_ret
        exact ⟨T.ret_bool HQ.out.symm, B4⟩
      | true =>
      cases rw with
      | false =>
        have HQ : Hid (R = true) := by unfold Hid; rw [HF.out]; rfl
        clear HF
        go_wp2_with fail
        with_reducible refine (hA _ FB0).mono ?_
        rintro e w1 ⟨rfl, hb1⟩
        have C1 := hb1
        obtain ⟨x0, x1, x2, x3, x4, x5, x6, x7, z, B1⟩ := cd_cells C1
        go_wp2_with fail
        with_reducible refine (hB _ B1).mono ?_
        rintro e w2 ⟨rfl, hb2⟩
        have C2 := C1.trans (hb2.mono C1.size)
        clear x0 x1 x2 x3 x4 x5 x6 x7
        obtain ⟨x0, x1, x2, x3, x4, x5, x6, x7, z, B2⟩ := cd_cells C2
        go_wp2_with fail
        with_reducible refine (hS _ B2).mono ?_
        rintro e w3 ⟨rfl, hb3⟩
        have C3 := C2.trans (hb3.mono C2.size)
        clear x0 x1 x2 x3 x4 x5 x6 x7
        obtain ⟨x0, x1, x2, x3, x4, x5, x6, x7, z, B3⟩ := cd_cells C3
        go_wp2_with fail
        with_reducible refine (hU _ B3).mono ?_
        rintro e w4 ⟨rfl, hb4⟩
        have C4 := C3.trans (hb4.mono C3.size)
        clear x0 x1 x2 x3 x4 x5 x6 x7
        obtain ⟨x0, x1, x2, x3, x4, x5, x6, x7, z, B4⟩ := cd_cells C4
        go_wp2_with fail
        go_ret
        exact ⟨T.ret_bool HQ.out.symm, B4⟩
      | true =>
        rw [show (decide ((⟨#[]⟩ : ByteArray) = ⟨#[]⟩) && true) = true by simp] at hO
        have HQ : Hid (R = true) := by unfold Hid; rw [HF.out]; rfl
        clear HF
        go_wp2_with fail
        with_reducible refine (hA _ FB0).mono ?_
        rintro e w1 ⟨rfl, hb1⟩
        have C1 := hb1
        obtain ⟨x0, x1, x2, x3, x4, x5, x6, x7, z, B1⟩ := cd_cells C1
        go_wp2_with fail
        with_reducible refine (hB _ B1).mono ?_
        rintro e w2 ⟨rfl, hb2⟩
        have C2 := C1.trans (hb2.mono C1.size)
        clear x0 x1 x2 x3 x4 x5 x6 x7
        obtain ⟨x0, x1, x2, x3, x4, x5, x6, x7, z, B2⟩ := cd_cells C2
        go_wp2_with fail
        with_reducible refine (hS _ B2).mono ?_
        rintro e w3 ⟨rfl, hb3⟩
        have C3 := C2.trans (hb3.mono C2.size)
        clear x0 x1 x2 x3 x4 x5 x6 x7
        obtain ⟨x0, x1, x2, x3, x4, x5, x6, x7, z, B3⟩ := cd_cells C3
        go_wp2_with fail
        with_reducible refine (hU _ B3).mono ?_
        rintro e w4 ⟨rfl, hb4⟩
        have C4 := C3.trans (hb4.mono C3.size)
        clear x0 x1 x2 x3 x4 x5 x6 x7
        obtain ⟨x0, x1, x2, x3, x4, x5, x6, x7, z, B4⟩ := cd_cells C4
        go_wp2_with fail
        with_reducible refine (hO _ B4).mono ?_
        rintro e w5 ⟨rfl, hb5⟩
        have C5 := C4.trans (hb5.mono C4.size)
        clear x0 x1 x2 x3 x4 x5 x6 x7
        obtain ⟨x0, x1, x2, x3, x4, x5, x6, x7, z, B5⟩ := cd_cells C5
        go_wp2_with fail
        go_ret
        exact ⟨T.ret_bool HQ.out.symm, B5⟩
    · have hx : ¬ rt.toList = [] := fun q => he (by rw [ByteArray.toList_eq] at q; exact ByteArray.ext (Array.toList_inj.1 q))
      have hx2 : rt.toList.isEmpty = false := by
        cases e : rt.toList with
        | nil => exact absurd e hx
        | cons a r => rfl
      have hg : g = okS rt := by rw [HG.out]; simp [he]
      subst hg
      clear HG
      rw [show (decide (rt = ⟨#[]⟩) && rw) = false by simp [he]] at hO
      cases a with
      | false =>
        have HQ : Hid (R = false) := by unfold Hid; rw [HF.out]; rfl
        clear HF
        go_wp2_with fail
        with_reducible refine (hA _ FB0).mono ?_
        rintro e w1 ⟨rfl, hb1⟩
        have C1 := hb1
        obtain ⟨x0, x1, x2, x3, x4, x5, x6, x7, z, B1⟩ := cd_cells C1
        go_wp2_with fail
        go_ret
        exact ⟨T.ret_bool HQ.out.symm, B1⟩
      | true =>
      cases b with
      | false =>
        have HQ : Hid (R = false) := by unfold Hid; rw [HF.out]; rfl
        clear HF
        go_wp2_with fail
        with_reducible refine (hA _ FB0).mono ?_
        rintro e w1 ⟨rfl, hb1⟩
        have C1 := hb1
        obtain ⟨x0, x1, x2, x3, x4, x5, x6, x7, z, B1⟩ := cd_cells C1
        go_wp2_with fail
        with_reducible refine (hB _ B1).mono ?_
        rintro e w2 ⟨rfl, hb2⟩
        have C2 := C1.trans (hb2.mono C1.size)
        clear x0 x1 x2 x3 x4 x5 x6 x7
        obtain ⟨x0, x1, x2, x3, x4, x5, x6, x7, z, B2⟩ := cd_cells C2
        go_wp2_with fail
        go_ret
        exact ⟨T.ret_bool HQ.out.symm, B2⟩
      | true =>
      cases p with
      | false =>
        have HQ : Hid (R = false) := by unfold Hid; rw [HF.out]; rfl
        clear HF
        go_wp2_with fail
        with_reducible refine (hA _ FB0).mono ?_
        rintro e w1 ⟨rfl, hb1⟩
        have C1 := hb1
        obtain ⟨x0, x1, x2, x3, x4, x5, x6, x7, z, B1⟩ := cd_cells C1
        go_wp2_with fail
        with_reducible refine (hB _ B1).mono ?_
        rintro e w2 ⟨rfl, hb2⟩
        have C2 := C1.trans (hb2.mono C1.size)
        clear x0 x1 x2 x3 x4 x5 x6 x7
        obtain ⟨x0, x1, x2, x3, x4, x5, x6, x7, z, B2⟩ := cd_cells C2
        go_wp2_with fail
        with_reducible refine (hS _ B2).mono ?_
        rintro e w3 ⟨rfl, hb3⟩
        have C3 := C2.trans (hb3.mono C2.size)
        clear x0 x1 x2 x3 x4 x5 x6 x7
        obtain ⟨x0, x1, x2, x3, x4, x5, x6, x7, z, B3⟩ := cd_cells C3
        go_wp2_with fail
        go_ret
        exact ⟨T.ret_bool HQ.out.symm, B3⟩
      | true =>
      cases q with
      | false =>
        have HQ : Hid (R = false) := by unfold Hid; rw [HF.out]; rfl
        clear HF
        go_wp2_with fail
        with_reducible refine (hA _ FB0).mono ?_
        rintro e w1 ⟨rfl, hb1⟩
        have C1 := hb1
        obtain ⟨x0, x1, x2, x3, x4, x5, x6, x7, z, B1⟩ := cd_cells C1
        go_wp2_with fail
        with_reducible refine (hB _ B1).mono ?_
        rintro e w2 ⟨rfl, hb2⟩
        have C2 := C1.trans (hb2.mono C1.size)
        clear x0 x1 x2 x3 x4 x5 x6 x7
        obtain ⟨x0, x1, x2, x3, x4, x5, x6, x7, z, B2⟩ := cd_cells C2
        go_wp2_with fail
        with_reducible refine (hS _ B2).mono ?_
        rintro e w3 ⟨rfl, hb3⟩
        have C3 := C2.trans (hb3.mono C2.size)
        clear x0 x1 x2 x3 x4 x5 x6 x7
        obtain ⟨x0, x1, x2, x3, x4, x5, x6, x7, z, B3⟩ := cd_cells C3
        go_wp2_with fail
        with_reducible refine (hU _ B3).mono ?_
        rintro e w4 ⟨rfl, hb4⟩
        have C4 := C3.trans (hb4.mono C3.size)
        clear x0 x1 x2 x3 x4 x5 x6 x7
        obtain ⟨x0, x1, x2, x3, x4, x5, x6, x7, z, B4⟩ := cd_cells C4
        go_wp2_with fail
        go_ret
        exact ⟨T.ret_bool HQ.out.symm, B4⟩
      | true =>
      cases hk : okS rt with
      | false =>
        rw [hk] at hR HF
        clear hk
        have HQ : Hid (R = false) := by unfold Hid; rw [HF.out]; rfl
        clear HF
        go_wp2_with fail
        with_reducible refine (hA _ FB0).mono ?_
        rintro e w1 ⟨rfl, hb1⟩
        have C1 := hb1
        obtain ⟨x0, x1, x2, x3, x4, x5, x6, x7, z, B1⟩ := cd_cells C1
        go_wp2_with fail
        with_reducible refine (hB _ B1).mono ?_
        rintro e w2 ⟨rfl, hb2⟩
        have C2 := C1.trans (hb2.mono C1.size)
        clear x0 x1 x2 x3 x4 x5 x6 x7
        obtain ⟨x0, x1, x2, x3, x4, x5, x6, x7, z, B2⟩ := cd_cells C2
        go_wp2_with fail
        with_reducible refine (hS _ B2).mono ?_
        rintro e w3 ⟨rfl, hb3⟩
        have C3 := C2.trans (hb3.mono C2.size)
        clear x0 x1 x2 x3 x4 x5 x6 x7
        obtain ⟨x0, x1, x2, x3, x4, x5, x6, x7, z, B3⟩ := cd_cells C3
        go_wp2_with fail
        with_reducible refine (hU _ B3).mono ?_
        rintro e w4 ⟨rfl, hb4⟩
        have C4 := C3.trans (hb4.mono C3.size)
        clear x0 x1 x2 x3 x4 x5 x6 x7
        obtain ⟨x0, x1, x2, x3, x4, x5, x6, x7, z, B4⟩ := cd_cells C4
        go_wp2_with fail
        with_reducible refine (hO _ B4).mono ?_
        rintro e w5 ⟨rfl, hb5⟩
        have C5 := C4.trans (hb5.mono C4.size)
        clear x0 x1 x2 x3 x4 x5 x6 x7
        obtain ⟨x0, x1, x2, x3, x4, x5, x6, x7, z, B5⟩ := cd_cells C5
        go_wp2_with fail
        with_reducible refine (hR _ B5).mono ?_
        rintro e w6 ⟨rfl, hb6⟩
        have C6 := C5.trans (hb6.mono C5.size)
        clear x0 x1 x2 x3 x4 x5 x6 x7
        obtain ⟨x0, x1, x2, x3, x4, x5, x6, x7, z, B6⟩ := cd_cells C6
        go_wp2_with fail
        go_ret
        exact ⟨T.ret_bool HQ.out.symm, B6⟩
      | true =>
        rw [hk] at hR HF
        clear hk
        have HQ : Hid (R = true) := by unfold Hid; rw [HF.out]; rfl
        clear HF
        go_wp2_with fail
        with_reducible refine (hA _ FB0).mono ?_
        rintro e w1 ⟨rfl, hb1⟩
        have C1 := hb1
        obtain ⟨x0, x1, x2, x3, x4, x5, x6, x7, z, B1⟩ := cd_cells C1
        go_wp2_with fail
        with_reducible refine (hB _ B1).mono ?_
        rintro e w2 ⟨rfl, hb2⟩
        have C2 := C1.trans (hb2.mono C1.size)
        clear x0 x1 x2 x3 x4 x5 x6 x7
        obtain ⟨x0, x1, x2, x3, x4, x5, x6, x7, z, B2⟩ := cd_cells C2
        go_wp2_with fail
        with_reducible refine (hS _ B2).mono ?_
        rintro e w3 ⟨rfl, hb3⟩
        have C3 := C2.trans (hb3.mono C2.size)
        clear x0 x1 x2 x3 x4 x5 x6 x7
        obtain ⟨x0, x1, x2, x3, x4, x5, x6, x7, z, B3⟩ := cd_cells C3
        go_wp2_with fail
        with_reducible refine (hU _ B3).mono ?_
        rintro e w4 ⟨rfl, hb4⟩
        have C4 := C3.trans (hb4.mono C3.size)
        clear x0 x1 x2 x3 x4 x5 x6 x7
        obtain ⟨x0, x1, x2, x3, x4, x5, x6, x7, z, B4⟩ := cd_cells C4
        go_wp2_with fail
        with_reducible refine (hO _ B4).mono ?_
        rintro e w5 ⟨rfl, hb5⟩
        have C5 := C4.trans (hb5.mono C4.size)
        clear x0 x1 x2 x3 x4 x5 x6 x7
        obtain ⟨x0, x1, x2, x3, x4, x5, x6, x7, z, B5⟩ := cd_cells C5
        go_wp2_with fail
        with_reducible refine (hR _ B5).mono ?_
        rintro e w6 ⟨rfl, hb6⟩
        have C6 := C5.trans (hb6.mono C5.size)
        clear x0 x1 x2 x3 x4 x5 x6 x7
        obtain ⟨x0, x1, x2, x3, x4, x5, x6, x7, z, B6⟩ := cd_cells C6
        go_wp2_with fail
        go_ret
        exact ⟨T.ret_bool HQ.out.symm, B6⟩
end Go.Proofs.YtomcoacndppkcaaGreatDoor

namespace Go.Proofs.YtomcoacndppkcaaGreatDoor
open Go Go.RowKit
open T (Tg TgAt okS)
open F (OwnF)

theorem own_set {w : World} {base e size n b i : Nat} {v x : Value} {xs : List Value} (h : w.ownsRow base e size v n xs) (hb : b < base) : (w.setCell ⟨b, i, none⟩ x).ownsRow base e size v n xs :=
  World.ownsRow.kept (row := some b) h ⟨rfl, rfl, rfl, by simp, fun k hk hne => by
    unfold World.setCell
    simp only [Array.getElem?_modify]
    rw [if_neg (by intro q; exact hne (by rw [q]))]⟩ (Or.inr (F.own_ne h hb))

/-- the list so far, in a cell of its own -/
structure LsAt (W : World) (b base : Nat) (l : List F.Fd) (v : Value) : Prop where
  c : W.cell? ⟨b, 0, none⟩ = some v
  f : W.frozen? ⟨b, 0, none⟩ = false
  o : OwnF W base v l
  lt : b < base
  lb : base ≤ W.heap.size
theorem LsAt.below {W W' : World} {b base : Nat} {l : List F.Fd} {v : Value} (h : LsAt W b base l v) (e : Below W.heap.size W W') : LsAt W' b base l v := by
  have lz := Nat.lt_of_lt_of_le h.lt h.lb
  exact ⟨by rw [e.cell (p := ⟨b, 0, none⟩) lz]; exact h.c, by rw [e.frozen (p := ⟨b, 0, none⟩) lz]; exact h.f, F.Below.ownF h.o e, h.lt, Nat.le_trans h.lb e.size⟩

set_option maxHeartbeats 4000000 in
set_option maxRecDepth 20000 in
theorem put_any (there : Bool) (name value : ByteArray) (b base : Nat) (l : List F.Fd) (v : Value) (w : World) (h : LsAt w b base l v) (hl : l.length ≤ 100) :
    Calls Tryz.prog 27 #[.bool there, .string name, .string value, .pointer (some ⟨b, 0, none⟩)] w fun e w' => e = .returned (.tuple #[]) ∧ (∃ v', LsAt w' b base (if there then l ++ [(name, value)] else l) v') ∧ Below b w w' := by
  cases there with
  | false =>
    have HH := Lib.hid h
    clear h
    go_enter Tryz.func27, Tryz.ntmps27
    go_wp2
    exact bodyPost_end (v := .tuple #[]) (by simp [results, Tryz.results27, go_sem]) rfl ⟨rfl, ⟨v, HH.out⟩, Below.refl _ _⟩
  | true =>
    obtain ⟨A, n, c, rfl, HN, hc, -⟩ := (F.IsFd.own h.o).split
    have hlc := h.c
    have hlf := h.f
    have ho := h.o
    have lz := Nat.lt_of_lt_of_le h.lt h.lb
    have hlt := h.lt
    have hlb := h.lb
    clear h
    go_enter Tryz.func27, Tryz.ntmps27
    go_wp2_with (at_builtin; refine F.app_fd_at w w.heap.size rfl (by rfl) _ _ (by rfl) base _ l name value (by rfl) ho (by rfl) (by omega) hlb ?_; intro v6 w6 hown6 hgrow; have B6 : Below base w w6 := F.below_app (Below.refl _ _) hlb ho hgrow; obtain ⟨A6, n6, c6, rfl, -, -, -⟩ := (F.IsFd.own hown6).split; have k0 : w6.cell? ⟨b, 0, none⟩ = some (.slice A n c) := (B6.cell (p := ⟨b, 0, none⟩) hlt).trans hlc; have k1 : w6.frozen? ⟨b, 0, none⟩ = false := (B6.frozen (p := ⟨b, 0, none⟩) hlt).trans hlf; clear hgrow)
    have E6 : Below b w w6 := B6.mono (Nat.le_of_lt hlt)
    have z6 := B6.size
    exact bodyPost_end (v := .tuple #[]) (by simp [results, Tryz.results27, go_sem]) rfl
      ⟨rfl, ⟨_, by rw [World.cell?_setCell_same _ _ _ k0], by rw [World.frozen?_setCell]; exact k1, own_set hown6 hlt, hlt, by simpa using Nat.le_trans hlb z6⟩, E6.setCell (Nat.le_refl _) _⟩
end Go.Proofs.YtomcoacndppkcaaGreatDoor

namespace Go.Proofs.YtomcoacndppkcaaGreatDoor
open Go Go.RowKit
open T (Tg TgAt okS)
open F (OwnF)

/-- one more, if it is there -/
def addF (l : List F.Fd) (p : Bool) (name value : ByteArray) : List F.Fd := if p then l ++ [(name, value)] else l
theorem addF_len (l : List F.Fd) (p : Bool) (name value : ByteArray) : (addF l p name value).length ≤ l.length + 1 := by
  unfold addF; split <;> simp
abbrev txB (l : List Tg) (any : Bool) : ByteArray := ⟨(T.txtD l any).toArray⟩
abbrev spB (rt : ByteArray) (rw : Bool) : ByteArray := ⟨(T.spellL (rt, rw)).toArray⟩
/-- the fields of right conditions -/
def fdL (l1 l2 : List Tg) (am an : Bool) (s u : Int) (rt : ByteArray) (rw : Bool) : List F.Fd :=
  addF (addF (addF (addF (addF [] (am || decide (0 < l1.length)) nmM (txB l1 am)) (u != -1) nmU (D.txV u)) (an || decide (0 < l2.length)) nmN (txB l2 an)) (s != -1) nmS (D.txV s)) (someR rt rw) nmR (spB rt rw)

set_option maxHeartbeats 16000000 in
set_option maxRecDepth 100000 in
theorem fields_yes (A B : Option Addr) (n c m d : Nat) (am an : Bool) (s u : Int) (rt : ByteArray) (rw : Bool) (l1 l2 : List Tg) (w : World) (h : TwoAt w A B n m l1 l2) (hr : rt.size ≤ maxLen) (hw : D.LaidD w) (hR : rightD l1 l2 am an s u rt = true) :
    Calls Tryz.prog 12 #[cdV A B n c m d am an s u rt rw] w fun e w' => ∃ v, e = .returned (.tuple #[v, .int .i64 0]) ∧ F.IsFd w' v (fdL l1 l2 am an s u rt rw) ∧ Below w.heap.size w w' := by
  have FB0 : Below w.heap.size w (w.alloc (.cells #[.slice A n c, .slice B m d, .bool am, .bool an, .int .i64 s, .int .i64 u, .string rt, .bool rw] 29)) := by go_grown
  have n32 : n ≤ 400 := by
    have h1 := h.n1
    unfold rightD rtD at hR
    simp only [Bool.and_eq_true, decide_eq_true_eq] at hR
    omega
  have m32 : m ≤ 400 := by
    have h1 := h.n2
    unfold rightD rtD at hR
    simp only [Bool.and_eq_true, decide_eq_true_eq] at hR
    omega
  have hRt : ∀ W, Below w.heap.size w W → Calls Tryz.prog 13 #[cdV A B n c m d am an s u rt rw] W fun e w' => e = .returned (.bool true) ∧ Below W.heap.size W w' := fun W e => by
    have := right_any A B n c m d am an s u rt rw l1 l2 W (h.below e) hr (hw.below e)
    rw [hR] at this
    exact this
  have hU := fun W (e : Below w.heap.size w W) => D.text_any u W (hw.below e)
  have hS := fun W (e : Below w.heap.size w W) => D.text_any s W (hw.below e)
  have hM : ∀ W, Calls Tryz.prog 29 #[cdV A B n c m d am an s u rt rw] W fun e w' => e = .returned (.bool (am || decide (0 < l1.length))) ∧ Below W.heap.size W w' := fun W => by
    rw [h.n1]; exact hasMatch_any A B n c m d am an s u rt rw W
  have hN : ∀ W, Calls Tryz.prog 31 #[cdV A B n c m d am an s u rt rw] W fun e w' => e = .returned (.bool (an || decide (0 < l2.length))) ∧ Below W.heap.size W w' := fun W => by
    rw [h.n2]; exact hasNone_any A B n c m d am an s u rt rw W
  have hG := fun W => hasRange_any A B n c m d am an s u rt rw W
  have hT1 := fun W (e : Below w.heap.size w W) => T.texts_any A n c l1 am W h.n1 n32 h.M1 (h.below e).s1
  have hT2 := fun W (e : Below w.heap.size w W) => T.texts_any B m d l2 an W h.n2 m32 h.M2 (h.below e).s2
  have hT3 := fun W => T.text_any rt rw W hr
  have HF : Hid (fdL l1 l2 am an s u rt rw = addF (addF (addF (addF (addF [] (am || decide (0 < l1.length)) nmM (txB l1 am)) (u != -1) nmU (D.txV u)) (an || decide (0 < l2.length)) nmN (txB l2 an)) (s != -1) nmS (D.txV s)) (someR rt rw) nmR (spB rt rw)) := rfl
  clear h hw hR n32 m32
  unfold D.txR at hU hS
  generalize fdL l1 l2 am an s u rt rw = FL at *
  generalize (am || decide (0 < l1.length)) = pm at *
  generalize (an || decide (0 < l2.length)) = pn at *
  generalize someR rt rw = pr at *
  simp only [txB, spB] at HF
  generalize (⟨(T.txtD l1 am).toArray⟩ : ByteArray) = t1 at *
  generalize (⟨(T.txtD l2 an).toArray⟩ : ByteArray) = t2 at *
  generalize (⟨(T.spellL (rt, rw)).toArray⟩ : ByteArray) = t3 at *
  generalize D.txV u = tu at *
  generalize D.txV s = ts at *
  generalize D.txE u = eu at *
  generalize D.txE s = es at *
  go_enter Tryz.func12, Tryz.ntmps12
  go_wp2_with fail
  with_reducible refine (hRt _ FB0).mono ?_
  rintro e w1 ⟨rfl, hb1⟩
  have C1 := hb1
  obtain ⟨x0, x1, x2, x3, x4, x5, x6, x7, z, B1⟩ := cd_cells C1
  have e2 : Ext w1 (w1.alloc (.cells #[.slice none 0 0] 22)) := (Below.refl _ _).alloc (Nat.le_refl _) _
  have L2 : LsAt (w1.alloc (.cells #[.slice none 0 0] 22)) w1.heap.size (w1.heap.size + 1) [] (.slice none 0 0) := ⟨by simp, by simp, World.ownsRow_nil _ _ _ _, by omega, by simp⟩
  have C2 := C1.trans (e2.mono C1.size)
  have zb : w.heap.size + 1 ≤ w1.heap.size := by omega
  clear x0 x1 x2 x3 x4 x5 x6 x7 hb1 C1 e2
  obtain ⟨x0, x1, x2, x3, x4, x5, x6, x7, z, B2⟩ := cd_cells C2
  go_wp2_with fail
  with_reducible refine (hU _ B2).mono ?_
  rintro e w3 ⟨rfl, hb3⟩
  have C3 := C2.trans (hb3.mono C2.size)
  have L3 := L2.below hb3
  clear x0 x1 x2 x3 x4 x5 x6 x7 L2 hb3
  obtain ⟨x0, x1, x2, x3, x4, x5, x6, x7, z, B3⟩ := cd_cells C3
  go_wp2_with fail
  with_reducible refine (hS _ B3).mono ?_
  rintro e w4 ⟨rfl, hb4⟩
  have C4 := C3.trans (hb4.mono C3.size)
  have HL4 := Lib.hid (L3.below hb4)
  clear x0 x1 x2 x3 x4 x5 x6 x7 L3 hb4 C2 C3 B2
  generalize w1.heap.size = b at *
  have zc : (w.alloc (.cells #[.slice A n c, .slice B m d, .bool am, .bool an, .int .i64 s, .int .i64 u, .string rt, .bool rw] 29)).heap.size ≤ b := by simpa using zb
  obtain ⟨x0, x1, x2, x3, x4, x5, x6, x7, z, B4⟩ := cd_cells C4
  have g0 : ∀ W, Ext w4 W → W.cell? ⟨w.heap.size, 0, none⟩ = some (.slice A n c) := fun W h => by rw [h.cell (p := ⟨w.heap.size, 0, none⟩) z]; exact x0
  have g1 : ∀ W, Ext w4 W → W.cell? ⟨w.heap.size, 1, none⟩ = some (.slice B m d) := fun W h => by rw [h.cell (p := ⟨w.heap.size, 1, none⟩) z]; exact x1
  have g2 : ∀ W, Ext w4 W → W.cell? ⟨w.heap.size, 2, none⟩ = some (.bool am) := fun W h => by rw [h.cell (p := ⟨w.heap.size, 2, none⟩) z]; exact x2
  have g3 : ∀ W, Ext w4 W → W.cell? ⟨w.heap.size, 3, none⟩ = some (.bool an) := fun W h => by rw [h.cell (p := ⟨w.heap.size, 3, none⟩) z]; exact x3
  have g4 : ∀ W, Ext w4 W → W.cell? ⟨w.heap.size, 4, none⟩ = some (.int .i64 s) := fun W h => by rw [h.cell (p := ⟨w.heap.size, 4, none⟩) z]; exact x4
  have g5 : ∀ W, Ext w4 W → W.cell? ⟨w.heap.size, 5, none⟩ = some (.int .i64 u) := fun W h => by rw [h.cell (p := ⟨w.heap.size, 5, none⟩) z]; exact x5
  have g6 : ∀ W, Ext w4 W → W.cell? ⟨w.heap.size, 6, none⟩ = some (.string rt) := fun W h => by rw [h.cell (p := ⟨w.heap.size, 6, none⟩) z]; exact x6
  have g7 : ∀ W, Ext w4 W → W.cell? ⟨w.heap.size, 7, none⟩ = some (.bool rw) := fun W h => by rw [h.cell (p := ⟨w.heap.size, 7, none⟩) z]; exact x7
  go_wp2_with fail
  refine' S.wp_region_made_tail (m := 8) (rels := relsOf ((.val _) :: (.val _) :: (.val _) :: (.val _) :: (.val _) :: (.val _) :: (.val _) :: (.val _) :: [])) (w := w4) 64 (by kernel_rfl) (by kernel_rfl) (by rfl) (relsOf_stable ?sta) ?wka
  case sta => exact stable_val (stable_val (stable_val (stable_val (stable_val (stable_val (stable_val (stable_val (stable_nil))))))))
  case wka =>
    refine' S.walkT_val (by rfl) ?aa0 (fun K hK => ?ba0); (case aa0 => (intro W hW hd; clear hd; go_simp; first | exact ⟨Ext.rf _, rfl⟩ | rfl)); (go_simp; refine hK _ ?_; clear hK K)
    refine' S.walkT_val (by rfl) ?aa1 (fun K hK => ?ba1); (case aa1 => (intro W hW hd; clear hd; go_simp; first | exact ⟨Ext.rf _, rfl⟩ | rfl)); (go_simp; refine hK _ ?_; clear hK K)
    refine' S.walkT_val (by rfl) ?aa2 (fun K hK => ?ba2); (case aa2 => (intro W hW hd; go_simp; (clear hd; exact makes_val (hM W)))); (go_simp; refine hK _ ?_; clear hK K)
    refine' S.walkT_val (by rfl) ?aa3 (fun K hK => ?ba3); (case aa3 => (intro W hW hd; clear hd; go_simp; first | exact ⟨Ext.rf _, rfl⟩ | rfl)); (go_simp; refine hK _ ?_; clear hK K)
    refine' S.walkT_val (by rfl) ?aa4 (fun K hK => ?ba4); (case aa4 => (intro W hW hd; clear hd; go_simp; first | exact ⟨Ext.rf _, rfl⟩ | rfl)); (go_simp; refine hK _ ?_; clear hK K)
    refine' S.walkT_val (by rfl) ?aa5 (fun K hK => ?ba5); (case aa5 => (intro W hW hd; clear hd; go_simp; first | exact ⟨Ext.rf _, rfl⟩ | rfl)); (go_simp; refine hK _ ?_; clear hK K)
    refine' S.walkT_val (by rfl) ?aa6 (fun K hK => ?ba6); (case aa6 => (intro W hW hd; clear hd; go_simp; first | exact ⟨Ext.rf _, rfl⟩ | rfl)); (go_simp; refine hK _ ?_; clear hK K)
    refine' S.walkT_val (by rfl) ?aa7 (fun K hK => ?ba7); (case aa7 => (intro W hW hd; go_simp; (clear hd; exact makes_val (hT1 W (Ext.tr B4 hW))))); (go_simp; refine hK _ ?_; clear hK K)
    refine S.walkT_end (fun W hW hfin => ?_)
    clear hfin g0 g1 g2 g3 g4 g5 g6 g7
    have L5 := HL4.out.below hW
    have D5 := C4.trans (hW.mono C4.size)
    simp only [List.drop_succ_cons, List.drop_zero]
    go_wp2_with fail
    with_reducible refine (put_any pm nmM t1 b (b + 1) [] _ _ L5 (by simp)).mono ?_
    rintro e w6 ⟨rfl, ⟨v6, L6⟩, hb6⟩
    obtain ⟨l6, hl6⟩ : ∃ l6, (if pm = true then [] ++ [(nmM, t1)] else []) = l6 := ⟨_, rfl⟩
    rw [hl6] at L6
    have hc6 : l6.length ≤ 1 := by rw [← hl6]; split <;> simp
    have C6 := D5.trans (hb6.mono zc)
    clear x0 x1 x2 x3 x4 x5 x6 x7 D5 L5 hb6 HL4 hW
    obtain ⟨x0, x1, x2, x3, x4, x5, x6, x7, z, B6⟩ := cd_cells C6
    go_wp2_with fail
    with_reducible refine (put_any (u != -1) nmU tu b (b + 1) l6 _ _ L6 (by omega)).mono ?_
    rintro e w7 ⟨rfl, ⟨v7, L7⟩, hb7⟩
    obtain ⟨l7, hl7⟩ : ∃ l7, (if (u != -1) = true then l6 ++ [(nmU, tu)] else l6) = l7 := ⟨_, rfl⟩
    rw [hl7] at L7
    have hc7 : l7.length ≤ 2 := by rw [← hl7]; (split; (simp; omega); omega)
    have C7 := C6.trans (hb7.mono zc)
    have HL7 := Lib.hid L7
    clear x0 x1 x2 x3 x4 x5 x6 x7 L6 hb7 C6 B6 L7
    obtain ⟨x0, x1, x2, x3, x4, x5, x6, x7, z, B7⟩ := cd_cells C7
    have g0 : ∀ W, Ext w7 W → W.cell? ⟨w.heap.size, 0, none⟩ = some (.slice A n c) := fun W h => by rw [h.cell (p := ⟨w.heap.size, 0, none⟩) z]; exact x0
    have g1 : ∀ W, Ext w7 W → W.cell? ⟨w.heap.size, 1, none⟩ = some (.slice B m d) := fun W h => by rw [h.cell (p := ⟨w.heap.size, 1, none⟩) z]; exact x1
    have g2 : ∀ W, Ext w7 W → W.cell? ⟨w.heap.size, 2, none⟩ = some (.bool am) := fun W h => by rw [h.cell (p := ⟨w.heap.size, 2, none⟩) z]; exact x2
    have g3 : ∀ W, Ext w7 W → W.cell? ⟨w.heap.size, 3, none⟩ = some (.bool an) := fun W h => by rw [h.cell (p := ⟨w.heap.size, 3, none⟩) z]; exact x3
    have g4 : ∀ W, Ext w7 W → W.cell? ⟨w.heap.size, 4, none⟩ = some (.int .i64 s) := fun W h => by rw [h.cell (p := ⟨w.heap.size, 4, none⟩) z]; exact x4
    have g5 : ∀ W, Ext w7 W → W.cell? ⟨w.heap.size, 5, none⟩ = some (.int .i64 u) := fun W h => by rw [h.cell (p := ⟨w.heap.size, 5, none⟩) z]; exact x5
    have g6 : ∀ W, Ext w7 W → W.cell? ⟨w.heap.size, 6, none⟩ = some (.string rt) := fun W h => by rw [h.cell (p := ⟨w.heap.size, 6, none⟩) z]; exact x6
    have g7 : ∀ W, Ext w7 W → W.cell? ⟨w.heap.size, 7, none⟩ = some (.bool rw) := fun W h => by rw [h.cell (p := ⟨w.heap.size, 7, none⟩) z]; exact x7
    have hl6' := Lib.hid hl6
    have hl7' := Lib.hid hl7
    clear hl6 hl7
    go_wp2_with fail
    refine' S.wp_region_made_tail (m := 8) (rels := relsOf ((.val _) :: (.val _) :: (.val _) :: (.val _) :: (.val _) :: (.val _) :: (.val _) :: (.val _) :: [])) (w := w7) 64 (by kernel_rfl) (by kernel_rfl) (by rfl) (relsOf_stable ?stb) ?wkb
    case stb => exact stable_val (stable_val (stable_val (stable_val (stable_val (stable_val (stable_val (stable_val (stable_nil))))))))
    case wkb =>
      refine' S.walkT_val (by rfl) ?ab0 (fun K hK => ?bb0); (case ab0 => (intro W hW hd; clear hd; go_simp; first | exact ⟨Ext.rf _, rfl⟩ | rfl)); (go_simp; refine hK _ ?_; clear hK K)
      refine' S.walkT_val (by rfl) ?ab1 (fun K hK => ?bb1); (case ab1 => (intro W hW hd; clear hd; go_simp; first | exact ⟨Ext.rf _, rfl⟩ | rfl)); (go_simp; refine hK _ ?_; clear hK K)
      refine' S.walkT_val (by rfl) ?ab2 (fun K hK => ?bb2); (case ab2 => (intro W hW hd; go_simp; (clear hd; exact makes_val (hN W)))); (go_simp; refine hK _ ?_; clear hK K)
      refine' S.walkT_val (by rfl) ?ab3 (fun K hK => ?bb3); (case ab3 => (intro W hW hd; clear hd; go_simp; first | exact ⟨Ext.rf _, rfl⟩ | rfl)); (go_simp; refine hK _ ?_; clear hK K)
      refine' S.walkT_val (by rfl) ?ab4 (fun K hK => ?bb4); (case ab4 => (intro W hW hd; clear hd; go_simp; first | exact ⟨Ext.rf _, rfl⟩ | rfl)); (go_simp; refine hK _ ?_; clear hK K)
      refine' S.walkT_val (by rfl) ?ab5 (fun K hK => ?bb5); (case ab5 => (intro W hW hd; clear hd; go_simp; first | exact ⟨Ext.rf _, rfl⟩ | rfl)); (go_simp; refine hK _ ?_; clear hK K)
      refine' S.walkT_val (by rfl) ?ab6 (fun K hK => ?bb6); (case ab6 => (intro W hW hd; clear hd; go_simp; first | exact ⟨Ext.rf _, rfl⟩ | rfl)); (go_simp; refine hK _ ?_; clear hK K)
      refine' S.walkT_val (by rfl) ?ab7 (fun K hK => ?bb7); (case ab7 => (intro W hW hd; go_simp; (clear hd; exact makes_val (hT2 W (Ext.tr B7 hW))))); (go_simp; refine hK _ ?_; clear hK K)
      refine S.walkT_end (fun W hW hfin => ?_)
      clear hfin g0 g1 g2 g3 g4 g5 g6 g7
      have L8 := HL7.out.below hW
      have D8 := C7.trans (hW.mono C7.size)
      simp only [List.drop_succ_cons, List.drop_zero]
      go_wp2_with fail
      with_reducible refine (put_any pn nmN t2 b (b + 1) l7 _ _ L8 (by omega)).mono ?_
      rintro e w9 ⟨rfl, ⟨v9, L9⟩, hb9⟩
      obtain ⟨l9, hl9⟩ : ∃ l9, (if pn = true then l7 ++ [(nmN, t2)] else l7) = l9 := ⟨_, rfl⟩
      rw [hl9] at L9
      have hc9 : l9.length ≤ 3 := by rw [← hl9]; (split; (simp; omega); omega)
      have C9 := D8.trans (hb9.mono zc)
      clear x0 x1 x2 x3 x4 x5 x6 x7 D8 L8 hb9 HL7 hW
      obtain ⟨x0, x1, x2, x3, x4, x5, x6, x7, z, B9⟩ := cd_cells C9
      have hl9' := Lib.hid hl9
      clear hl9
      go_wp2_with fail
      with_reducible refine (put_any (s != -1) nmS ts b (b + 1) l9 _ _ L9 (by omega)).mono ?_
      rintro e w10 ⟨rfl, ⟨v10, L10⟩, hb10⟩
      obtain ⟨l10, hl10⟩ : ∃ l10, (if (s != -1) = true then l9 ++ [(nmS, ts)] else l9) = l10 := ⟨_, rfl⟩
      rw [hl10] at L10
      have hc10 : l10.length ≤ 4 := by rw [← hl10]; (split; (simp; omega); omega)
      have C10 := C9.trans (hb10.mono zc)
      have HL10 := Lib.hid L10
      clear x0 x1 x2 x3 x4 x5 x6 x7 L9 hb10 C9 B9 L10
      obtain ⟨x0, x1, x2, x3, x4, x5, x6, x7, z, B10⟩ := cd_cells C10
      have g0 : ∀ W, Ext w10 W → W.cell? ⟨w.heap.size, 0, none⟩ = some (.slice A n c) := fun W h => by rw [h.cell (p := ⟨w.heap.size, 0, none⟩) z]; exact x0
      have g1 : ∀ W, Ext w10 W → W.cell? ⟨w.heap.size, 1, none⟩ = some (.slice B m d) := fun W h => by rw [h.cell (p := ⟨w.heap.size, 1, none⟩) z]; exact x1
      have g2 : ∀ W, Ext w10 W → W.cell? ⟨w.heap.size, 2, none⟩ = some (.bool am) := fun W h => by rw [h.cell (p := ⟨w.heap.size, 2, none⟩) z]; exact x2
      have g3 : ∀ W, Ext w10 W → W.cell? ⟨w.heap.size, 3, none⟩ = some (.bool an) := fun W h => by rw [h.cell (p := ⟨w.heap.size, 3, none⟩) z]; exact x3
      have g4 : ∀ W, Ext w10 W → W.cell? ⟨w.heap.size, 4, none⟩ = some (.int .i64 s) := fun W h => by rw [h.cell (p := ⟨w.heap.size, 4, none⟩) z]; exact x4
      have g5 : ∀ W, Ext w10 W → W.cell? ⟨w.heap.size, 5, none⟩ = some (.int .i64 u) := fun W h => by rw [h.cell (p := ⟨w.heap.size, 5, none⟩) z]; exact x5
      have g6 : ∀ W, Ext w10 W → W.cell? ⟨w.heap.size, 6, none⟩ = some (.string rt) := fun W h => by rw [h.cell (p := ⟨w.heap.size, 6, none⟩) z]; exact x6
      have g7 : ∀ W, Ext w10 W → W.cell? ⟨w.heap.size, 7, none⟩ = some (.bool rw) := fun W h => by rw [h.cell (p := ⟨w.heap.size, 7, none⟩) z]; exact x7
      have hl10' := Lib.hid hl10
      clear hl10
      go_wp2_with fail
      refine' S.wp_region_made_tail (m := 6) (rels := relsOf ((.val _) :: (.val _) :: (.val _) :: (.val _) :: (.val _) :: (.val _) :: [])) (w := w10) 64 (by kernel_rfl) (by kernel_rfl) (by rfl) (relsOf_stable ?stc) ?wkc
      case stc => exact stable_val (stable_val (stable_val (stable_val (stable_val (stable_val (stable_nil))))))
      case wkc =>
        refine' S.walkT_val (by rfl) ?ac0 (fun K hK => ?bc0); (case ac0 => (intro W hW hd; clear hd; go_simp; first | exact ⟨Ext.rf _, rfl⟩ | rfl)); (go_simp; refine hK _ ?_; clear hK K)
        refine' S.walkT_val (by rfl) ?ac1 (fun K hK => ?bc1); (case ac1 => (intro W hW hd; clear hd; go_simp; first | exact ⟨Ext.rf _, rfl⟩ | rfl)); (go_simp; refine hK _ ?_; clear hK K)
        refine' S.walkT_val (by rfl) ?ac2 (fun K hK => ?bc2); (case ac2 => (intro W hW hd; go_simp; (clear hd; exact makes_val (hG W)))); (go_simp; refine hK _ ?_; clear hK K)
        refine' S.walkT_val (by rfl) ?ac3 (fun K hK => ?bc3); (case ac3 => (intro W hW hd; clear hd; go_simp; first | exact ⟨Ext.rf _, rfl⟩ | rfl)); (go_simp; refine hK _ ?_; clear hK K)
        refine' S.walkT_val (by rfl) ?ac4 (fun K hK => ?bc4); (case ac4 => (intro W hW hd; clear hd; go_simp; first | exact ⟨Ext.rf _, rfl⟩ | rfl)); (go_simp; refine hK _ ?_; clear hK K)
        refine' S.walkT_val (by rfl) ?ac5 (fun K hK => ?bc5); (case ac5 => (intro W hW hd; go_simp; (clear hd; exact makes_val (hT3 W)))); (go_simp; refine hK _ ?_; clear hK K)
        refine S.walkT_end (fun W hW hfin => ?_)
        clear hfin g0 g1 g2 g3 g4 g5 g6 g7
        have L11 := HL10.out.below hW
        have D11 := C10.trans (hW.mono C10.size)
        simp only [List.drop_succ_cons, List.drop_zero]
        go_wp2_with fail
        with_reducible refine (put_any pr nmR t3 b (b + 1) l10 _ _ L11 (by omega)).mono ?_
        rintro e w12 ⟨rfl, ⟨v12, L12⟩, hb12⟩
        obtain ⟨l12, hl12⟩ : ∃ l12, (if pr = true then l10 ++ [(nmR, t3)] else l10) = l12 := ⟨_, rfl⟩
        rw [hl12] at L12
        have C12 := D11.trans (hb12.mono zc)
        have hFL : Hid (FL = l12) := by unfold Hid; rw [HF.out]; unfold addF; rw [← hl12, ← hl10'.out, ← hl9'.out, ← hl7'.out, ← hl6'.out]
        have hown := F.IsFd.own L12.o
        have hcell := L12.c
        have hlt12 : b < w12.heap.size := Nat.lt_of_lt_of_le L12.lt L12.lb
        have HO := Lib.hid hown
        obtain ⟨A9, n9, c9, rfl, -, -, -⟩ := hown.split
        have B12 : Below w.heap.size w w12 := Ext.tr ((Below.refl _ _).alloc (Nat.le_refl _) _) C12
        clear x0 x1 x2 x3 x4 x5 x6 x7 D11 L11 hb12 HL10 hW L12 hown
        go_wp2_with fail
        go_ret2
        exact ⟨_, rfl, by rw [hFL.out]; exact HO.out, B12⟩
end Go.Proofs.YtomcoacndppkcaaGreatDoor

