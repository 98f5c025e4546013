/-
  A region that draws its order, as in XRegion, whose last operations wait for all others (a store, say): the head by relations, in one walk; the tail as a list of operations in the text's order.
-/
import Derived.Test.YtomcoacndppkcaaGreatDoorRegion
namespace Go.Proofs.YtomcoacndppkcaaGreatDoor
open Go Go.RowKit

section
variable (P : Program) (ops : Array Oper) (rels : Nat → Rl) (w : World) (m : Nat)

def walkT (Q : Exit → Act → World → Prop) : Nat → List Oper → Act → Prop
  | _, [], a => ∀ W, Ext w W → (∀ j d, j < m → (ops[j]?).bind (·.dst) = some d → (rels j).ok (a.tmps.getD d undef) W) → wpList P ops Q (ops.toList.drop m) a W
  | k, o :: l, a => stepM P ops rels w o k a ∧ ∀ v, (match rels k with | .val c => v = c | .rel _ => True) → walkT Q (k + 1) l (a.put o.dst v)

def okTB (n : Nat) : Bool :=
  Region.noSelect ops && decide (m ≤ ops.size) && (List.range ops.size).all fun j => match ops[j]? with
    | none => true
    | some o =>
      (decide (m ≤ j) || (match o.dst with | none => false | some d => decide (d < n))) && o.after.all (fun e => !Region.binds .any e || decide (e.on < j)) &&
      (decide (j < m) || (List.range j).all fun k => o.after.any (fun e => Region.binds .any e && e.on == k)) &&
      (List.range ops.size).all fun k => match ops[k]? with
        | none => true
        | some p => (k == j || o.dst == none || o.dst != p.dst) && (match p.dst with
          | none => true
          | some t => !(o.looksAt ops).contains t || k == j || (if k < j then o.after.any (fun e => Region.binds .any e && e.on == k) else p.after.any (fun e => Region.binds .any e && e.on == j)))

structure OkT (n : Nat) : Prop where
  le : m ≤ ops.size
  sel : ∀ (j : Nat) (o : Oper) (cs : Array SelectCase) (b : Bool), ops[j]? = some o → o.op ≠ .select cs b
  dst : ∀ (j : Nat) (o : Oper), j < m → ops[j]? = some o → ∃ d, o.dst = some d ∧ d < n
  low : ∀ (j : Nat) (o : Oper) (e : Edge), ops[j]? = some o → e ∈ o.after → Region.binds .any e = true → e.on < j
  all : ∀ (j : Nat) (o : Oper) (k : Nat), m ≤ j → ops[j]? = some o → k < j → ∃ e ∈ o.after, Region.binds .any e = true ∧ e.on = k
  uniq : ∀ (j : Nat) (o : Oper) (k : Nat) (p : Oper) (d : Tmp), ops[j]? = some o → ops[k]? = some p → k ≠ j → o.dst = some d → p.dst ≠ some d
  new : ∀ (j : Nat) (o : Oper) (k : Nat) (p : Oper) (t : Tmp), ops[j]? = some o → ops[k]? = some p → p.dst = some t → t ∈ o.looksAt ops → k < j → ∃ e ∈ o.after, Region.binds .any e = true ∧ e.on = k
  old : ∀ (j : Nat) (o : Oper) (k : Nat) (p : Oper) (t : Tmp), ops[j]? = some o → ops[k]? = some p → p.dst = some t → t ∈ o.looksAt ops → j < k → ∃ e ∈ p.after, Region.binds .any e = true ∧ e.on = j

variable {P ops rels w m}
theorem okT_of {n : Nat} (h : okTB ops m n = true) : OkT ops m n := by
  unfold okTB at h
  rw [Bool.and_eq_true, Bool.and_eq_true] at h
  obtain ⟨⟨hs, hle⟩, h⟩ := h
  rw [List.all_eq_true] at h
  have lt : ∀ j o, ops[j]? = some o → j < ops.size := fun j o ho => (Array.getElem?_eq_some_iff.1 ho).1
  have H := fun j o (ho : ops[j]? = some o) => by
    have := h j (List.mem_range.2 (lt j o ho))
    simp only [ho, Bool.and_eq_true] at this
    exact this
  have H2 := fun j o (ho : ops[j]? = some o) k p (hp : ops[k]? = some p) => by
    have := List.all_eq_true.1 (H j o ho).2 k (List.mem_range.2 (lt k p hp))
    simp only [hp, Bool.and_eq_true] at this
    exact this
  refine ⟨by simpa using hle, Region.noSelect_spec hs, fun j o hj ho => ?_, fun j o e ho he hb => ?_, fun j o k hm ho hk => ?_, fun j o k p d ho hp hne hd heq => ?_, fun j o k p t ho hp ht hl hkj => ?_, fun j o k p t ho hp ht hl hjk => ?_⟩
  · have := (H j o ho).1.1.1
    have hmj : decide (m ≤ j) = false := by simp; omega
    rw [hmj, Bool.false_or] at this
    cases hd : o.dst with
    | none => rw [hd] at this; cases this
    | some d => rw [hd] at this; exact ⟨d, rfl, by simpa using this⟩
  · have := Array.all_eq_true_iff_forall_mem.1 (H j o ho).1.1.2 e he
    simpa [hb] using this
  · have := (H j o ho).1.2
    have hmj : decide (j < m) = false := by simp; omega
    rw [hmj, Bool.false_or, List.all_eq_true] at this
    have := this k (List.mem_range.2 hk)
    simp only [Array.any_eq_true, Bool.and_eq_true, beq_iff_eq] at this
    obtain ⟨i, hi, h1, h2⟩ := this
    exact ⟨_, Array.getElem_mem hi, h1, h2⟩
  · have := (H2 j o ho k p hp).1
    simp [hne, heq, hd] at this
  · have := (H2 j o ho k p hp).2
    simp only [ht] at this
    have hc : (o.looksAt ops).contains t = true := by simpa using hl
    have hkj' : (k == j) = false := by simp; omega
    rw [hc, hkj', if_pos hkj] at this
    simp only [Bool.not_true, Bool.false_or, Array.any_eq_true, Bool.and_eq_true, beq_iff_eq] at this
    obtain ⟨i, hi, h1, h2⟩ := this
    exact ⟨_, Array.getElem_mem hi, h1, h2⟩
  · have := (H2 j o ho k p hp).2
    simp only [ht] at this
    have hc : (o.looksAt ops).contains t = true := by simpa using hl
    have hkj' : (k == j) = false := by simp; omega
    rw [hc, hkj', if_neg (by omega)] at this
    simp only [Bool.not_true, Bool.false_or, Array.any_eq_true, Bool.and_eq_true, beq_iff_eq] at this
    obtain ⟨i, hi, h1, h2⟩ := this
    exact ⟨_, Array.getElem_mem hi, h1, h2⟩

theorem symT_hit {n : Nat} (O : OkT ops m n) (vals : Nat → Value) (a : Act) (hn : a.tmps.size = n) {t : Tmp} {k : Nat} {p : Oper} (hk : k < m) (hp : ops[k]? = some p) (ht : p.dst = some t) : ∀ j, k < j → (symM ops vals a j).tmps[t]? = some (vals k)
  | 0, h => by omega
  | j + 1, h => by
    obtain ⟨d, hd, hdn⟩ := O.dst k p hk hp
    rw [ht] at hd
    obtain rfl := Option.some.inj hd
    simp only [symM]
    by_cases hkj : k = j
    · subst hkj
      simp only [hp, ht]
      exact put_same _ _ (by rw [sym_size, hn]; exact hdn)
    · have ih := symT_hit O vals a hn hk hp ht j (by omega)
      split
      · rename_i o ho
        rw [put_other _ _ (O.uniq k p j o t hp ho (by omega) ht)]; exact ih
      · exact ih
theorem walkT_steps {Q : Exit → Act → World → Prop} (vals : Nat → Value) (hv : ∀ k c, rels k = .val c → vals k = c) (a : Act) : ∀ (l : List Oper) (k : Nat), (∀ j o, l[j]? = some o → ops[k + j]? = some o) → k + l.length = m → walkT P ops rels w m Q k l (symM ops vals a k) →
    (∀ j o, k ≤ j → j < m → ops[j]? = some o → stepM P ops rels w o j (symM ops vals a j)) ∧ (∀ W, Ext w W → (∀ j d, j < m → (ops[j]?).bind (·.dst) = some d → (rels j).ok ((symM ops vals a m).tmps.getD d undef) W) → wpList P ops Q (ops.toList.drop m) (symM ops vals a m) W)
  | [], k, hl, hm, h => by
    simp at hm; subst hm
    exact ⟨fun j o hj hjm ho => by omega, h⟩
  | o :: l, k, hl, hm, h => by
    have h0 : ops[k]? = some o := by simpa using hl 0 o rfl
    obtain ⟨h1, h2⟩ := h
    have e : symM ops vals a (k + 1) = (symM ops vals a k).put o.dst (vals k) := by simp only [symM, h0]
    have h3 := h2 (vals k) (by
      cases hr : rels k with
      | val c => exact hv k c hr
      | rel _ => trivial)
    rw [← e] at h3
    obtain ⟨i1, i2⟩ := walkT_steps vals hv a l (k + 1) (fun j p hp => by have := hl (j + 1) p (by simpa using hp); simpa [Nat.add_assoc, Nat.add_comm 1 j] using this) (by simp at hm; omega) h3
    refine ⟨fun j p hj hjm hp => ?_, i2⟩
    by_cases hjk : j = k
    · subst hjk
      rw [h0] at hp
      obtain rfl := Option.some.inj hp
      exact h1
    · exact i1 j p (by omega) hjm hp

theorem sameT_looks {n : Nat} (O : OkT ops m n) {a0 a : Act} (hn : a0.tmps.size = n) {listed : Array Bool} {W : World} (I : InvM ops rels w a0 listed a W) (hT : ∀ k, m ≤ k → listed[k]? ≠ some true) {j : Nat} {o : Oper} (hjm : j < m) (hj : ops[j]? = some o)
    (hun : listed[j]? = some false) (hall : ∀ e ∈ o.after, Region.binds .any e = true → listed[e.on]? = some true) (t : Tmp) (ht : t ∈ o.looksAt ops) :
    (symM ops (valM rels ops a) a0 j).tmps[t]? = a.tmps[t]? := by
  by_cases hw : ∃ (k : Nat) (p : Oper), ops[k]? = some p ∧ p.dst = some t
  · obtain ⟨k, p, hp, hd⟩ := hw
    have only : ∀ (k' : Nat) (p' : Oper), ops[k']? = some p' → p'.dst = some t → k' = k := fun k' p' hp' hd' => by
      refine Classical.byContradiction fun hne => O.uniq k p k' p' t hp hp' hne hd hd'
    rcases Nat.lt_or_ge k j with hkj | hkj
    · obtain ⟨e, he, hb, hon⟩ := O.new j o k p t hj hp hd ht hkj
      have hl := hall e he hb
      rw [hon] at hl
      obtain ⟨d, hd', hdn⟩ := O.dst k p (by omega) hp
      rw [hd] at hd'
      obtain rfl := Option.some.inj hd'
      rw [symT_hit O _ a0 hn (by omega) hp hd j hkj, valM_ok I hp hd hl]
      have : t < a.tmps.size := by rw [I.size, hn]; exact hdn
      rw [getD_of, Array.getElem?_eq_getElem this]; rfl
    · have hk : listed[k]? ≠ some true := fun hl => by
        by_cases hkj' : k = j
        · subst hkj'; rw [hun] at hl; cases hl
        · by_cases hkm : m ≤ k
          · exact hT k hkm hl
          obtain ⟨e, he, hb, hon⟩ := O.old j o k p t hj hp hd ht (by omega)
          have := I.shut k p hp hl e he hb
          rw [hon, hun] at this; cases this
      rw [sym_miss _ _ j fun k' p' hk' hp' hd' => by have := only k' p' hp' hd'; omega]
      exact (I.old t fun k' p' hp' hl' hd' => by have := only k' p' hp' hd'; subst this; exact hk hl').symm
  · rw [sym_miss _ _ j fun k p _ hp hd => hw ⟨k, p, hp, hd⟩]
    exact (I.old t fun k p hp _ hd => hw ⟨k, p, hp, hd⟩).symm

theorem invT_next {n : Nat} (O : OkT ops m n) (hst : ∀ k, (rels k).stable) {a0 a : Act} (hn : a0.tmps.size = n) {listed : Array Bool} {W W' : World} (I : InvM ops rels w a0 listed a W) {j : Nat} {o : Oper} (hjm : j < m) (hj : ops[j]? = some o)
    (hun : listed[j]? = some false) (hall : ∀ e ∈ o.after, Region.binds .any e = true → listed[e.on]? = some true) {v : Value} (he : Ext W W') (hv : (rels j).ok v W') :
    InvM ops rels w a0 (listed.setIfInBounds j true) (a.put o.dst v) W' := by
  obtain ⟨d, hd, hdn⟩ := O.dst j o hjm hj
  have hjl : j < listed.size := (Array.getElem?_eq_some_iff.1 hun).1
  have look : ∀ k, (listed.setIfInBounds j true)[k]? = some true → k ≠ j → listed[k]? = some true := fun k hk hne => by
    rwa [Array.getElem?_setIfInBounds_ne (Ne.symm hne)] at hk
  have up : ∀ k, listed[k]? = some true → (listed.setIfInBounds j true)[k]? = some true := fun k hk => by
    by_cases hkj : k = j
    · rw [hkj, Array.getElem?_setIfInBounds_self_of_lt hjl]
    · rw [Array.getElem?_setIfInBounds_ne (Ne.symm hkj)]; exact hk
  refine ⟨I.ext.tr he, by simp [I.len], by rw [put_defers]; exact I.defers, by rw [put_size]; exact I.size, fun k p t hp ht hl => ?_, fun t ht => ?_, fun k p hp hl e hea hb => ?_⟩
  · by_cases hkj : k = j
    · subst hkj
      rw [hj] at hp
      obtain rfl := Option.some.inj hp
      rw [hd] at ht
      obtain rfl := Option.some.inj ht
      rw [getD_of, hd, put_same _ _ (by rw [I.size, hn]; exact hdn)]
      exact hv
    · rw [getD_of, put_other _ _ (O.uniq k p j o t hp hj (Ne.symm hkj) ht), ← getD_of]
      exact Rl.keep (hst k) (I.ok k p t hp ht (look k hl hkj)) he
  · rw [put_other _ _ (ht j o hj (by simp [hjl]))]
    exact I.old t fun k p hp hl => ht k p hp (up k hl)
  · by_cases hkj : k = j
    · subst hkj
      rw [hj] at hp
      obtain rfl := Option.some.inj hp
      exact up _ (hall e hea hb)
    · exact up _ (I.shut k p hp (look k hl hkj) e hea hb)

/-- the tail: whatever is unlisted waits for all ahead of it -/
theorem wpAny_tail {n : Nat} {Q : Exit → Act → World → Prop} (O : OkT ops m n) : ∀ (fuel k : Nat) (listed : Array Bool) (a : Act) (W : World), m ≤ k → k ≤ ops.size → listed.size = ops.size → ops.size ≤ fuel + k → (∀ j, j < ops.size → listed[j]? = some (decide (j < k))) →
    wpList P ops Q (ops.toList.drop k) a W → wpAny P .any ops Q fuel listed a W := by
  intro fuel
  induction fuel with
  | zero =>
    intro k listed a W hmk hks hlen hf hl h
    have e : k = ops.size := by omega
    subst e
    rw [List.drop_of_length_le (by simp)] at h
    refine ⟨List.eq_nil_iff_forall_not_mem.2 fun j hj => ?_, h⟩
    obtain ⟨h1, o, ho, _⟩ := mem_ready.1 hj
    have hjs := (Array.getElem?_eq_some_iff.1 ho).1
    have := hl j hjs
    simp [hjs, this] at h1
  | succ fuel ih =>
    intro k listed a W hmk hks hlen hf hl h
    rcases Nat.lt_or_ge k ops.size with hk | hk
    · have ho : ops[k]? = some ops[k] := Array.getElem?_eq_getElem hk
      have hd : ops.toList.drop k = ops[k] :: ops.toList.drop (k + 1) := by rw [List.drop_eq_getElem_cons (by simpa using hk)]; rfl
      rw [hd] at h
      have hkr : k ∈ Region.ready .any ops listed := mem_ready.2 ⟨by have := hl k hk; rw [Array.getElem?_eq_getElem (by omega)] at this; simp [hlen, hk] at this ⊢; exact this, _, ho, fun e he hb => by
        have hlo := O.low k _ e ho he hb
        have := hl e.on (by omega)
        rw [Array.getElem?_eq_getElem (by omega)] at this
        simp [hlo, hlen, show e.on < ops.size by omega] at this ⊢; exact this⟩
      refine ⟨fun h0 => (by rw [h0] at hkr; cases hkr), fun i hi => ?_⟩
      have hik : i = k := by
        obtain ⟨h1, o, hoi, h2⟩ := mem_ready.1 hi
        have his := (Array.getElem?_eq_some_iff.1 hoi).1
        have hge : k ≤ i := by
          refine Nat.le_of_not_lt fun hlt => ?_
          have := hl i his
          rw [Array.getElem?_eq_getElem (by omega)] at this
          simp [hlt, hlen, his] at this h1
          rw [this] at h1; cases h1
        rcases Nat.lt_or_ge k i with hlt | hge'
        · obtain ⟨e, he, hb, hon⟩ := O.all i o k (by omega) hoi hlt
          have h3 := h2 e he hb
          rw [hon] at h3
          have := hl k hk
          rw [Array.getElem?_eq_getElem (by omega)] at this
          simp [hlen, hk] at this h3
          rw [this] at h3; cases h3
        · omega
      subst hik
      have nx : ∀ a' W', wpList P ops Q (ops.toList.drop (i + 1)) a' W' → wpAny P .any ops Q fuel (listed.setIfInBounds i true) a' W' := fun a' W' h' => by
        refine ih (i + 1) _ a' W' (by omega) (by omega) (by simp [hlen]) (by omega) (fun j hj => ?_) h'
        by_cases hji : j = i
        · subst hji; rw [Array.getElem?_setIfInBounds_self_of_lt (by omega)]; simp
        · rw [Array.getElem?_setIfInBounds_ne (Ne.symm hji), hl j hj]; simp; omega
      unfold wpOp
      simp only [ho]
      unfold wpList at h
      by_cases hwt : Region.wanted ops[i] (yielded ops a.tmps) = true
      · rw [if_pos hwt] at h ⊢
        exact h.imp (fun h => Oper.wp_mono nx h) id
      · rw [if_neg hwt] at h ⊢
        exact nx _ _ h
    · have e : k = ops.size := by omega
      subst e
      rw [List.drop_of_length_le (by simp)] at h
      refine ⟨fun _ => h, fun j hj => ?_⟩
      obtain ⟨h1, o, ho, _⟩ := mem_ready.1 hj
      have hjs := (Array.getElem?_eq_some_iff.1 ho).1
      have := hl j hjs
      simp [hjs, this] at h1

theorem wpAny_madeT {n : Nat} {Q : Exit → Act → World → Prop} (O : OkT ops m n) (hst : ∀ k, (rels k).stable) {a0 : Act} (hn : a0.tmps.size = n) (hw : walkT P ops rels w m Q 0 (ops.toList.take m) a0) :
    ∀ (fuel : Nat) (listed : Array Bool) (a : Act) (W : World), InvM ops rels w a0 listed a W → (∀ k, m ≤ k → k < ops.size → listed[k]? = some false) → (List.range ops.size).countP (fun j => listed[j]? == some false) ≤ fuel → wpAny P .any ops Q fuel listed a W := by
  have hlen : 0 + (ops.toList.take m).length = m := by have := O.le; simp; omega
  have htk : ∀ j o, (ops.toList.take m)[j]? = some o → ops[0 + j]? = some o := fun j o h => by
    rw [List.getElem?_take] at h
    split at h
    · simpa using h
    · cases h
  have cntT : ∀ (listed : Array Bool), (∀ k, m ≤ k → k < ops.size → listed[k]? = some false) → ops.size ≤ (List.range ops.size).countP (fun j => listed[j]? == some false) + m := fun listed hT => by
    have e : List.range ops.size = List.range' 0 m ++ List.range' m (ops.size - m) := by
      rw [List.range_eq_range']
      have := List.range'_append_1 (s := 0) (m := m) (n := ops.size - m)
      rw [Nat.zero_add, show m + (ops.size - m) = ops.size by have := O.le; omega] at this
      exact this.symm
    rw [e, List.countP_append]
    have : (List.range' m (ops.size - m)).countP (fun j => listed[j]? == some false) = ops.size - m := by
      have h := (List.countP_eq_length (p := fun j => listed[j]? == some false) (l := List.range' m (ops.size - m))).2 (fun j hj => by
        have hj' := List.mem_range'_1.1 hj
        rw [hT j (by omega) (by omega)]; rfl)
      rw [h]; simp
    omega
  have fin : ∀ (fuel : Nat) (listed : Array Bool) (a : Act) (W : World), InvM ops rels w a0 listed a W → (∀ k, m ≤ k → k < ops.size → listed[k]? = some false) → (∀ j, j < m → listed[j]? = some true) → ops.size ≤ fuel + m → wpAny P .any ops Q fuel listed a W := fun fuel listed a W I hT hall hf => by
    have h := (walkT_steps (valM rels ops a) (fun k c hk => by simp [valM, hk]) a0 (ops.toList.take m) 0 htk hlen hw).2
    have e : symM ops (valM rels ops a) a0 m = a := by
      have e1 : (symM ops (valM rels ops a) a0 m).tmps = a.tmps := by
        refine Array.ext_getElem? fun t => ?_
        by_cases hw : ∃ (k : Nat) (p : Oper), k < m ∧ ops[k]? = some p ∧ p.dst = some t
        · obtain ⟨k, p, hk, hp, hd⟩ := hw
          obtain ⟨d, hd', hdn⟩ := O.dst k p hk hp
          rw [hd] at hd'
          obtain rfl := Option.some.inj hd'
          have : t < a.tmps.size := by rw [I.size, hn]; exact hdn
          rw [symT_hit O _ a0 hn hk hp hd _ hk, valM_ok I hp hd (hall k hk), getD_of, Array.getElem?_eq_getElem this]; rfl
        · rw [sym_miss _ _ _ fun k p hk hp hd => hw ⟨k, p, hk, hp, hd⟩]
          refine (I.old t fun k p hp hl hd => ?_).symm
          rcases Nat.lt_or_ge k m with hk | hk
          · exact hw ⟨k, p, hk, hp, hd⟩
          · rw [hT k hk (Array.getElem?_eq_some_iff.1 hp).1] at hl; cases hl
      have e2 : (symM ops (valM rels ops a) a0 m).defers = a.defers := by rw [sym_defers, I.defers]
      generalize symM ops (valM rels ops a) a0 m = b at e1 e2
      cases a; cases b; simp_all
    rw [e] at h
    refine wpAny_tail O fuel m listed a W (Nat.le_refl _) O.le I.len hf (fun j hj => ?_) (h W I.ext fun j d hjm hd => ?_)
    · rcases Nat.lt_or_ge j m with hjm | hjm
      · rw [hall j hjm]; simp [hjm]
      · rw [hT j hjm hj]; simp; omega
    · cases hj : ops[j]? with
      | none => rw [hj] at hd; cases hd
      | some o =>
        rw [hj] at hd
        exact I.ok j o d hj hd (hall j hjm)
  intro fuel
  induction fuel with
  | zero =>
    intro listed a W I hT hc
    have hsz := cntT listed hT
    refine fin 0 listed a W I hT (fun j hj => ?_) (by omega)
    have hjs : j < ops.size := by have := O.le; omega
    have hz : (List.range ops.size).countP (fun j => listed[j]? == some false) = 0 := by omega
    rw [List.countP_eq_zero] at hz
    have := hz j (List.mem_range.2 hjs)
    rw [Array.getElem?_eq_getElem (show j < listed.size by rw [I.len]; exact hjs)] at this ⊢
    cases hb : listed[j]'(by rw [I.len]; exact hjs) with
    | true => rfl
    | false => rw [hb] at this; simp at this
  | succ fuel ih =>
    intro listed a W I hT hc
    by_cases hall0 : ∀ j, j < m → listed[j]? = some true
    · exact fin _ listed a W I hT hall0 (by have := cntT listed hT; omega)
    have hgap : ∃ j, j < m ∧ listed[j]? = some false := by
      refine Classical.byContradiction fun hno => hall0 fun j hj => ?_
      have hjs : j < listed.size := by rw [I.len]; have := O.le; omega
      rw [Array.getElem?_eq_getElem hjs]
      cases hb : listed[j] with
      | true => rfl
      | false => exact absurd ⟨j, hj, by rw [Array.getElem?_eq_getElem hjs, hb]⟩ hno
    obtain ⟨g, hgm, hg⟩ := hgap
    have lowest : ∃ j, j ∈ Region.ready .any ops listed := by
      have : ∀ j, j < m → listed[j]? = some false → ∃ i, i ∈ Region.ready .any ops listed := by
        intro j
        induction j using Nat.strongRecOn with
        | ind j ihj =>
          intro hj hf
          have hjs : j < ops.size := by have := O.le; omega
          have ho : ops[j]? = some ops[j] := Array.getElem?_eq_getElem hjs
          by_cases hfree : ∀ e ∈ (ops[j]).after, Region.binds .any e = true → listed[e.on]? = some true
          · refine ⟨j, mem_ready.2 ⟨by simp [hf], _, ho, fun e he hb => ?_⟩⟩
            have := hfree e he hb
            simp [this]
          · have ⟨e, he, hb, hne⟩ : ∃ e ∈ (ops[j]).after, Region.binds .any e = true ∧ listed[e.on]? ≠ some true := by
              refine Classical.byContradiction fun hno => hfree fun e he hb => Classical.byContradiction fun h => hno ⟨e, he, hb, h⟩
            have hlo := O.low j _ e ho he hb
            have hes : e.on < listed.size := by rw [I.len]; omega
            refine ihj e.on hlo (by omega) ?_
            rw [Array.getElem?_eq_getElem hes] at hne ⊢
            cases hb' : listed[e.on] with
            | true => rw [hb'] at hne; exact absurd rfl hne
            | false => rfl
      exact this g hgm hg
    refine ⟨fun h0 => (by obtain ⟨j, hj⟩ := lowest; rw [h0] at hj; cases hj), fun j hj => ?_⟩
    obtain ⟨h1, o, ho, h2⟩ := mem_ready.1 hj
    have hjs : j < ops.size := (Array.getElem?_eq_some_iff.1 ho).1
    have hun : listed[j]? = some false := by
      have hjl : j < listed.size := by rw [I.len]; exact hjs
      rw [Array.getElem?_eq_getElem hjl]
      simp [hjl] at h1; rw [h1]
    have hall : ∀ e ∈ o.after, Region.binds .any e = true → listed[e.on]? = some true := fun e he hb => by
      have h3 := h2 e he hb
      rcases Nat.lt_or_ge e.on listed.size with h' | h'
      · rw [Array.getElem?_eq_getElem h']; simp [h'] at h3; rw [h3]
      · simp [Array.getElem?_eq_none h'] at h3
    have hjm : j < m := by
      refine Nat.lt_of_not_le fun hge => ?_
      obtain ⟨e, he, hb, hon⟩ := O.all j o g hge ho (by omega)
      have := hall e he hb
      rw [hon, hg] at this; cases this
    have cnt : (List.range ops.size).countP (fun i => (listed.setIfInBounds j true)[i]? == some false) ≤ fuel := by
      have : (List.range ops.size).countP (fun i => (listed.setIfInBounds j true)[i]? == some false) < (List.range ops.size).countP (fun i => listed[i]? == some false) := by
        refine countP_less ?_ (List.mem_range.2 hjs) ?_ ?_
        · intro i hi
          by_cases hij : i = j
          · subst hij; simp [(show i < listed.size by rw [I.len]; exact hjs)] at hi
          · rwa [Array.getElem?_setIfInBounds_ne (Ne.symm hij)] at hi
        · simp [hun]
        · simp [(show j < listed.size by rw [I.len]; exact hjs)]
      omega
    have hT2 : ∀ k, m ≤ k → k < ops.size → (listed.setIfInBounds j true)[k]? = some false := fun k hk hks => by
      rw [Array.getElem?_setIfInBounds_ne (by omega)]; exact hT k hk hks
    have hT1 : ∀ k, m ≤ k → listed[k]? ≠ some true := fun k hk hl => by
      have hks : k < ops.size := by rw [← I.len]; exact (Array.getElem?_eq_some_iff.1 hl).1
      rw [hT k hk hks] at hl; cases hl
    have S := (walkT_steps (valM rels ops a) (fun k c hk => by simp [valM, hk]) a0 (ops.toList.take m) 0 htk hlen hw).1 j o (Nat.zero_le _) hjm ho
    obtain ⟨ex, ew⟩ := exec_same (O.sel j o · · ho) (sameT_looks O hn I hT1 hjm ho hun hall)
    have S' := S W I.ext (fun e he hb d hd => by
      have hlo := O.low j o e ho he hb
      cases hp : ops[e.on]? with
      | none => rw [hp] at hd; cases hd
      | some p =>
        rw [hp] at hd
        rw [getD_of, symT_hit O _ a0 hn (by omega) hp hd j hlo, Option.getD_some, valM_ok I hp hd (hall e he hb)]
        exact I.ok _ p d hp hd (hall e he hb))
    rw [ex, ew] at S'
    unfold wpOp
    simp only [ho]
    by_cases hwt : Region.wanted o (yielded ops a.tmps) = true
    · simp only [hwt, if_true] at S' ⊢
      refine .inl ?_
      unfold Oper.wp
      generalize (execOp a.eval o).run P W = r at *
      cases r with
      | ok nx w' =>
        cases nx <;> simp only [makes] at S' <;> simp only [Oper.upon]
        case value u => exact ih _ _ _ (invT_next O hst hn I hjm ho hun hall S'.1 S'.2) hT2 cnt
        case skip => exact ih _ _ _ (invT_next O hst hn I hjm ho hun hall S'.1 S'.2) hT2 cnt
        case enter f args =>
          refine S'.2.mono fun e w'' ⟨v, hv, h3, h4⟩ => ?_
          subst hv
          exact ih _ _ _ (invT_next O hst hn I hjm ho hun hall (S'.1.tr h3) h4) hT2 cnt
      | halt x w' => simp only [makes] at S'
    · simp only [Bool.not_eq_true] at hwt
      simp only [hwt, Bool.false_eq_true, if_false] at S' ⊢
      exact ih _ _ _ (invT_next O hst hn I hjm ho hun hall (Ext.rf _) S') hT2 cnt

/-- one walk of the head, in the order of the text; the tail behind it -/
theorem wp_region_made_tail {id : Nat} {Q : Exit → Act → World → Prop} {a : Act} {l : List Oper} (n : Nat) (hm : P.follows .mixedOrders = true) (hB : okTB l.toArray m n = true) (hn : a.tmps.size = n) (hst : ∀ k, (rels k).stable)
    (h : walkT P l.toArray rels w m Q 0 (l.take m) a) : (Code.region id l.toArray true).wp P Q a w := by
  refine wp_region_any hm (wpAny_madeT (w := w) (okT_of hB) hst hn (by simpa using h) _ _ _ _ ?_ ?_ ?_)
  · refine ⟨⟨rfl, rfl, rfl, Nat.le_refl _, fun _ _ => rfl⟩, by simp, rfl, rfl, fun k o d ho _ hl => ?_, fun t _ => rfl, fun k o ho hl => ?_⟩
    · have hk := (Array.getElem?_eq_some_iff.1 ho).1
      simp at hk
      simp [hk] at hl
    · have hk := (Array.getElem?_eq_some_iff.1 ho).1
      simp at hk
      simp [hk] at hl
  · intro k _ hk
    simp at hk
    simp [hk]
  · have := List.countP_le_length (p := fun j => (Array.replicate l.toArray.size false)[j]? == some false) (l := List.range l.toArray.size)
    simpa using this
theorem walkT_val {Q : Exit → Act → World → Prop} {k : Nat} {o : Oper} {l : List Oper} {a : Act} {c : Value} (hr : rels k = .val c)
    (h1 : ∀ W, Ext w W → Hid (depsM ops rels o a W) → if Region.wanted o (yielded ops a.tmps) then makes P W (.val c) ((execOp a.eval o).run P W) else undef = c)
    (h2 : ∀ K : Act → Prop, (∀ a, walkT P ops rels w m Q (k + 1) l a → K a) → K (a.put o.dst c)) : walkT P ops rels w m Q k (o :: l) a := by
  refine ⟨fun W hW hd => ?_, fun v hv => ?_⟩
  · rw [hr]; exact h1 W hW hd
  · rw [hr] at hv; simp only at hv; subst hv; exact h2 _ fun _ h => h
theorem walkT_rel {Q : Exit → Act → World → Prop} {k : Nat} {o : Oper} {l : List Oper} {a : Act} {r : Value → World → Prop} (hr : rels k = .rel r)
    (h1 : ∀ W, Ext w W → Hid (depsM ops rels o a W) → if Region.wanted o (yielded ops a.tmps) then makes P W (.rel r) ((execOp a.eval o).run P W) else r undef W)
    (h2 : ∀ v, ∀ K : Act → Prop, (∀ a, walkT P ops rels w m Q (k + 1) l a → K a) → K (a.put o.dst v)) : walkT P ops rels w m Q k (o :: l) a := by
  refine ⟨fun W hW hd => ?_, fun v _ => h2 v _ fun _ h => h⟩
  rw [hr]; exact h1 W hW hd
theorem walkT_end {Q : Exit → Act → World → Prop} {k : Nat} {a : Act} (h : ∀ W, Ext w W → (∀ j d, j < m → (ops[j]?).bind (·.dst) = some d → (rels j).ok (a.tmps.getD d undef) W) → wpList P ops Q (ops.toList.drop m) a W) : walkT P ops rels w m Q k [] a := h
theorem finT_rel {a : Act} {W : World} (h : ∀ j d, j < m → (ops[j]?).bind (·.dst) = some d → (rels j).ok (a.tmps.getD d undef) W) (j : Nat) (d : Tmp) (v : Value) {r : Value → World → Prop} (hj : j < m) (hd : (ops[j]?).bind (·.dst) = some d)
    (hr : rels j = .rel r) (hv : a.tmps.getD d undef = v) : r v W := by
  have := h j d hj hd
  rw [hr, hv] at this
  exact this
end
end Go.Proofs.YtomcoacndppkcaaGreatDoor
