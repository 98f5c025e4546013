/-
  A region that draws its order, whose operations read, and whose calls make memory and hand back what depends on it (a new slice, say): each operation by a relation of its own between its value and the world,
  which stands as memory is made; what an operation needs it takes from those that it waits for. One walk, in the order of the text, serves every order.
-/
import Derived.Still
import Derived.Below
import Derived.KernelRfl
import Derived.Tactics
namespace Go.Proofs.YtomcoacndppkcaaGreatDoor
open Go Go.RowKit

/-- memory is made, nothing that was there is turned -/
abbrev Ext (w w' : World) : Prop := Below w.heap.size w w'
theorem Ext.rf (w : World) : Ext w w := Below.refl _ _
theorem Ext.tr {a b c : World} (h : Ext a b) (k : Ext b c) : Ext a c := h.trans (k.mono h.size)

/-- what an operation leaves: one value, or one that stands in a relation to the world -/
inductive Rl where
  | val (c : Value)
  | rel (r : Value → World → Prop)
def Rl.ok : Rl → Value → World → Prop
  | .val c, v, _ => v = c
  | .rel r, v, W => r v W
def Rl.stable : Rl → Prop
  | .val _ => True
  | .rel r => ∀ v W W', r v W → Ext W W' → r v W'
theorem Rl.keep {R : Rl} (hs : R.stable) {v : Value} {W W' : World} (h : R.ok v W) (e : Ext W W') : R.ok v W' := by
  cases R with
  | val c => exact h
  | rel r => exact hs v W W' h e

def makes (P : Program) (W : World) (R : Rl) : Result Next → Prop
  | .ok (.value u) w' => Ext W w' ∧ R.ok u w'
  | .ok .skip w' => Ext W w' ∧ R.ok undef w'
  | .ok (.enter f args) w' => Ext W w' ∧ Calls P f args w' (fun e w'' => ∃ v, e = .returned v ∧ Ext w' w'' ∧ R.ok v w'')
  | _ => False

section
variable (P : Program) (ops : Array Oper) (rels : Nat → Rl) (w : World)

/-- one operation, in whatever world has come of w, out of what those that it waits for have left -/
def stepM (o : Oper) (k : Nat) (a : Act) : Prop :=
  ∀ W, Ext w W → (∀ e ∈ o.after, Region.binds .any e = true → ∀ d, (ops[e.on]?).bind (·.dst) = some d → (rels e.on).ok (a.tmps.getD d undef) W) →
    if Region.wanted o (yielded ops a.tmps) then makes P W (rels k) ((execOp a.eval o).run P W) else (rels k).ok undef W
def endM (Q : Exit → Act → World → Prop) (a : Act) : Prop :=
  ∀ W, Ext w W → (∀ j d, (ops[j]?).bind (·.dst) = some d → (rels j).ok (a.tmps.getD d undef) W) → Q .normal a W
def walkM (Q : Exit → Act → World → Prop) : Nat → List Oper → Act → Prop
  | _, [], a => endM ops rels w Q a
  | k, o :: l, a => stepM P ops rels w o k a ∧ ∀ v, (match rels k with | .val c => v = c | .rel _ => True) → walkM Q (k + 1) l (a.put o.dst v)

def okB (n : Nat) : Bool :=
  Region.noSelect ops && (List.range ops.size).all fun j => match ops[j]? with
    | none => true
    | some o =>
      (match o.dst with | none => false | some d => decide (d < n)) && o.after.all (fun e => !Region.binds .any e || decide (e.on < j)) &&
      (List.range ops.size).all fun k => match ops[k]? with
        | none => true
        | some p => (k == j || o.dst != p.dst) && (match p.dst with
          | none => true
          | some t => !(o.looksAt ops).contains t || k == j || (if k < j then o.after.any (fun e => Region.binds .any e && e.on == k) else p.after.any (fun e => Region.binds .any e && e.on == j)))

structure OkM (n : Nat) : Prop where
  sel : ∀ (j : Nat) (o : Oper) (cs : Array SelectCase) (b : Bool), ops[j]? = some o → o.op ≠ .select cs b
  dst : ∀ (j : Nat) (o : Oper), ops[j]? = some o → ∃ d, o.dst = some d ∧ d < n
  low : ∀ (j : Nat) (o : Oper) (e : Edge), ops[j]? = some o → e ∈ o.after → Region.binds .any e = true → e.on < j
  uniq : ∀ (j : Nat) (o : Oper) (k : Nat) (p : Oper), ops[j]? = some o → ops[k]? = some p → k ≠ j → o.dst ≠ p.dst
  new : ∀ (j : Nat) (o : Oper) (k : Nat) (p : Oper) (t : Tmp), ops[j]? = some o → ops[k]? = some p → p.dst = some t → t ∈ o.looksAt ops → k < j → ∃ e ∈ o.after, Region.binds .any e = true ∧ e.on = k
  old : ∀ (j : Nat) (o : Oper) (k : Nat) (p : Oper) (t : Tmp), ops[j]? = some o → ops[k]? = some p → p.dst = some t → t ∈ o.looksAt ops → j < k → ∃ e ∈ p.after, Region.binds .any e = true ∧ e.on = j

variable {P ops rels w}
theorem okM_of {n : Nat} (h : okB ops n = true) : OkM ops n := by
  unfold okB at h
  rw [Bool.and_eq_true] at h
  obtain ⟨hs, h⟩ := h
  rw [List.all_eq_true] at h
  have lt : ∀ j o, ops[j]? = some o → j < ops.size := fun j o ho => (Array.getElem?_eq_some_iff.1 ho).1
  have H := fun j o (ho : ops[j]? = some o) => by
    have := h j (List.mem_range.2 (lt j o ho))
    simp only [ho, Bool.and_eq_true] at this
    exact this
  have H2 := fun j o (ho : ops[j]? = some o) k p (hp : ops[k]? = some p) => by
    have := List.all_eq_true.1 (H j o ho).2 k (List.mem_range.2 (lt k p hp))
    simp only [hp, Bool.and_eq_true] at this
    exact this
  refine ⟨Region.noSelect_spec hs, fun j o ho => ?_, fun j o e ho he hb => ?_, fun j o k p ho hp hne heq => ?_, fun j o k p t ho hp ht hl hkj => ?_, fun j o k p t ho hp ht hl hjk => ?_⟩
  · have := (H j o ho).1.1
    cases hd : o.dst with
    | none => rw [hd] at this; cases this
    | some d => rw [hd] at this; exact ⟨d, rfl, by simpa using this⟩
  · have := Array.all_eq_true_iff_forall_mem.1 (H j o ho).1.2 e he
    simpa [hb] using this
  · have := (H2 j o ho k p hp).1
    simp [hne, heq] at this
  · have := (H2 j o ho k p hp).2
    simp only [ht] at this
    have hc : (o.looksAt ops).contains t = true := by simpa using hl
    have hkj' : (k == j) = false := by simp; omega
    rw [hc, hkj', if_pos hkj] at this
    simp only [Bool.not_true, Bool.false_or, Array.any_eq_true, Bool.and_eq_true, beq_iff_eq] at this
    obtain ⟨i, hi, h1, h2⟩ := this
    exact ⟨_, Array.getElem_mem hi, h1, h2⟩
  · have := (H2 j o ho k p hp).2
    simp only [ht] at this
    have hc : (o.looksAt ops).contains t = true := by simpa using hl
    have hkj' : (k == j) = false := by simp; omega
    rw [hc, hkj', if_neg (by omega)] at this
    simp only [Bool.not_true, Bool.false_or, Array.any_eq_true, Bool.and_eq_true, beq_iff_eq] at this
    obtain ⟨i, hi, h1, h2⟩ := this
    exact ⟨_, Array.getElem_mem hi, h1, h2⟩

/-- the frame as the text's order lays it -/
def symM (ops : Array Oper) (vals : Nat → Value) (a : Act) : Nat → Act
  | 0 => a
  | k + 1 => match ops[k]? with
    | some o => (symM ops vals a k).put o.dst (vals k)
    | none => symM ops vals a k
theorem put_size (a : Act) (d : Option Tmp) (v : Value) : (a.put d v).tmps.size = a.tmps.size := by cases d <;> simp [Act.put]
theorem put_defers (a : Act) (d : Option Tmp) (v : Value) : (a.put d v).defers = a.defers := by cases d <;> rfl
theorem put_other (a : Act) {d : Option Tmp} {t : Tmp} (v : Value) (h : d ≠ some t) : (a.put d v).tmps[t]? = a.tmps[t]? := by
  cases d with
  | none => rfl
  | some d =>
    have : d ≠ t := fun e => h (by rw [e])
    simp [Act.put, Array.getElem?_setIfInBounds_ne this]
theorem put_same (a : Act) {t : Tmp} (v : Value) (h : t < a.tmps.size) : (a.put (some t) v).tmps[t]? = some v := by
  simp [Act.put, h]
theorem sym_size (vals : Nat → Value) (a : Act) : ∀ j, (symM ops vals a j).tmps.size = a.tmps.size
  | 0 => rfl
  | j + 1 => by
    simp only [symM]; split
    · rw [put_size]; exact sym_size vals a j
    · exact sym_size vals a j
theorem sym_defers (vals : Nat → Value) (a : Act) : ∀ j, (symM ops vals a j).defers = a.defers
  | 0 => rfl
  | j + 1 => by
    simp only [symM]; split
    · rw [put_defers]; exact sym_defers vals a j
    · exact sym_defers vals a j
theorem sym_miss (vals : Nat → Value) (a : Act) {t : Tmp} : ∀ j, (∀ k p, k < j → ops[k]? = some p → p.dst ≠ some t) → (symM ops vals a j).tmps[t]? = a.tmps[t]?
  | 0, _ => rfl
  | j + 1, h => by
    have ih := sym_miss vals a j (fun k p hk hp => h k p (by omega) hp)
    simp only [symM]; split
    · rename_i o ho
      rw [put_other _ _ (h j o (by omega) ho)]; exact ih
    · exact ih
theorem sym_hit {n : Nat} (O : OkM ops n) (vals : Nat → Value) (a : Act) (hn : a.tmps.size = n) {t : Tmp} {k : Nat} {p : Oper} (hp : ops[k]? = some p) (ht : p.dst = some t) : ∀ j, k < j → (symM ops vals a j).tmps[t]? = some (vals k)
  | 0, h => by omega
  | j + 1, h => by
    obtain ⟨d, hd, hdn⟩ := O.dst k p hp
    rw [ht] at hd
    obtain rfl := Option.some.inj hd
    simp only [symM]
    by_cases hk : k = j
    · subst hk
      simp only [hp, ht]
      exact put_same _ _ (by rw [sym_size, hn]; exact hdn)
    · have ih := sym_hit O vals a hn hp ht j (by omega)
      split
      · rename_i o ho
        rw [put_other _ _ (by rw [← ht]; exact O.uniq j o k p ho hp hk)]; exact ih
      · exact ih
theorem walk_steps {Q : Exit → Act → World → Prop} (vals : Nat → Value) (hv : ∀ k c, rels k = .val c → vals k = c) (a : Act) : ∀ (l : List Oper) (k : Nat), (∀ j, l[j]? = ops[k + j]?) → walkM P ops rels w Q k l (symM ops vals a k) →
    (∀ j o, k ≤ j → ops[j]? = some o → stepM P ops rels w o j (symM ops vals a j)) ∧ endM ops rels w Q (symM ops vals a (k + l.length))
  | [], k, hl, h => ⟨fun j o hj ho => by
      have := hl (j - k)
      rw [show k + (j - k) = j by omega, ho] at this
      simp at this, h⟩
  | o :: l, k, hl, h => by
    have h0 : ops[k]? = some o := by simpa using (hl 0).symm
    obtain ⟨h1, h2⟩ := h
    have e : symM ops vals a (k + 1) = (symM ops vals a k).put o.dst (vals k) := by simp only [symM, h0]
    have h3 := h2 (vals k) (by
      cases hr : rels k with
      | val c => exact hv k c hr
      | rel _ => trivial)
    rw [← e] at h3
    obtain ⟨i1, i2⟩ := walk_steps vals hv a l (k + 1) (fun j => by have := hl (j + 1); simpa [Nat.add_assoc, Nat.add_comm 1 j] using this) h3
    refine ⟨fun j p hj hp => ?_, ?_⟩
    · by_cases hjk : j = k
      · subst hjk
        rw [h0] at hp
        obtain rfl := Option.some.inj hp
        exact h1
      · exact i1 j p (by omega) hp
    · rw [List.length_cons, show k + (l.length + 1) = k + 1 + l.length by omega]; exact i2

structure InvM (ops : Array Oper) (rels : Nat → Rl) (w : World) (a0 : Act) (listed : Array Bool) (a : Act) (W : World) : Prop where
  ext : Ext w W
  len : listed.size = ops.size
  defers : a.defers = a0.defers
  size : a.tmps.size = a0.tmps.size
  ok : ∀ (k : Nat) (o : Oper) (d : Tmp), ops[k]? = some o → o.dst = some d → listed[k]? = some true → (rels k).ok (a.tmps.getD d undef) W
  old : ∀ (t : Tmp), (∀ (k : Nat) (o : Oper), ops[k]? = some o → listed[k]? = some true → o.dst ≠ some t) → a.tmps[t]? = a0.tmps[t]?
  shut : ∀ (k : Nat) (o : Oper), ops[k]? = some o → listed[k]? = some true → ∀ e ∈ o.after, Region.binds .any e = true → listed[e.on]? = some true

def valM (rels : Nat → Rl) (ops : Array Oper) (a : Act) (k : Nat) : Value :=
  match rels k with
  | .val c => c
  | .rel _ => match (ops[k]?).bind (·.dst) with
    | some d => a.tmps.getD d undef
    | none => undef
theorem getD_of {xs : Array Value} {t : Nat} {d : Value} : xs.getD t d = (xs[t]?).getD d := by simp
theorem valM_ok {a0 a : Act} {listed : Array Bool} {W : World} (I : InvM ops rels w a0 listed a W) {k : Nat} {p : Oper} {d : Tmp} (hp : ops[k]? = some p) (hd : p.dst = some d) (hl : listed[k]? = some true) :
    valM rels ops a k = a.tmps.getD d undef := by
  have h := I.ok k p d hp hd hl
  unfold valM
  cases hr : rels k with
  | val c => rw [hr] at h; exact h.symm
  | rel r => simp [hp, hd]

theorem same_looks {n : Nat} (O : OkM ops n) {a0 a : Act} (hn : a0.tmps.size = n) {listed : Array Bool} {W : World} (I : InvM ops rels w a0 listed a W) {j : Nat} {o : Oper} (hj : ops[j]? = some o)
    (hun : listed[j]? = some false) (hall : ∀ e ∈ o.after, Region.binds .any e = true → listed[e.on]? = some true) (t : Tmp) (ht : t ∈ o.looksAt ops) :
    (symM ops (valM rels ops a) a0 j).tmps[t]? = a.tmps[t]? := by
  by_cases hw : ∃ (k : Nat) (p : Oper), ops[k]? = some p ∧ p.dst = some t
  · obtain ⟨k, p, hp, hd⟩ := hw
    have only : ∀ (k' : Nat) (p' : Oper), ops[k']? = some p' → p'.dst = some t → k' = k := fun k' p' hp' hd' => by
      refine Classical.byContradiction fun hne => O.uniq k p k' p' hp hp' hne (by rw [hd, hd'])
    rcases Nat.lt_or_ge k j with hkj | hkj
    · obtain ⟨e, he, hb, hon⟩ := O.new j o k p t hj hp hd ht hkj
      have hl := hall e he hb
      rw [hon] at hl
      obtain ⟨d, hd', hdn⟩ := O.dst k p hp
      rw [hd] at hd'
      obtain rfl := Option.some.inj hd'
      rw [sym_hit O _ a0 hn hp hd j hkj, valM_ok I hp hd hl]
      have : t < a.tmps.size := by rw [I.size, hn]; exact hdn
      rw [getD_of, Array.getElem?_eq_getElem this]; rfl
    · have hk : listed[k]? ≠ some true := fun hl => by
        by_cases hkj' : k = j
        · subst hkj'; rw [hun] at hl; cases hl
        · obtain ⟨e, he, hb, hon⟩ := O.old j o k p t hj hp hd ht (by omega)
          have := I.shut k p hp hl e he hb
          rw [hon, hun] at this; cases this
      rw [sym_miss _ _ j fun k' p' hk' hp' hd' => by have := only k' p' hp' hd'; omega]
      exact (I.old t fun k' p' hp' hl' hd' => by have := only k' p' hp' hd'; subst this; exact hk hl').symm
  · rw [sym_miss _ _ j fun k p _ hp hd => hw ⟨k, p, hp, hd⟩]
    exact (I.old t fun k p hp _ hd => hw ⟨k, p, hp, hd⟩).symm
theorem exec_same {o : Oper} (hs : ∀ cs b, o.op ≠ .select cs b) {a b : Act} (h : ∀ t ∈ o.looksAt ops, a.tmps[t]? = b.tmps[t]?) : execOp a.eval o = execOp b.eval o ∧ Region.wanted o (yielded ops a.tmps) = Region.wanted o (yielded ops b.tmps) := by
  refine ⟨execOp_congr o hs fun x hx => ?_, ?_⟩
  · cases x with
    | tmp t =>
      have := h t (List.mem_append_left _ (List.mem_filterMap.2 ⟨.tmp t, by simpa using hx, rfl⟩))
      simp only [Act.eval, getD_of, this]
    | _ => rfl
  · unfold Region.wanted
    cases hg : o.guard with
    | none => rfl
    | some gw =>
      obtain ⟨g, want⟩ := gw
      have hy : yielded ops a.tmps g = yielded ops b.tmps g := by
        unfold yielded
        cases ht : (ops[g]?).bind (·.dst) with
        | none => rfl
        | some t => simp only [Option.bind_some, h t (by simp [Oper.looksAt, hg, ht])]
      simp only [hy]

theorem inv_next {n : Nat} (O : OkM ops n) (hst : ∀ k, (rels k).stable) {a0 a : Act} (hn : a0.tmps.size = n) {listed : Array Bool} {W W' : World} (I : InvM ops rels w a0 listed a W) {j : Nat} {o : Oper} (hj : ops[j]? = some o)
    (hun : listed[j]? = some false) (hall : ∀ e ∈ o.after, Region.binds .any e = true → listed[e.on]? = some true) {v : Value} (he : Ext W W') (hv : (rels j).ok v W') :
    InvM ops rels w a0 (listed.setIfInBounds j true) (a.put o.dst v) W' := by
  obtain ⟨d, hd, hdn⟩ := O.dst j o hj
  have hjl : j < listed.size := (Array.getElem?_eq_some_iff.1 hun).1
  have look : ∀ k, (listed.setIfInBounds j true)[k]? = some true → k ≠ j → listed[k]? = some true := fun k hk hne => by
    rwa [Array.getElem?_setIfInBounds_ne (Ne.symm hne)] at hk
  have up : ∀ k, listed[k]? = some true → (listed.setIfInBounds j true)[k]? = some true := fun k hk => by
    by_cases hkj : k = j
    · rw [hkj, Array.getElem?_setIfInBounds_self_of_lt hjl]
    · rw [Array.getElem?_setIfInBounds_ne (Ne.symm hkj)]; exact hk
  refine ⟨I.ext.tr he, by simp [I.len], by rw [put_defers]; exact I.defers, by rw [put_size]; exact I.size, fun k p t hp ht hl => ?_, fun t ht => ?_, fun k p hp hl e hea hb => ?_⟩
  · by_cases hkj : k = j
    · subst hkj
      rw [hj] at hp
      obtain rfl := Option.some.inj hp
      rw [hd] at ht
      obtain rfl := Option.some.inj ht
      rw [getD_of, hd, put_same _ _ (by rw [I.size, hn]; exact hdn)]
      exact hv
    · rw [getD_of, put_other _ _ (by rw [← ht]; exact O.uniq j o k p hj hp hkj), ← getD_of]
      exact Rl.keep (hst k) (I.ok k p t hp ht (look k hl hkj)) he
  · rw [put_other _ _ (ht j o hj (by simp [hjl]))]
    exact I.old t fun k p hp hl => ht k p hp (up k hl)
  · by_cases hkj : k = j
    · subst hkj
      rw [hj] at hp
      obtain rfl := Option.some.inj hp
      exact up _ (hall e hea hb)
    · exact up _ (I.shut k p hp (look k hl hkj) e hea hb)

theorem some_ready {n : Nat} (O : OkM ops n) {listed : Array Bool} (hlen : listed.size = ops.size) (h : Region.ready .any ops listed = []) : ∀ j, j < ops.size → listed[j]? = some true := by
  intro j
  induction j using Nat.strongRecOn with
  | ind j ih =>
    intro hj
    have hlj : j < listed.size := by omega
    have ho : ops[j]? = some ops[j] := Array.getElem?_eq_getElem hj
    refine Classical.byContradiction fun hne => ?_
    have hf : listed[j]? = some false := by
      rw [Array.getElem?_eq_getElem hlj] at hne ⊢
      cases hb : listed[j] with
      | true => rw [hb] at hne; exact absurd rfl hne
      | false => rfl
    have hm : j ∈ Region.ready .any ops listed := mem_ready.2 ⟨by simp [hf], _, ho, fun e he hb => by
      have := O.low j _ e ho he hb
      have := ih e.on this (by omega)
      simp [this]⟩
    rw [h] at hm; cases hm

theorem countP_less {α : Type} {p q : α → Bool} {x : α} : ∀ {l : List α}, (∀ i, p i = true → q i = true) → x ∈ l → q x = true → p x = false → l.countP p < l.countP q
  | [], _, h, _, _ => by cases h
  | y :: l, h, hm, hq, hp => by
    have mono := List.countP_mono_left (l := l) (p := p) (q := q) (fun i _ hi => h i hi)
    rw [List.countP_cons, List.countP_cons]
    rcases List.mem_cons.1 hm with rfl | hm
    · simp [hq, hp]; omega
    · have ih := countP_less h hm hq hp
      cases h1 : p y with
      | true => simp [h y h1]; omega
      | false => cases q y <;> simp <;> omega
theorem wpAny_made {n : Nat} {Q : Exit → Act → World → Prop} (O : OkM ops n) (hst : ∀ k, (rels k).stable) {a0 : Act} (hn : a0.tmps.size = n) (hw : walkM P ops rels w Q 0 ops.toList a0) :
    ∀ (fuel : Nat) (listed : Array Bool) (a : Act) (W : World), InvM ops rels w a0 listed a W → (List.range ops.size).countP (fun j => listed[j]? == some false) ≤ fuel → wpAny P .any ops Q fuel listed a W := by
  have fin : ∀ (listed : Array Bool) (a : Act) (W : World), InvM ops rels w a0 listed a W → (∀ j, j < ops.size → listed[j]? = some true) → Q .normal a W := fun listed a W I hall => by
    have h := (walk_steps (valM rels ops a) (fun k c hk => by simp [valM, hk]) a0 ops.toList 0 (by simp) hw).2
    rw [Nat.zero_add, Array.length_toList] at h
    have e : symM ops (valM rels ops a) a0 ops.size = a := by
      have e1 : (symM ops (valM rels ops a) a0 ops.size).tmps = a.tmps := by
        refine Array.ext_getElem? fun t => ?_
        by_cases hw : ∃ (k : Nat) (p : Oper), ops[k]? = some p ∧ p.dst = some t
        · obtain ⟨k, p, hp, hd⟩ := hw
          have hk : k < ops.size := (Array.getElem?_eq_some_iff.1 hp).1
          obtain ⟨d, hd', hdn⟩ := O.dst k p hp
          rw [hd] at hd'
          obtain rfl := Option.some.inj hd'
          have : t < a.tmps.size := by rw [I.size, hn]; exact hdn
          rw [sym_hit O _ a0 hn hp hd _ hk, valM_ok I hp hd (hall k hk), getD_of, Array.getElem?_eq_getElem this]; rfl
        · rw [sym_miss _ _ _ fun k p _ hp hd => hw ⟨k, p, hp, hd⟩]
          exact (I.old t fun k p hp _ hd => hw ⟨k, p, hp, hd⟩).symm
      have e2 : (symM ops (valM rels ops a) a0 ops.size).defers = a.defers := by rw [sym_defers, I.defers]
      generalize symM ops (valM rels ops a) a0 ops.size = b at e1 e2
      cases a; cases b; simp_all
    rw [e] at h
    refine h W I.ext fun j d hd => ?_
    cases hj : ops[j]? with
    | none => rw [hj] at hd; cases hd
    | some o =>
      rw [hj] at hd
      exact I.ok j o d hj hd (hall j (Array.getElem?_eq_some_iff.1 hj).1)
  intro fuel
  induction fuel with
  | zero =>
    intro listed a W I hc
    have hall : ∀ j, j < ops.size → listed[j]? = some true := fun j hj => by
      have hz : (List.range ops.size).countP (fun j => listed[j]? == some false) = 0 := by omega
      rw [List.countP_eq_zero] at hz
      have := hz j (List.mem_range.2 hj)
      rw [Array.getElem?_eq_getElem (show j < listed.size by rw [I.len]; exact hj)] at this ⊢
      cases hb : listed[j]'(by rw [I.len]; exact hj) with
      | true => rfl
      | false => rw [hb] at this; simp at this
    refine ⟨?_, fin listed a W I hall⟩
    refine List.eq_nil_iff_forall_not_mem.2 fun j hj => ?_
    obtain ⟨h1, o, ho, _⟩ := mem_ready.1 hj
    have := hall j (Array.getElem?_eq_some_iff.1 ho).1
    simp [this] at h1
  | succ fuel ih =>
    intro listed a W I hc
    refine ⟨fun h0 => fin listed a W I (some_ready O I.len h0), fun j hj => ?_⟩
    obtain ⟨h1, o, ho, h2⟩ := mem_ready.1 hj
    have hjs : j < ops.size := (Array.getElem?_eq_some_iff.1 ho).1
    have hun : listed[j]? = some false := by
      have hjl : j < listed.size := by rw [I.len]; exact hjs
      rw [Array.getElem?_eq_getElem hjl]
      simp [hjl] at h1; rw [h1]
    have hall : ∀ e ∈ o.after, Region.binds .any e = true → listed[e.on]? = some true := fun e he hb => by
      have h3 := h2 e he hb
      rcases Nat.lt_or_ge e.on listed.size with h' | h'
      · rw [Array.getElem?_eq_getElem h']; simp [h'] at h3; rw [h3]
      · simp [Array.getElem?_eq_none h'] at h3
    have cnt : (List.range ops.size).countP (fun i => (listed.setIfInBounds j true)[i]? == some false) ≤ fuel := by
      have : (List.range ops.size).countP (fun i => (listed.setIfInBounds j true)[i]? == some false) < (List.range ops.size).countP (fun i => listed[i]? == some false) := by
        refine countP_less ?_ (List.mem_range.2 hjs) ?_ ?_
        · intro i hi
          by_cases hij : i = j
          · subst hij; simp [(show i < listed.size by rw [I.len]; exact hjs)] at hi
          · rwa [Array.getElem?_setIfInBounds_ne (Ne.symm hij)] at hi
        · simp [hun]
        · simp [(show j < listed.size by rw [I.len]; exact hjs)]
      omega
    have S := (walk_steps (valM rels ops a) (fun k c hk => by simp [valM, hk]) a0 ops.toList 0 (by simp) hw).1 j o (Nat.zero_le _) ho
    obtain ⟨ex, ew⟩ := exec_same (O.sel j o · · ho) (same_looks O hn I ho hun hall)
    have S' := S W I.ext (fun e he hb d hd => by
      cases hp : ops[e.on]? with
      | none => rw [hp] at hd; cases hd
      | some p =>
        rw [hp] at hd
        rw [getD_of, sym_hit O _ a0 hn hp hd j (O.low j o e ho he hb), Option.getD_some, valM_ok I hp hd (hall e he hb)]
        exact I.ok _ p d hp hd (hall e he hb))
    rw [ex, ew] at S'
    unfold wpOp
    simp only [ho]
    by_cases hwt : Region.wanted o (yielded ops a.tmps) = true
    · simp only [hwt, if_true] at S' ⊢
      refine .inl ?_
      unfold Oper.wp
      generalize (execOp a.eval o).run P W = r at *
      cases r with
      | ok nx w' =>
        cases nx <;> simp only [makes] at S' <;> simp only [Oper.upon]
        case value u => exact ih _ _ _ (inv_next O hst hn I ho hun hall S'.1 S'.2) cnt
        case skip => exact ih _ _ _ (inv_next O hst hn I ho hun hall S'.1 S'.2) cnt
        case enter f args =>
          refine S'.2.mono fun e w'' ⟨v, hv, h3, h4⟩ => ?_
          subst hv
          exact ih _ _ _ (inv_next O hst hn I ho hun hall (S'.1.tr h3) h4) cnt
      | halt x w' => simp only [makes] at S'
    · simp only [Bool.not_eq_true] at hwt
      simp only [hwt, Bool.false_eq_true, if_false] at S' ⊢
      exact ih _ _ _ (inv_next O hst hn I ho hun hall (Ext.rf _) S') cnt

/-- one walk, in the order of the text -/
theorem wp_region_made {id : Nat} {Q : Exit → Act → World → Prop} {a : Act} {l : List Oper} (n : Nat) (hm : P.follows .mixedOrders = true) (hB : okB l.toArray n = true) (hn : a.tmps.size = n) (hst : ∀ k, (rels k).stable)
    (h : walkM P l.toArray rels w Q 0 l a) : (Code.region id l.toArray true).wp P Q a w := by
  refine wp_region_any hm (wpAny_made (w := w) (okM_of hB) hst hn (by simpa using h) _ _ _ _ ?_ ?_)
  · refine ⟨⟨rfl, rfl, rfl, Nat.le_refl _, fun _ _ => rfl⟩, by simp, rfl, rfl, fun k o d ho _ hl => ?_, fun t _ => rfl, fun k o ho hl => ?_⟩
    · have hk := (Array.getElem?_eq_some_iff.1 ho).1
      simp at hk
      simp [hk] at hl
    · have hk := (Array.getElem?_eq_some_iff.1 ho).1
      simp at hk
      simp [hk] at hl
  · have := List.countP_le_length (p := fun j => (Array.replicate l.toArray.size false)[j]? == some false) (l := List.range l.toArray.size)
    simpa using this
/- the walk, an operation at a time -/
def depsM (ops : Array Oper) (rels : Nat → Rl) (o : Oper) (a : Act) (W : World) : Prop :=
  ∀ e ∈ o.after, Region.binds .any e = true → ∀ d, (ops[e.on]?).bind (·.dst) = some d → (rels e.on).ok (a.tmps.getD d undef) W
theorem walk_val {Q : Exit → Act → World → Prop} {k : Nat} {o : Oper} {l : List Oper} {a : Act} {c : Value} (hr : rels k = .val c)
    (h1 : ∀ W, Ext w W → Hid (depsM ops rels o a W) → if Region.wanted o (yielded ops a.tmps) then makes P W (.val c) ((execOp a.eval o).run P W) else undef = c)
    (h2 : ∀ K : Act → Prop, (∀ a, walkM P ops rels w Q (k + 1) l a → K a) → K (a.put o.dst c)) : walkM P ops rels w Q k (o :: l) a := by
  refine ⟨fun W hW hd => ?_, fun v hv => ?_⟩
  · rw [hr]; exact h1 W hW hd
  · rw [hr] at hv; simp only at hv; subst hv; exact h2 _ fun _ h => h
theorem walk_rel {Q : Exit → Act → World → Prop} {k : Nat} {o : Oper} {l : List Oper} {a : Act} {r : Value → World → Prop} (hr : rels k = .rel r)
    (h1 : ∀ W, Ext w W → Hid (depsM ops rels o a W) → if Region.wanted o (yielded ops a.tmps) then makes P W (.rel r) ((execOp a.eval o).run P W) else r undef W)
    (h2 : ∀ v, ∀ K : Act → Prop, (∀ a, walkM P ops rels w Q (k + 1) l a → K a) → K (a.put o.dst v)) : walkM P ops rels w Q k (o :: l) a := by
  refine ⟨fun W hW hd => ?_, fun v _ => h2 v _ fun _ h => h⟩
  rw [hr]; exact h1 W hW hd
theorem walk_end {Q : Exit → Act → World → Prop} {k : Nat} {a : Act} (h : ∀ W, Ext w W → (∀ j d, (ops[j]?).bind (·.dst) = some d → (rels j).ok (a.tmps.getD d undef) W) → Q .normal a W) : walkM P ops rels w Q k [] a := h
def relsOf (l : List Rl) (k : Nat) : Rl := l.getD k (.val undef)
theorem relsOf_stable {l : List Rl} (h : ∀ R ∈ l, R.stable) (k : Nat) : (relsOf l k).stable := by
  unfold relsOf
  rw [List.getD_eq_getElem?_getD]
  cases hk : l[k]? with
  | none => trivial
  | some R => exact h R (List.mem_of_getElem? hk)
theorem stable_nil : ∀ R ∈ ([] : List Rl), R.stable := fun _ h => by cases h
theorem stable_val {c : Value} {l : List Rl} (h : ∀ R ∈ l, R.stable) : ∀ R ∈ Rl.val c :: l, R.stable := fun R hR => by
  rcases List.mem_cons.1 hR with rfl | hR
  · trivial
  · exact h R hR
theorem stable_rel {r : Value → World → Prop} {l : List Rl} (h0 : ∀ v W W', r v W → Ext W W' → r v W') (h : ∀ R ∈ l, R.stable) : ∀ R ∈ Rl.rel r :: l, R.stable := fun R hR => by
  rcases List.mem_cons.1 hR with rfl | hR
  · exact h0
  · exact h R hR
/-- a call whose contract hands back one value -/
theorem makes_val {f : FuncId} {args : Array Value} {W : World} {c : Value} (h : Calls P f args W fun e w' => e = .returned c ∧ Below W.heap.size W w') : makes P W (.val c) (.ok (.enter f args) W) :=
  ⟨Ext.rf W, h.mono fun _ _ ⟨he, hb⟩ => ⟨c, he, hb, rfl⟩⟩
/-- a call whose contract hands back a value in a relation -/
theorem makes_rel {f : FuncId} {args : Array Value} {W : World} {r : Value → World → Prop} (h : Calls P f args W fun e w' => ∃ v, e = .returned v ∧ r v w' ∧ Below W.heap.size W w') : makes P W (.rel r) (.ok (.enter f args) W) :=
  ⟨Ext.rf W, h.mono fun _ _ ⟨v, he, hr, hb⟩ => ⟨v, he, hb, hr⟩⟩
/-- what is known of the value of an operation that this one waits for -/
theorem dep_rel {o : Oper} {a : Act} {W : World} (h : Hid (depsM ops rels o a W)) (e : Edge) (d : Tmp) (v : Value) {r : Value → World → Prop} (he : e ∈ o.after) (hb : Region.binds .any e = true) (hd : (ops[e.on]?).bind (·.dst) = some d)
    (hr : rels e.on = .rel r) (hv : a.tmps.getD d undef = v) : r v W := by
  have := h.out e he hb d hd
  rw [hr, hv] at this
  exact this
theorem fin_rel {a : Act} {W : World} (h : ∀ j d, (ops[j]?).bind (·.dst) = some d → (rels j).ok (a.tmps.getD d undef) W) (j : Nat) (d : Tmp) (v : Value) {r : Value → World → Prop} (hd : (ops[j]?).bind (·.dst) = some d)
    (hr : rels j = .rel r) (hv : a.tmps.getD d undef = v) : r v W := by
  have := h j d hd
  rw [hr, hv] at this
  exact this
end
end Go.Proofs.YtomcoacndppkcaaGreatDoor
