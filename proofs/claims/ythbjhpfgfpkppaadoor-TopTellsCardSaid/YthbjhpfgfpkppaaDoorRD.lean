/-
  Appending spans to a list of the call's own; the reference's ends: all places at which spans begin or end.
-/
import Derived.Laws.AppendOwnNone
import Derived.Test.YthbjhpfgfpkppaaDoorRC
import Derived.Test.YthbjhpfgfpkppaaDoorRegion
namespace Go.Proofs.YthbjhpfgfpkppaaDoor.Rg
open Go Go.RowKit

theorem append_none_run (w : World) {base : Nat} {t ty e : TypeId} {i : TypeInfo} {size : Nat} (ht : Tryd.prog.underlying t = some (.slice e)) (hi : Tryd.prog.info? e = some i) (v : Value) (n : Nat) (xs : List Value) (hown : w.ownsRow base e size v n xs) (c : Nat) :
    (Builtin.append_ #[t, t] ty #[v, .slice none 0 c]).run Tryd.prog w = .ok v w := by
  obtain ⟨_, ⟨rfl, _⟩ | ⟨g, cap, cur, rfl, _, _, hnc, _⟩⟩ := hown
  · simp [Builtin.append_, run_underlying ht, sizeOf, typeInfo, hi, Builtin.lenOf, Builtin.firstCells]
  · simp [Builtin.append_, run_underlying ht, sizeOf, typeInfo, hi, Builtin.lenOf, Builtin.firstCells, hnc, storeCells]

/-- append(v, m...): v a list of the call's own, m any spans -/
theorem app_spans (w : World) {ops : Array Oper} {rest : List Oper} {o : Oper} {a : Act} {Q : Exit → Act → World → Prop} (hgd : o.guard = none) (s x : Operand)
    (ho : o.op = .call { callee := .builtin .append, args := #[s, x], argTypes := #[26, 26] })
    (base : Nat) (v : Value) (l m : List Sp) (hs : a.eval s = v) (hown : OwnS w base v l) (B : Nat) (A : Option Addr) (c : Nat) (hx : a.eval x = .slice A m.length c) (hr : SpAt w B A m)
    (hlen : l.length + m.length ≤ 8000000) (hbase : base ≤ w.heap.size)
    (h : ∀ v' w', OwnS w' base v' (l ++ m) → w.grownBy w' v.ownBlock → wpList Tryd.prog ops Q rest (a.put o.dst v') w') : wpList Tryd.prog ops Q (o :: rest) a w := by
  obtain ⟨i0, hi, hz0, hz1, hz2⟩ := info_parts infoSp
  cases A with
  | none =>
    have hm : m = [] := by
      rcases Nat.eq_zero_or_pos m.length with h0 | h0
      · exact List.eq_nil_of_length_eq_zero h0
      · obtain ⟨_, _, e, _⟩ := hr h0; cases e
    subst hm
    refine wpList_plain hgd fun K hK => ?_
    have hrun := append_none_run w (t := 26) (ty := o.type) Tryd.underlying26 hi v l.length (flat l) hown c
    unfold Oper.wp
    simp [execOp, ho, resolve, invoke, builtin, hs, hx, hrun, Result.andThen]
    exact hK _ _ (h v w (by simpa using hown) (World.grownBy.refl w _))
  | some ad =>
    refine wpList_append_own w hgd s x 26 ho base 31 i0 (.agg #[.int .i64 0, .int .i64 0]) 2 16 Tryd.underlying26 hi hz0 hz1 hz2 rfl (by omega) v l.length (flat l) hs hown ad m.length c (flat m) hx (flat_len m) ?_ ?_ (by unfold maxLen; omega) (by omega) hbase ?_
    · intro j u hj
      have hjl : j < m.length * 2 := by rw [← flat_len]; exact (List.getElem?_eq_some_iff.1 hj).1
      obtain ⟨b, off, e, hb, hc⟩ := hr (by omega)
      obtain rfl := Option.some.inj e
      obtain ⟨c0, c1⟩ := hc (j / 2) (by omega)
      rw [Addr.add_lit]
      rcases Nat.mod_two_eq_zero_or_one j with h0 | h0
      · have e : j / 2 * 2 = j := by omega
        rw [e] at c0
        have := flat_get0 m (j / 2) (by omega)
        rw [e, hj] at this
        rw [c0, ← this]
      · have e : j / 2 * 2 + 1 = j := by omega
        have := flat_get1 m (j / 2) (by omega)
        rw [e, hj] at this
        rw [Nat.add_assoc, e] at c1
        rw [c1, ← this]
    · intro u hu
      obtain ⟨p, _, hp⟩ := List.mem_flatMap.1 hu
      simp at hp
      rcases hp with rfl | rfl <;> rfl
    · intro v' w' h1 h2 _
      exact h v' w' (by unfold OwnS; rw [flat_append, List.length_append]; exact h1) h2
/-- append(v, X): one span, in a block of its own -/
theorem app_span (wr : World) {ops : Array Oper} {rest : List Oper} {o : Oper} {a : Act} {Q : Exit → Act → World → Prop} (hgd : o.guard = none) (s x : Operand)
    (ho : o.op = .call { callee := .builtin .append, args := #[s, x], argTypes := #[26, 26] })
    (base : Nat) (v : Value) (l : List Sp) (p q : Int) (hs : a.eval s = v) (hown : OwnS wr base v l) (hx : a.eval x = .slice (some ⟨wr.heap.size, 0, none⟩) 1 1)
    (hlen : l.length ≤ 4000000) (hbase : base ≤ wr.heap.size)
    (h : ∀ v' w', OwnS w' base v' (l ++ [(p, q)]) → (wr.alloc (.cells #[.int .i64 p, .int .i64 q] 31)).grownBy w' v.ownBlock → wpList Tryd.prog ops Q rest (a.put o.dst v') w') :
    wpList Tryd.prog ops Q (o :: rest) a (wr.alloc (.cells #[.int .i64 p, .int .i64 q] 31)) := by
  refine app_spans _ hgd s x ho base v l [(p, q)] hs (hown.alloc _) (wr.heap.size + 1) (some ⟨wr.heap.size, 0, none⟩) 1 hx ?_ (by simp; omega) (by simp; omega) h
  intro _
  refine ⟨wr.heap.size, 0, rfl, by omega, fun j hj => ?_⟩
  have : j = 0 := by simpa using hj
  subst this
  simp
theorem below_app_same {w W W1 : World} {B : Nat} {v : Value} {e size n : Nat} {xs : List Value} (hbel : Below B w W) (hB : B ≤ W.heap.size) (hown : W.ownsRow B e size v n xs) (hg : W.grownBy W1 v.ownBlock) : Below B w W1 := by
  refine hbel.grown hg hB ?_
  intro k hk
  obtain ⟨_, ⟨rfl, _⟩ | ⟨g, cap, cur, rfl, hge, _⟩⟩ := hown
  · simp [Value.ownBlock] at hk
  · simp only [Value.ownBlock] at hk; injection hk with hk; omega
theorem OwnS.nil_at (w : World) (base : Nat) (hb : base ≤ w.heap.size) : OwnS (w.alloc (.cells #[] 31)) base (.slice (some ⟨w.heap.size, 0, none⟩) 0 0) [] :=
  World.ownsRow_made w #[] 0 hb (Nat.zero_le _) (by simp)

theorem IsSp.split {w : World} {v : Value} {l : List Sp} (h : IsSp w v l) : ∃ (A : Option Addr) (n c : Nat), v = .slice A n c ∧ Hid (l.length = n) ∧ n ≤ c ∧ SpAt w w.heap.size A l := by
  obtain ⟨A, c, e, hc, hs⟩ := h
  exact ⟨A, _, c, e, rfl, hc, hs⟩
theorem IsIn.split {w : World} {v : Value} {l : List Int} (h : IsIn w v l) : ∃ (A : Option Addr) (n c : Nat), v = .slice A n c ∧ Hid (l.length = n) ∧ n ≤ c ∧ InAt w w.heap.size A l := by
  obtain ⟨A, c, e, hc, hs⟩ := h
  exact ⟨A, _, c, e, rfl, hc, hs⟩
theorem IsIn.mk' {w : World} {A : Option Addr} {n c : Nat} {l : List Int} (h1 : l.length = n) (h2 : n ≤ c) (h : InAt w w.heap.size A l) : IsIn w (.slice A n c) l := by subst h1; exact ⟨A, c, rfl, h2, h⟩
theorem IsSp.mk' {w : World} {A : Option Addr} {n c : Nat} {l : List Sp} (h1 : l.length = n) (h2 : n ≤ c) (h : SpAt w w.heap.size A l) : IsSp w (.slice A n c) l := by subst h1; exact ⟨A, c, rfl, h2, h⟩
theorem IsIn.st {l : List Int} : ∀ v W W', IsIn W v l → Ext W W' → IsIn W' v l := fun _ _ _ h e => h.below e
theorem IsSp.st {l : List Sp} : ∀ v W W', IsSp W v l → Ext W W' → IsSp W' v l := fun _ _ _ h e => h.below e
theorem ends_at {l : List Sp} {k : Nat} (h : k < l.length) : endsL (l.take (k + 1)) = endStep (endsL (l.take k)) l[k] := by
  rw [List.take_succ_eq_append_getElem h, endsL_snoc]
theorem rt_ok {x : Sp} : rtB x.1 x.2 = true ↔ okS x := by unfold rtB okS; simp; omega

end Go.Proofs.YthbjhpfgfpkppaaDoor.Rg
