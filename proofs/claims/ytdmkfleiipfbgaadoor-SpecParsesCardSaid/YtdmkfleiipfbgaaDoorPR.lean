/-
  Slices of ranges (api.Spec) that a call owns, and append to them.
-/
import Derived.Test.YtdmkfleiipfbgaaDoorRF
import Derived.Test.YtdmkfleiipfbgaaDoorPA
namespace Go.Proofs.YtdmkfleiipfbgaaDoor
open Go Go.RowKit

abbrev OwnR (w : World) (base : Nat) (v : Value) (l : List Sp) : Prop := w.ownsRow base 32 2 v l.length (flat l)
theorem infoSr : (Tryd.prog.info? 32).map (fun i => (i.zero, i.size, i.bytes)) = some (some (.agg #[.int .i64 0, .int .i64 0]), 2, 16) := by kernel_rfl

theorem IsSp.ownR {w : World} {base : Nat} {v : Value} {l : List Sp} (h : w.ownsRow base 32 2 v l.length (flat l)) : IsSp w v l := by
  rcases Nat.eq_zero_or_pos l.length with h0 | h0
  · have hl : l = [] := List.eq_nil_of_length_eq_zero h0
    subst hl
    rcases h.2 with ⟨rfl, _⟩ | ⟨g, cap, cur, rfl, _⟩
    · exact IsSp.nil w
    · exact ⟨_, cap, rfl, Nat.zero_le _, fun h => absurd h (by simp)⟩
  · obtain ⟨g, cap, rfl, _, hlt⟩ := h.form h0
    have hcap : l.length ≤ cap := by
      rcases h.2 with ⟨e, _⟩ | ⟨g', cap', cur, e, _, _, hc, _⟩
      · cases e
      · injection e with _ _ e; omega
    refine ⟨_, cap, rfl, hcap, fun _ => ⟨g, 0, rfl, hlt, fun j hj => ?_⟩⟩
    rw [Nat.zero_add, h.cellAt (j * 2) (by omega), h.cellAt (j * 2 + 1) (by omega)]
    exact ⟨flat_get0 l j hj, flat_get1 l j hj⟩

/-- append(v, m...): v a list of the call's own, m any spans -/
theorem app_specs (w : World) {ops : Array Oper} {rest : List Oper} {o : Oper} {a : Act} {Q : Exit → Act → World → Prop} (hgd : o.guard = none) (s x : Operand)
    (ho : o.op = .call { callee := .builtin .append, args := #[s, x], argTypes := #[23, 23] })
    (base : Nat) (v : Value) (l m : List Sp) (hs : a.eval s = v) (hown : OwnR w base v l) (B : Nat) (A : Option Addr) (c : Nat) (hx : a.eval x = .slice A m.length c) (hr : SpAt w B A m)
    (hlen : l.length + m.length ≤ 8000000) (hbase : base ≤ w.heap.size)
    (h : ∀ v' w', OwnR w' base v' (l ++ m) → w.grownBy w' v.ownBlock → wpList Tryd.prog ops Q rest (a.put o.dst v') w') : wpList Tryd.prog ops Q (o :: rest) a w := by
  obtain ⟨i0, hi, hz0, hz1, hz2⟩ := info_parts infoSr
  cases A with
  | none =>
    have hm : m = [] := by
      rcases Nat.eq_zero_or_pos m.length with h0 | h0
      · exact List.eq_nil_of_length_eq_zero h0
      · obtain ⟨_, _, e, _⟩ := hr h0; cases e
    subst hm
    refine wpList_plain hgd fun K hK => ?_
    have hrun := append_none_run w (t := 23) (ty := o.type) Tryd.underlying23 hi v l.length (flat l) hown c
    unfold Oper.wp
    simp [execOp, ho, resolve, invoke, builtin, hs, hx, hrun, Result.andThen]
    exact hK _ _ (h v w (by simpa using hown) (World.grownBy.refl w _))
  | some ad =>
    refine wpList_append_own w hgd s x 23 ho base 32 i0 (.agg #[.int .i64 0, .int .i64 0]) 2 16 Tryd.underlying23 hi hz0 hz1 hz2 rfl (by omega) v l.length (flat l) hs hown ad m.length c (flat m) hx (flat_len m) ?_ ?_ (by unfold maxLen; omega) (by omega) hbase ?_
    · intro j u hj
      have hjl : j < m.length * 2 := by rw [← flat_len]; exact (List.getElem?_eq_some_iff.1 hj).1
      obtain ⟨b, off, e, hb, hc⟩ := hr (by omega)
      obtain rfl := Option.some.inj e
      obtain ⟨c0, c1⟩ := hc (j / 2) (by omega)
      rw [Addr.add_lit]
      rcases Nat.mod_two_eq_zero_or_one j with h0 | h0
      · have e : j / 2 * 2 = j := by omega
        rw [e] at c0
        have := flat_get0 m (j / 2) (by omega)
        rw [e, hj] at this
        rw [c0, ← this]
      · have e : j / 2 * 2 + 1 = j := by omega
        have := flat_get1 m (j / 2) (by omega)
        rw [e, hj] at this
        rw [Nat.add_assoc, e] at c1
        rw [c1, ← this]
    · intro u hu
      obtain ⟨p, _, hp⟩ := List.mem_flatMap.1 hu
      simp at hp
      rcases hp with rfl | rfl <;> rfl
    · intro v' w' h1 h2 _
      exact h v' w' (by unfold OwnR; rw [flat_append, List.length_append]; exact h1) h2
/-- append(v, X): one span, in a block of its own -/
theorem app_spec (wr : World) {ops : Array Oper} {rest : List Oper} {o : Oper} {a : Act} {Q : Exit → Act → World → Prop} (hgd : o.guard = none) (s x : Operand)
    (ho : o.op = .call { callee := .builtin .append, args := #[s, x], argTypes := #[23, 23] })
    (base : Nat) (v : Value) (l : List Sp) (p q : Int) (hs : a.eval s = v) (hown : OwnR wr base v l) (hx : a.eval x = .slice (some ⟨wr.heap.size, 0, none⟩) 1 1)
    (hlen : l.length ≤ 4000000) (hbase : base ≤ wr.heap.size)
    (h : ∀ v' w', OwnR w' base v' (l ++ [(p, q)]) → (wr.alloc (.cells #[.int .i64 p, .int .i64 q] 32)).grownBy w' v.ownBlock → wpList Tryd.prog ops Q rest (a.put o.dst v') w') :
    wpList Tryd.prog ops Q (o :: rest) a (wr.alloc (.cells #[.int .i64 p, .int .i64 q] 32)) := by
  refine app_specs _ hgd s x ho base v l [(p, q)] hs (hown.alloc _) (wr.heap.size + 1) (some ⟨wr.heap.size, 0, none⟩) 1 hx ?_ (by simp; omega) (by simp; omega) h
  intro _
  refine ⟨wr.heap.size, 0, rfl, by omega, fun j hj => ?_⟩
  have : j = 0 := by simpa using hj
  subst this
  simp
theorem Below.ownR {w W : World} {base : Nat} {v : Value} {l : List Sp} (h : OwnR w base v l) (hb : Ext w W) : OwnR W base v l :=
  World.ownsRow.kept (row := none) h ⟨hb.os, hb.tape, hb.output, hb.size, fun k hk _ => hb.block k hk⟩ (by
    cases hv : v.ownBlock with
    | none => exact .inl rfl
    | some g => exact .inr (by simp))


/-- append(v, X): one span, in a block of its own, behind a block that has just been made -/
theorem app_spec_at (wr : World) (n : Nat) (hz : wr.heap.size = n) {ops : Array Oper} {rest : List Oper} {o : Oper} {a : Act} {Q : Exit → Act → World → Prop} (hgd : o.guard = none) (s x : Operand)
    (ho : o.op = .call { callee := .builtin .append, args := #[s, x], argTypes := #[23, 23] })
    (base : Nat) (v : Value) (l : List Sp) (p q : Int) (hs : a.eval s = v) (hown : OwnR wr base v l) (hx : a.eval x = .slice (some ⟨n, 0, none⟩) 1 1)
    (hlen : l.length ≤ 4000000) (hbase : base ≤ wr.heap.size)
    (h : ∀ v' w', OwnR w' base v' (l ++ [(p, q)]) → (wr.alloc (.cells #[.int .i64 p, .int .i64 q] 32)).grownBy w' v.ownBlock → wpList Tryd.prog ops Q rest (a.put o.dst v') w') :
    wpList Tryd.prog ops Q (o :: rest) a (wr.alloc (.cells #[.int .i64 p, .int .i64 q] 32)) := by
  subst hz; exact app_spec wr hgd s x ho base v l p q hs hown hx hlen hbase h

end Go.Proofs.YtdmkfleiipfbgaaDoor
