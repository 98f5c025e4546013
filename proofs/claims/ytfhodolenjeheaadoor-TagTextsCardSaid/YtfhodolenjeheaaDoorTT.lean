/-
  A copy of a list of tags: append onto an empty list.
-/
import Derived.Test.YtfhodolenjeheaaDoorTE
namespace Go.Proofs.YtfhodolenjeheaaDoor
open Go Go.RowKit

/-- an empty list in a block of its own -/
def EmpT (v : Value) (W : World) : Prop := OwnT W 0 v [] ∧ ∃ g, v = .slice (some ⟨g, 0, none⟩) 0 0
theorem EmpT.st : ∀ v W W', EmpT v W → Ext W W' → EmpT v W' := fun _ _ _ h e => ⟨Below.ownT h.1 e, h.2⟩
theorem EmpT.made (W : World) : EmpT (.slice (some ⟨W.heap.size, 0, none⟩) 0 0) (W.alloc (.cells #[] 23)) := ⟨OwnT.nil_at W 0 (Nat.zero_le _), _, rfl⟩
theorem IsTg.st {l : List Tg} : ∀ v W W', IsTg W v l → Ext W W' → IsTg W' v l := fun _ _ _ h e => h.below e

theorem copy_run {v : Value} {W : World} (h : EmpT v W) (A : Option Addr) (n c : Nat) (l : List Tg) (hn : l.length = n) (hm : n ≤ 100000) (hs : TgAt W W.heap.size A l) (ty : TypeId) :
    ∃ v' w', (Builtin.append_ #[30, 30] ty #[v, .slice A n c]).run Tryd.prog W = .ok v' w' ∧ IsTg w' v' l ∧ Ext W w' := by
  obtain ⟨i0, hi, hz0, hz1, hz2⟩ := info_parts infoTg
  obtain ⟨hown, g, rfl⟩ := h
  subst hn
  rcases Nat.eq_zero_or_pos l.length with h0 | h0
  · have hl : l = [] := List.eq_nil_of_length_eq_zero h0
    subst hl
    refine ⟨.slice (some ⟨g, 0, none⟩) 0 0, W, ?_, IsTg.own hown, Ext.rf W⟩
    cases A with
    | none => exact append_none_run W Tryd.underlying30 hi _ 0 [] hown c
    | some ad => simp [Builtin.append_, run_underlying Tryd.underlying30, sizeOf, typeInfo, hi, Builtin.lenOf, run_firstCells_some (P := Tryd.prog) W i0.size 0 ad 0 c [] (by simp) (by simp), storeCells]
  · obtain ⟨b, off, rfl, hb, hc⟩ := hs h0
    have hnews : ∀ j u, (flat l)[j]? = some u → W.cell? ((⟨b, off, none⟩ : Addr).add j) = some u := by
      intro j u hj
      have hjl : j < l.length * 2 := by rw [← flat_len]; exact (List.getElem?_eq_some_iff.1 hj).1
      obtain ⟨c0, c1⟩ := hc (j / 2) (by omega)
      rw [Addr.add_lit]
      rcases Nat.mod_two_eq_zero_or_one j with h0 | h0
      · have e : j / 2 * 2 = j := by omega
        rw [e] at c0
        have := flat_get0 l (j / 2) (by omega)
        rw [e, hj] at this
        rw [c0, ← this]
      · have e : j / 2 * 2 + 1 = j := by omega
        have := flat_get1 l (j / 2) (by omega)
        rw [e, hj] at this
        rw [Nat.add_assoc, e] at c1
        rw [c1, ← this]
    have r1 := run_append_grow W 30 ty 23 i0 (.agg #[.string ⟨#[]⟩, .bool false]) Tryd.underlying30 hi hz0 ⟨g, 0, none⟩ 0 0 [] (by simp) (by simp) ⟨b, off, none⟩ l.length c (flat l) (by rw [flat_len, hz1]) hnews (by omega) (by omega) (by rw [Nat.zero_add, nextslicecap_zero h0, hz2]; omega)
    obtain ⟨v', w', r2, ho, _, _⟩ := run_append_own W 0 30 ty 23 i0 (.agg #[.string ⟨#[]⟩, .bool false]) 2 24 Tryd.underlying30 hi hz0 hz1 hz2 rfl (by omega) _ 0 [] hown ⟨b, off, none⟩ l.length c (flat l) (flat_len l) hnews (by
      intro u hu
      obtain ⟨p, _, hp⟩ := List.mem_flatMap.1 hu
      simp at hp
      rcases hp with rfl | rfl <;> rfl) (by unfold maxLen; omega) (by omega) (Nat.zero_le _)
    refine ⟨v', w', r2, ?_, ?_⟩
    · rw [Nat.zero_add, List.nil_append] at ho
      exact IsTg.own ho
    · rw [r1] at r2
      injection r2 with _ e2
      rw [← e2]
      exact Ext.tr (⟨rfl, rfl, rfl, Nat.le_refl _, fun _ _ => rfl⟩ : Ext W W.drew) ((Below.refl _ _).alloc (Nat.le_refl _) _)
theorem copy_makes {o : Oper} {ev : Operand → Value} {W : World} {v : Value} {s x : Operand} {c0 : Bool}
    (ho : o.op = .call { callee := .builtin .append, args := #[s, x], argTypes := #[30, 30] }) (h : EmpT v W) (A : Option Addr) (n c : Nat) (l : List Tg) (hs : ev s = v) (hx : ev x = .slice A n c)
    (hn : l.length = n) (hm : n ≤ 100000) (hr : TgAt W W.heap.size A l) (hc : c0 = true) :
    if c0 = true then makes Tryd.prog W (.rel fun v W => IsTg W v l) ((execOp ev o).run Tryd.prog W) else (fun v W => IsTg W v l) undef W := by
  rw [if_pos hc]
  obtain ⟨v', w', hrun, h1, h2⟩ := copy_run h A n c l hn hm hr o.type
  simp [execOp, ho, resolve, invoke, builtin, hs, hx, hrun, Result.andThen]
  exact ⟨h2, h1⟩
end Go.Proofs.YtfhodolenjeheaaDoor
