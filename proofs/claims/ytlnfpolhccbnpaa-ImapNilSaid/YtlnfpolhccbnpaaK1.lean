/-
  Lists of numbers in memory; appends onto a list of the call's own; the edges of acts.
-/
import Derived.Laws.AppendOwnNone
import Derived.Test.YtlnfpolhccbnpaaRMath
import Derived.Test.YtlnfpolhccbnpaaJ2
namespace Go.Proofs.Ytlnfpolhccbnpaa
open Go Go.RowKit

abbrev OwnI (w : World) (base : Nat) (v : Value) (l : List Int) : Prop := w.ownsRow base 2 1 v l.length (l.map (Value.int .i64))
/-- a slice of numbers reads so -/
def InAt (w : World) (B : Nat) (A : Option Addr) (l : List Int) : Prop :=
  0 < l.length → ∃ b o, A = some ⟨b, o, none⟩ ∧ b < B ∧ ∀ j (h : j < l.length), w.cell? ⟨b, o + j, none⟩ = some (.int .i64 l[j])
theorem InAt.below {w w' : World} {B B' : Nat} {A : Option Addr} {l : List Int} (h : InAt w B A l) (hb : Below B w w') (hB : B ≤ B') : InAt w' B' A l := fun hl => by
  obtain ⟨b, o, e, hlt, hc⟩ := h hl
  refine ⟨b, o, e, by omega, fun j hj => ?_⟩
  rw [hb.cell (p := ⟨b, o + j, none⟩) hlt]
  exact hc j hj
/-- an owned list, as a slice that reads so -/
theorem OwnI.at_ {w : World} {base : Nat} {v : Value} {l : List Int} (h : OwnI w base v l) : ∃ A n c, v = .slice A n c ∧ l.length = n ∧ n ≤ c ∧ InAt w w.heap.size A l := by
  rcases Nat.eq_zero_or_pos l.length with h0 | h0
  · have hl : l = [] := List.eq_nil_of_length_eq_zero h0
    subst hl
    rcases h.2 with ⟨rfl, _⟩ | ⟨g, cap, cur, rfl, _⟩
    · exact ⟨none, 0, 0, rfl, rfl, Nat.le_refl _, fun h => absurd h (by simp)⟩
    · exact ⟨_, 0, cap, rfl, rfl, Nat.zero_le _, fun h => absurd h (by simp)⟩
  · obtain ⟨g, cap, rfl, _, hlt⟩ := World.ownsRow.form h h0
    have hcap : l.length ≤ cap := by
      rcases h.2 with ⟨e, _⟩ | ⟨g', cap', cur, e, _, _, hc, _⟩
      · cases e
      · injection e with _ _ e; omega
    refine ⟨_, _, cap, rfl, rfl, hcap, fun _ => ⟨g, 0, rfl, hlt, fun j hj => ?_⟩⟩
    rw [Nat.zero_add, World.ownsRow.cellAt h j (by omega)]
    simp [hj]
theorem infoI64 : (Try.prog.info? 2).map (fun i => (i.zero, i.size, i.bytes)) = some (some (.int .i64 0), 1, 8) := by kernel_rfl
theorem append_none_run (w : World) {base : Nat} {t ty e : TypeId} {i : TypeInfo} {size : Nat} (ht : Try.prog.underlying t = some (.slice e)) (hi : Try.prog.info? e = some i) (v : Value) (n : Nat) (xs : List Value) (hown : w.ownsRow base e size v n xs) (c : Nat) :
    (Builtin.append_ #[t, t] ty #[v, .slice none 0 c]).run Try.prog w = .ok v w := by
  obtain ⟨_, ⟨rfl, _⟩ | ⟨g, cap, cur, rfl, _, _, hnc, _⟩⟩ := hown
  · simp [Builtin.append_, run_underlying ht, sizeOf, typeInfo, hi, Builtin.lenOf, Builtin.firstCells]
  · simp [Builtin.append_, run_underlying ht, sizeOf, typeInfo, hi, Builtin.lenOf, Builtin.firstCells, hnc, storeCells]
/-- append(v, m...): v a list of the call's own, m any numbers -/
theorem app_ints (w : World) {ops : Array Oper} {rest : List Oper} {o : Oper} {a : Act} {Q : Exit → Act → World → Prop} (hgd : o.guard = none) (s x : Operand)
    (ho : o.op = .call { callee := .builtin .append, args := #[s, x], argTypes := #[33, 33] })
    (base : Nat) (v : Value) (l m : List Int) (hs : a.eval s = v) (hown : OwnI w base v l) (A : Option Addr) (n c : Nat) (hn : m.length = n) (hx : a.eval x = .slice A n c) (B : Nat) (hr : InAt w B A m)
    (hlen : l.length + m.length ≤ 8000000) (hbase : base ≤ w.heap.size)
    (h : ∀ v' w', OwnI w' base v' (l ++ m) → w.grownBy w' v.ownBlock → wpList Try.prog ops Q rest (a.put o.dst v') w') : wpList Try.prog ops Q (o :: rest) a w := by
  subst hn
  obtain ⟨i0, hi, hz0, hz1, hz2⟩ := info_parts infoI64
  cases A with
  | none =>
    have hm : m = [] := by
      rcases Nat.eq_zero_or_pos m.length with h0 | h0
      · exact List.eq_nil_of_length_eq_zero h0
      · obtain ⟨_, _, e, _⟩ := hr h0; cases e
    subst hm
    refine wpList_plain hgd fun K hK => ?_
    have hrun := append_none_run w (t := 33) (ty := o.type) Try.underlying33 hi v l.length _ hown c
    unfold Oper.wp
    simp [execOp, ho, resolve, invoke, builtin, hs, hx, hrun, Result.andThen]
    exact hK _ _ (h v w (by simpa using hown) (World.grownBy.refl w _))
  | some ad =>
    refine wpList_append_own w hgd s x 33 ho base 2 i0 (.int .i64 0) 1 8 Try.underlying33 hi hz0 hz1 hz2 rfl (by omega) v l.length (l.map (Value.int .i64)) hs hown ad m.length c (m.map (Value.int .i64)) hx (by simp) ?_ ?_ (by unfold maxLen; omega) (by omega) hbase ?_
    · intro j u hj
      have hjl : j < m.length := by have := (List.getElem?_eq_some_iff.1 hj).1; simpa using this
      obtain ⟨b, off, e, hb, hc⟩ := hr (by omega)
      obtain rfl := Option.some.inj e
      rw [Addr.add_lit, hc j hjl]
      rw [List.getElem?_map, List.getElem?_eq_getElem hjl] at hj
      exact hj
    · intro u hu
      obtain ⟨p, _, rfl⟩ := List.mem_map.1 hu
      rfl
    · intro v' w' h1 h2 _
      exact h v' w' (by unfold OwnI; rw [List.map_append, List.length_append]; exact h1) h2
theorem own_ne {w : World} {base e size n b : Nat} {v : Value} {xs : List Value} (h : w.ownsRow base e size v n xs) (hb : b < base) : v.ownBlock ≠ some b := by
  obtain ⟨_, ⟨rfl, _⟩ | ⟨g, cap, cur, rfl, hg, _⟩⟩ := h
  · simp [Value.ownBlock]
  · simp only [Value.ownBlock]; intro q; injection q with q; omega
theorem below_app_same {w W W1 : World} {B : Nat} {v : Value} {e size n : Nat} {xs : List Value} (hbel : Below B w W) (hB : B ≤ W.heap.size) (hown : W.ownsRow B e size v n xs) (hg : W.grownBy W1 v.ownBlock) : Below B w W1 := by
  refine hbel.grown hg hB ?_
  intro k hk
  obtain ⟨_, ⟨rfl, _⟩ | ⟨g, cap, cur, rfl, hge, _⟩⟩ := hown
  · simp [Value.ownBlock] at hk
  · simp only [Value.ownBlock] at hk; injection hk with hk; omega
theorem OwnI.nil_at (w : World) (base : Nat) (hb : base ≤ w.heap.size) : OwnI (w.alloc (.cells #[] 2)) base (.slice (some ⟨w.heap.size, 0, none⟩) 0 0) [] :=
  World.ownsRow_made w #[] 0 hb (Nat.zero_le _) (by simp)
theorem OwnI.one_at (w : World) (base : Nat) (x : Int) (hb : base ≤ w.heap.size) : OwnI (w.alloc (.cells #[.int .i64 x] 2)) base (.slice (some ⟨w.heap.size, 0, none⟩) 1 1) [x] :=
  ⟨rfl, .inr ⟨w.heap.size, 1, #[.int .i64 x], rfl, hb, heap_alloc_new w _, Nat.le_refl _, by decide, rfl, rfl⟩⟩

theorem insL_here {n : Int} : ∀ {X r : List Int}, (∀ x ∈ X, x < n) → insL n (X ++ n :: r) = X ++ n :: r
  | [], r, _ => by simp [insL]
  | x :: X, r, h => by
    simp only [List.cons_append, insL]
    rw [if_neg (by have := h x (List.mem_cons_self ..); omega), insL_here fun y hy => h y (List.mem_cons_of_mem _ hy)]
theorem insL_gap {n y : Int} : ∀ {X r : List Int}, (∀ x ∈ X, x < n) → n < y → insL n (X ++ y :: r) = X ++ n :: y :: r
  | [], r, _, h => by simp only [List.nil_append, insL]; rw [if_pos (by omega), if_pos h]
  | x :: X, r, h, hy => by
    simp only [List.cons_append, insL]
    rw [if_neg (by have := h x (List.mem_cons_self ..); omega), insL_gap (fun y hy => h y (List.mem_cons_of_mem _ hy)) hy]
/-- the edges of acts -/
def edgeA (o : List Int) (x : Ac) : List Int := if 0 < lenI x.2.1 x.2.2.1 then insL x.2.2.1 (insL x.2.1 o) else o
def edgesA (l : List Ac) : List Int := l.foldl edgeA [0]
theorem edgesA_take {l : List Ac} {k : Nat} (h : k < l.length) : edgesA (l.take (k + 1)) = edgeA (edgesA (l.take k)) l[k] := by
  unfold edgesA
  rw [List.take_succ_eq_append_getElem h, List.foldl_append]; rfl
theorem edgeA_len (o : List Int) (x : Ac) : (edgeA o x).length ≤ o.length + 2 := by
  unfold edgeA
  split
  · have a := insL_len x.2.2.1 (insL x.2.1 o); have b := insL_len x.2.1 o; omega
  · omega
theorem edges_len : ∀ (l : List Ac) (o : List Int), (l.foldl edgeA o).length ≤ o.length + 2 * l.length
  | [], o => by simp
  | x :: l, o => by
    have h1 := edges_len l (edgeA o x); have h2 := edgeA_len o x
    simp only [List.foldl_cons, List.length_cons]; omega
end Go.Proofs.Ytlnfpolhccbnpaa
