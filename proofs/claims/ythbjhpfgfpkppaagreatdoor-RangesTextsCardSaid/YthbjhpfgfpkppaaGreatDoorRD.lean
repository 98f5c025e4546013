/-
  Appending spans to a list of the call's own; the reference's ends: all places at which spans begin or end.
-/
import Derived.Laws.AppendOwnNone
import Derived.Test.YthbjhpfgfpkppaaGreatDoorRC
import Derived.Test.YthbjhpfgfpkppaaGreatDoorRegion
namespace Go.Proofs.YthbjhpfgfpkppaaGreatDoor
open Go Go.RowKit

theorem append_none_run (w : World) {base : Nat} {t ty e : TypeId} {i : TypeInfo} {size : Nat} (ht : Tryz.prog.underlying t = some (.slice e)) (hi : Tryz.prog.info? e = some i) (v : Value) (n : Nat) (xs : List Value) (hown : w.ownsRow base e size v n xs) (c : Nat) :
    (Builtin.append_ #[t, t] ty #[v, .slice none 0 c]).run Tryz.prog w = .ok v w := by
  obtain ⟨_, ⟨rfl, _⟩ | ⟨g, cap, cur, rfl, _, _, hnc, _⟩⟩ := hown
  · simp [Builtin.append_, run_underlying ht, sizeOf, typeInfo, hi, Builtin.lenOf, Builtin.firstCells]
  · simp [Builtin.append_, run_underlying ht, sizeOf, typeInfo, hi, Builtin.lenOf, Builtin.firstCells, hnc, storeCells]

/-- append(v, m...): v a list of the call's own, m any spans -/
theorem app_spans (w : World) {ops : Array Oper} {rest : List Oper} {o : Oper} {a : Act} {Q : Exit → Act → World → Prop} (hgd : o.guard = none) (s x : Operand)
    (ho : o.op = .call { callee := .builtin .append, args := #[s, x], argTypes := #[22, 22] })
    (base : Nat) (v : Value) (l m : List Sp) (hs : a.eval s = v) (hown : OwnS w base v l) (B : Nat) (A : Option Addr) (c : Nat) (hx : a.eval x = .slice A m.length c) (hr : SpAt w B A m)
    (hlen : l.length + m.length ≤ 8000000) (hbase : base ≤ w.heap.size)
    (h : ∀ v' w', OwnS w' base v' (l ++ m) → w.grownBy w' v.ownBlock → wpList Tryz.prog ops Q rest (a.put o.dst v') w') : wpList Tryz.prog ops Q (o :: rest) a w := by
  obtain ⟨i0, hi, hz0, hz1, hz2⟩ := info_parts infoSp
  cases A with
  | none =>
    have hm : m = [] := by
      rcases Nat.eq_zero_or_pos m.length with h0 | h0
      · exact List.eq_nil_of_length_eq_zero h0
      · obtain ⟨_, _, e, _⟩ := hr h0; cases e
    subst hm
    refine wpList_plain hgd fun K hK => ?_
    have hrun := append_none_run w (t := 22) (ty := o.type) Tryz.underlying22 hi v l.length (flat l) hown c
    unfold Oper.wp
    simp [execOp, ho, resolve, invoke, builtin, hs, hx, hrun, Result.andThen]
    exact hK _ _ (h v w (by simpa using hown) (World.grownBy.refl w _))
  | some ad =>
    refine wpList_append_own w hgd s x 22 ho base 41 i0 (.agg #[.int .i64 0, .int .i64 0]) 2 16 Tryz.underlying22 hi hz0 hz1 hz2 rfl (by omega) v l.length (flat l) hs hown ad m.length c (flat m) hx (flat_len m) ?_ ?_ (by unfold maxLen; omega) (by omega) hbase ?_
    · intro j u hj
      have hjl : j < m.length * 2 := by rw [← flat_len]; exact (List.getElem?_eq_some_iff.1 hj).1
      obtain ⟨b, off, e, hb, hc⟩ := hr (by omega)
      obtain rfl := Option.some.inj e
      obtain ⟨c0, c1⟩ := hc (j / 2) (by omega)
      rw [Addr.add_lit]
      rcases Nat.mod_two_eq_zero_or_one j with h0 | h0
      · have e : j / 2 * 2 = j := by omega
        rw [e] at c0
        have := flat_get0 m (j / 2) (by omega)
        rw [e, hj] at this
        rw [c0, ← this]
      · have e : j / 2 * 2 + 1 = j := by omega
        have := flat_get1 m (j / 2) (by omega)
        rw [e, hj] at this
        rw [Nat.add_assoc, e] at c1
        rw [c1, ← this]
    · intro u hu
      obtain ⟨p, _, hp⟩ := List.mem_flatMap.1 hu
      simp at hp
      rcases hp with rfl | rfl <;> rfl
    · intro v' w' h1 h2 _
      exact h v' w' (by unfold OwnS; rw [flat_append, List.length_append]; exact h1) h2
/-- append(v, X): one span, in a block of its own -/
theorem app_span (wr : World) {ops : Array Oper} {rest : List Oper} {o : Oper} {a : Act} {Q : Exit → Act → World → Prop} (hgd : o.guard = none) (s x : Operand)
    (ho : o.op = .call { callee := .builtin .append, args := #[s, x], argTypes := #[22, 22] })
    (base : Nat) (v : Value) (l : List Sp) (p q : Int) (hs : a.eval s = v) (hown : OwnS wr base v l) (hx : a.eval x = .slice (some ⟨wr.heap.size, 0, none⟩) 1 1)
    (hlen : l.length ≤ 4000000) (hbase : base ≤ wr.heap.size)
    (h : ∀ v' w', OwnS w' base v' (l ++ [(p, q)]) → (wr.alloc (.cells #[.int .i64 p, .int .i64 q] 41)).grownBy w' v.ownBlock → wpList Tryz.prog ops Q rest (a.put o.dst v') w') :
    wpList Tryz.prog ops Q (o :: rest) a (wr.alloc (.cells #[.int .i64 p, .int .i64 q] 41)) := by
  refine app_spans _ hgd s x ho base v l [(p, q)] hs (hown.alloc _) (wr.heap.size + 1) (some ⟨wr.heap.size, 0, none⟩) 1 hx ?_ (by simp; omega) (by simp; omega) h
  intro _
  refine ⟨wr.heap.size, 0, rfl, by omega, fun j hj => ?_⟩
  have : j = 0 := by simpa using hj
  subst this
  simp
theorem below_app_same {w W W1 : World} {B : Nat} {v : Value} {e size n : Nat} {xs : List Value} (hbel : Below B w W) (hB : B ≤ W.heap.size) (hown : W.ownsRow B e size v n xs) (hg : W.grownBy W1 v.ownBlock) : Below B w W1 := by
  refine hbel.grown hg hB ?_
  intro k hk
  obtain ⟨_, ⟨rfl, _⟩ | ⟨g, cap, cur, rfl, hge, _⟩⟩ := hown
  · simp [Value.ownBlock] at hk
  · simp only [Value.ownBlock] at hk; injection hk with hk; omega
theorem OwnS.nil_at (w : World) (base : Nat) (hb : base ≤ w.heap.size) : OwnS (w.alloc (.cells #[] 41)) base (.slice (some ⟨w.heap.size, 0, none⟩) 0 0) [] :=
  World.ownsRow_made w #[] 0 hb (Nat.zero_le _) (by simp)

theorem IsSp.split {w : World} {v : Value} {l : List Sp} (h : IsSp w v l) : ∃ (A : Option Addr) (n c : Nat), v = .slice A n c ∧ Hid (l.length = n) ∧ n ≤ c ∧ SpAt w w.heap.size A l := by
  obtain ⟨A, c, e, hc, hs⟩ := h
  exact ⟨A, _, c, e, rfl, hc, hs⟩
theorem IsIn.split {w : World} {v : Value} {l : List Int} (h : IsIn w v l) : ∃ (A : Option Addr) (n c : Nat), v = .slice A n c ∧ Hid (l.length = n) ∧ n ≤ c ∧ InAt w w.heap.size A l := by
  obtain ⟨A, c, e, hc, hs⟩ := h
  exact ⟨A, _, c, e, rfl, hc, hs⟩
theorem IsIn.mk' {w : World} {A : Option Addr} {n c : Nat} {l : List Int} (h1 : l.length = n) (h2 : n ≤ c) (h : InAt w w.heap.size A l) : IsIn w (.slice A n c) l := by subst h1; exact ⟨A, c, rfl, h2, h⟩
theorem IsSp.mk' {w : World} {A : Option Addr} {n c : Nat} {l : List Sp} (h1 : l.length = n) (h2 : n ≤ c) (h : SpAt w w.heap.size A l) : IsSp w (.slice A n c) l := by subst h1; exact ⟨A, c, rfl, h2, h⟩
theorem ins_rel {W : World} {A : Option Addr} {n c : Nat} {l : List Int} {x : Int} (h1 : l.length = n) (hn : n ≤ 1000000) (hs : InAt W W.heap.size A l) :
    Calls Tryz.prog 71 #[.slice A n c, .int .i64 x] W fun e w' => ∃ v, e = .returned v ∧ IsIn w' v (insL x l) ∧ Below W.heap.size W w' := by
  subst h1
  exact (insert_any A c l x W hn hs).mono fun e w' ⟨v, he, ho, hb⟩ => ⟨v, he, IsIn.own ho, hb⟩
theorem ins_is {W : World} {v : Value} {l : List Int} {x : Int} (hn : l.length ≤ 1000000) (hs : IsIn W v l) :
    Calls Tryz.prog 71 #[v, .int .i64 x] W fun e w' => ∃ v', e = .returned v' ∧ IsIn w' v' (insL x l) ∧ Below W.heap.size W w' := by
  obtain ⟨A, c, rfl, hc, h⟩ := hs
  exact ins_rel rfl hn h
theorem IsIn.st {l : List Int} : ∀ v W W', IsIn W v l → Ext W W' → IsIn W' v l := fun _ _ _ h e => h.below e
theorem IsSp.st {l : List Sp} : ∀ v W W', IsSp W v l → Ext W W' → IsSp W' v l := fun _ _ _ h e => h.below e
theorem ends_at {l : List Sp} {k : Nat} (h : k < l.length) : endsL (l.take (k + 1)) = endStep (endsL (l.take k)) l[k] := by
  rw [List.take_succ_eq_append_getElem h, endsL_snoc]
theorem rt_ok {x : Sp} : rtB x.1 x.2 = true ↔ okS x := by unfold rtB okS; simp; omega

set_option maxHeartbeats 8000000 in
set_option maxRecDepth 100000 in
theorem ends_any (A A' : Option Addr) (c c' : Nat) (l m : List Sp) (w : World) (hm : l.length ≤ 100000) (hm' : m.length ≤ 100000) (hs : SpAt w w.heap.size A l) (hs' : SpAt w w.heap.size A' m) :
    Calls Tryz.prog 47 #[.slice A l.length c, .slice A' m.length c'] w fun e w' => ∃ v, e = .returned v ∧ IsIn w' v (endsL (l ++ m)) ∧ Below w.heap.size w w' := by
  have HS := Lib.hid hs; have HS' := Lib.hid hs'
  clear hs hs'
  go_enter Tryz.func47, Tryz.ntmps47
  go_wp2_with (first
    | (at_builtin; refine app_spans _ (by rfl) _ _ (by rfl) w.heap.size _ [] l (by rfl) (OwnS.nil_at w _ (Nat.le_refl _)) w.heap.size A c (by rfl) (HS.out.below (by go_grown) (Nat.le_refl _)) (by simp; omega) (by simp) ?_; intro v1 w1 hown1 hgrow; have B1 : Below w.heap.size w w1 := below_app_same (by go_grown) (by simp) (OwnS.nil_at w _ (Nat.le_refl _)) hgrow; clear hgrow; have tok1 : True := trivial)
    | (at_builtin; have _t := tok1; refine app_spans _ (by rfl) _ _ (by rfl) w.heap.size v1 ([] ++ l) m (by rfl) hown1 w.heap.size A' c' (by rfl) (HS'.out.below B1 (Nat.le_refl _)) (by simp; omega) B1.size ?_; intro v2 w2 hown2 hgrow; have B2 : Below w.heap.size w w2 := below_app_same B1 B1.size hown1 hgrow; obtain ⟨A2, n, cc, rfl, HL, hcc, hS2⟩ := IsSp.split (IsSp.own hown2); have hn : n ≤ 200000 := (by have h := HL.out; simp at h; omega); clear hgrow tok1 hown1 hown2 B1))
  have HS2 := Lib.hid hS2
  clear hS2
  rw [List.nil_append] at HL HS2
  obtain ⟨L, HLm⟩ : ∃ L, Hid (l ++ m = L) := ⟨_, rfl⟩
  rw [HLm.out] at HL HS2
  clear HS HS' hm hm'
  go_loopw [5, 7] (fun v i wr => ∃ k : Nat, k ≤ n ∧ i = .int .i64 k ∧ IsIn wr v (endsL (L.take k)) ∧ Below w2.heap.size w2 wr) (fun _ i _ => n - (intOf i).toNat)
  case atStart => exact ⟨0, Nat.zero_le _, rfl, ⟨none, 0, rfl, Nat.le_refl _, fun h => absurd h (by simp [endsL])⟩, Below.refl _ _⟩
  case round =>
    obtain ⟨k, hk, rfl, hin, hbel⟩ := hrel
    by_cases hlt : k < n
    · have hkl : k < L.length := by have := HL.out; omega
      obtain ⟨b, o, rfl, hb, hc⟩ := (HS2.out.below hbel (Nat.le_refl _)) (by omega)
      obtain ⟨c0, c1⟩ := hc k hkl
      clear hc
      have HE := Lib.hid (ends_at hkl)
      have hel := endsL_len (L.take k)
      rw [List.length_take] at hel
      generalize endsL (L.take k) = E0 at *
      generalize hX : L[k] = X at *
      obtain ⟨x, y⟩ := X
      clear hX
      have hbz : b < wr.heap.size := by have := hbel.size; omega
      obtain ⟨Ai, ni, ci, rfl, HI, hci, hiA⟩ := hin.split
      have hni : ni ≤ 400000 := by have := HI.out; omega
      have HIA := Lib.hid hiA
      clear hiA hin
      cases hr : rtB x y with
      | false =>
        have HF : Hid (E0 = endsL (L.take (k + 1))) := by unfold Hid; rw [HE.out, endStep, if_neg (by rw [← rt_ok]; simp [hr])]
        clear HE
        go_wp2_with (go_at_call 44; with_reducible refine (rright_any x y _).mono ?_; rintro e w3 ⟨rfl, hb1⟩; obtain ⟨hc1, hf1⟩ := bcell hb1; have B1 := bel hbel hb1; have I1 := IsIn.mk' HI.out hci (HIA.out.below hb1 hb1.size); clear hb1)
        go_roundw
        case rel => exact ⟨k + 1, by omega, by go_num, by rw [← HF.out]; exact I1, B1⟩
        case measure => simp [intOf]; omega
      | true =>
        have HF : Hid (insL y (insL x E0) = endsL (L.take (k + 1))) := by unfold Hid; rw [HE.out, endStep, if_pos (rt_ok.1 hr)]
        clear HE
        go_wp2_with (go_at_call 44; with_reducible refine (rright_any x y _).mono ?_; rintro e w3 ⟨rfl, hb1⟩; obtain ⟨hc1, hf1⟩ := bcell hb1; have B1 := bel hbel hb1; have I1 := IsIn.mk' HI.out hci (HIA.out.below hb1 hb1.size); have c0' : w3.cell? ⟨b, o + k * 2, none⟩ = some (.int .i64 x) := (by rw [hc1 _ _ hbz]; exact c0); have c1' : w3.cell? ⟨b, o + k * 2 + 1, none⟩ = some (.int .i64 y) := (by rw [hc1 _ _ hbz]; exact c1); have hbz3 : b < w3.heap.size := Nat.lt_of_lt_of_le hbz hb1.size; clear hb1)
        clear hc1 hf1
        have k0 : ∀ W, Ext w3 W → W.cell? ⟨b, o + k * 2, none⟩ = some (.int .i64 x) := fun W h => by rw [h.cell (p := ⟨b, o + k * 2, none⟩) hbz3]; exact c0'
        have k1 : ∀ W, Ext w3 W → W.cell? ⟨b, o + k * 2 + 1, none⟩ = some (.int .i64 y) := fun W h => by rw [h.cell (p := ⟨b, o + k * 2 + 1, none⟩) hbz3]; exact c1'
        have J1 := Lib.hid I1
        clear I1 c0' c1' c0 c1
        have hE0 : E0.length ≤ 1000000 := by have := HI.out; omega
        have hI1 : (insL x E0).length ≤ 1000000 := by have := insL_len x E0; have := HI.out; omega
        refine' wp_region_made (rels := relsOf [.val _, .val _, .val _, .val _, .val _, .val _, .rel (fun v W => IsIn W v (insL x E0)), .val _, .val _, .val _, .val _, .val _, .rel (fun v W => IsIn W v (insL y (insL x E0))), .rel (fun v W => IsIn W v (insL y (insL x E0)))]) (w := w3) 38 (by kernel_rfl) (by kernel_rfl) (by rfl) (relsOf_stable ?st) ?wk
        case st => exact stable_val (stable_val (stable_val (stable_val (stable_val (stable_val (stable_rel IsIn.st (stable_val (stable_val (stable_val (stable_val (stable_val (stable_rel IsIn.st (stable_rel IsIn.st (stable_nil))))))))))))))
        case wk =>
          refine' walk_val (by rfl) ?a0 (fun K hK => ?b0); (case a0 => (intro W hW hd; clear hd; go_simp; exact ⟨Ext.rf _, rfl⟩)); (go_simp; refine hK _ ?_; clear hK K)
          refine' walk_val (by rfl) ?a1 (fun K hK => ?b1); (case a1 => (intro W hW hd; clear hd; go_simp; exact ⟨Ext.rf _, rfl⟩)); (go_simp; refine hK _ ?_; clear hK K)
          refine' walk_val (by rfl) ?a2 (fun K hK => ?b2); (case a2 => (intro W hW hd; clear hd; go_simp; exact ⟨Ext.rf _, rfl⟩)); (go_simp; refine hK _ ?_; clear hK K)
          refine' walk_val (by rfl) ?a3 (fun K hK => ?b3); (case a3 => (intro W hW hd; clear hd; go_simp; exact ⟨Ext.rf _, rfl⟩)); (go_simp; refine hK _ ?_; clear hK K)
          refine' walk_val (by rfl) ?a4 (fun K hK => ?b4); (case a4 => (intro W hW hd; clear hd; go_simp; exact ⟨Ext.rf _, rfl⟩)); (go_simp; refine hK _ ?_; clear hK K)
          refine' walk_val (by rfl) ?a5 (fun K hK => ?b5); (case a5 => (intro W hW hd; clear hd; go_simp; exact ⟨Ext.rf _, rfl⟩)); (go_simp; refine hK _ ?_; clear hK K)
          refine' walk_rel (by rfl) ?a6 (fun v6 K hK => ?b6); (case a6 => (intro W hW hd; go_simp; (clear hd; exact makes_rel (ins_is hE0 (J1.out.below hW))))); (go_simp; refine hK _ ?_; clear hK K)
          refine' walk_val (by rfl) ?a7 (fun K hK => ?b7); (case a7 => (intro W hW hd; clear hd; go_simp; exact ⟨Ext.rf _, rfl⟩)); (go_simp; refine hK _ ?_; clear hK K)
          refine' walk_val (by rfl) ?a8 (fun K hK => ?b8); (case a8 => (intro W hW hd; clear hd; go_simp; exact ⟨Ext.rf _, rfl⟩)); (go_simp; refine hK _ ?_; clear hK K)
          refine' walk_val (by rfl) ?a9 (fun K hK => ?b9); (case a9 => (intro W hW hd; clear hd; go_simp; exact ⟨Ext.rf _, rfl⟩)); (go_simp; refine hK _ ?_; clear hK K)
          refine' walk_val (by rfl) ?a10 (fun K hK => ?b10); (case a10 => (intro W hW hd; clear hd; go_simp; exact ⟨Ext.rf _, rfl⟩)); (go_simp; refine hK _ ?_; clear hK K)
          refine' walk_val (by rfl) ?a11 (fun K hK => ?b11); (case a11 => (intro W hW hd; clear hd; go_simp; exact ⟨Ext.rf _, rfl⟩)); (go_simp; refine hK _ ?_; clear hK K)
          refine' walk_rel (by rfl) ?a12 (fun v12 K hK => ?b12); (case a12 => (intro W hW hd; go_simp; (have hm := dep_rel hd ⟨6, .data⟩ 30 v6 (by simp) (by rfl) (by rfl) (by rfl) (by rfl); clear hd; exact makes_rel (ins_is hI1 hm)))); (go_simp; refine hK _ ?_; clear hK K)
          refine' walk_rel (by rfl) ?a13 (fun v13 K hK => ?b13); (case a13 => (intro W hW hd; have hm := dep_rel hd ⟨12, .data⟩ 36 v12 (by simp) (by rfl) (by rfl) (by rfl) (by rfl); clear hd; go_simp; exact ⟨Ext.rf _, hm⟩)); (go_simp; refine hK _ ?_; clear hK K)
          refine walk_end (fun W hW hfin => ?_)
          have hm := fin_rel hfin 13 5 v13 (by rfl) (by rfl) (by rfl)
          have HM := Lib.hid hm
          clear hfin hm k0 k1
          go_simp
          have B2' := bel B1 hW
          clear hW
          go_wp2
          go_roundw
          case rel => exact ⟨k + 1, by omega, by go_num, by rw [← HF.out]; exact HM.out, B2'⟩
          case measure => simp [intOf]; omega
    · obtain rfl : k = n := by omega
      have HF : Hid (L.take k = L) := List.take_of_length_le (by have := HL.out; omega)
      have HI := Lib.hid hin
      clear hin
      go_wp2
      go_ret
      exact ⟨_, rfl, by rw [HLm.out, ← HF.out]; exact HI.out, bel B2 hbel⟩
end Go.Proofs.YthbjhpfgfpkppaaGreatDoor
