/-
  ImapApart: Clone; what is gone through by its own yield; acts in memory, put together.
-/
import Derived.Test.YtlnfpolhccbnpaaII
namespace Go.Proofs.Ytlnfpolhccbnpaa
open Go Go.RowKit

set_option maxHeartbeats 4000000 in
set_option maxRecDepth 100000 in
theorem thr_apart (go : Nat → Bool) (I : Nat → World → Prop) (cap : Array Value) (sb : Nat) (A : Option Addr) (n c : Nat) (l : List Rn) (hn : l.length = n) (hm : n ≤ 1000000)
    (hIa : ∀ k W o, I k W → I k (W.alloc o)) (hsb : ∀ W, I 0 W → W.cell? ⟨sb, 0, none⟩ = some (.slice A n c)) (hcell : ∀ k W, I k W → RnAt W W.heap.size A l)
    (hy : ∀ k (hk : k < l.length) W, I k W → Calls Try.prog 31 (#[.agg #[.int .i64 l[k].1, .int .i64 l[k].2.1], .int .i64 l[k].2.2] ++ cap) W fun e w' => e = .returned (.bool (go k)) ∧ I (k + 1) w') (w : World) (hw : I 0 w) :
    Calls Try.prog 59 #[.func (.func 31) #[] cap, .pointer (some ⟨sb, 0, none⟩)] w fun e w' =>
      e = .returned (.tuple #[]) ∧ ∃ r, r ≤ n ∧ (∀ j, j + 1 < r → go j = true) ∧ (r = n ∨ (0 < r ∧ go (r - 1) = false)) ∧ I r w' := by
  have HN := Lib.hid hn
  have hs0 := hsb w hw
  clear hn
  go_enter Try.func59, Try.ntmps59
  go_wp2
  go_loopw [7] (fun i wr => ∃ k : Nat, k ≤ n ∧ i = .int .i64 k ∧ I k wr ∧ Hid (∀ j, j < k → go j = true)) (fun i _ => n - (intOf i).toNat)
  case atStart => exact ⟨0, Nat.zero_le _, rfl, hw, fun j h => absurd h (Nat.not_lt_zero _)⟩
  case round =>
    obtain ⟨k, hk, rfl, hI, HG⟩ := hrel
    by_cases hlt : k < n
    · have hkl : k < l.length := by have := HN.out; omega
      obtain ⟨b, o, rfl, hbb, hc⟩ := (hcell k wr hI) (by omega)
      obtain ⟨c0, c1, c2⟩ := hc k hkl
      clear hc
      have HY := Lib.hid (hy k hkl (wr.alloc (.cells #[.int .i64 l[k].1, .int .i64 l[k].2.1, .int .i64 l[k].2.2] 81)) (hIa _ _ _ hI))
      generalize l[k] = X at *
      obtain ⟨x, y, z⟩ := X
      simp only at HY c0 c1 c2
      clear hI hIa hsb hcell hy hw
      cases hg : go k with
      | false =>
        rw [hg] at HY
        have HR : Hid (∀ j, j + 1 < k + 1 → go j = true) := fun j h => HG.out j (by omega)
        go_wp2_with (go_at_call 31; refine HY.out.mono ?_; rintro e w1 ⟨rfl, hI1⟩; have HI1 := Lib.hid hI1; clear hI1)
        refine bodyPost_ret (v := .tuple #[]) (by simp [results, Try.results59, go_sem]) rfl ?_
        exact ⟨rfl, k + 1, by omega, HR.out, .inr ⟨by omega, by simpa using hg⟩, HI1.out⟩
      | true =>
        rw [hg] at HY
        have HR : Hid (∀ j, j < k + 1 → go j = true) := fun j h => by
          by_cases e : j = k
          · subst e; exact hg
          · exact HG.out j (by omega)
        go_wp2_with (go_at_call 31; refine HY.out.mono ?_; rintro e w1 ⟨rfl, hI1⟩; have HI1 := Lib.hid hI1; clear hI1)
        go_roundw
        case rel => exact ⟨k + 1, by omega, by go_num, HI1.out, HR⟩
        case measure => simp [intOf]; omega
    · obtain rfl : k = n := by omega
      have HI := Lib.hid hI
      clear hI hIa hsb hcell hy hw
      go_wp2
      go_end0
      exact ⟨rfl, k, Nat.le_refl _, fun j h => HG.out j (by omega), .inl rfl, HI.out⟩

set_option maxHeartbeats 4000000 in
set_option maxRecDepth 100000 in
theorem apart_clo (q base : Nat) (x y z : Int) (A : Option Addr) (n c : Nat) (L : List Rn) (W : World) (hq : Box W q 27 (.slice A n c)) (hown : OwnQ W base (.slice A n c) L) (hqb : q < base) (hb : base ≤ W.heap.size) (hL : L.length ≤ 9000) :
    Calls Try.prog 31 #[.agg #[.int .i64 x, .int .i64 y], .int .i64 z, .pointer (some ⟨q, 0, none⟩)] W fun e w' => e = .returned (.bool true) ∧ ∃ A' n' c', Box w' q 27 (.slice A' n' c') ∧ OwnQ w' base (.slice A' n' c') (L ++ [(x, y, z)]) ∧ Kept W w' q base := by
  obtain ⟨i0, hi, hz0, hz1, hz2⟩ := info_parts infoQ
  have hn := (RnAt.ownQ hown).1
  have hq0 := hq.cell
  have hqf := hq.free
  have hqz := hq.lt
  have E1 : Ext W ((W.alloc (.cells #[.int .i64 x, .int .i64 y] 35)).alloc (.cells #[.int .i64 x, .int .i64 y, .int .i64 z] 39)) := ((Below.refl _ _).alloc (Nat.le_refl _) _).alloc (by simp) _
  have hown2 : OwnQ ((W.alloc (.cells #[.int .i64 x, .int .i64 y] 35)).alloc (.cells #[.int .i64 x, .int .i64 y, .int .i64 z] 39)) base (.slice A n c) L := World.ownsRow.alloc (World.ownsRow.alloc hown _) _
  have HQ := Lib.hid hq; have HW := Lib.hid hown
  obtain ⟨v', w', hr, ho, hgr, _⟩ := run_append_own (P := Try.prog) ((W.alloc (.cells #[.int .i64 x, .int .i64 y] 35)).alloc (.cells #[.int .i64 x, .int .i64 y, .int .i64 z] 39)) base 27 27 39 i0 _ 3 24 Try.underlying27 hi hz0 hz1 hz2 rfl (by omega) _ L.length (flatR L) hown2 ⟨W.heap.size + 1, 0, none⟩ 1 1 [.int .i64 x, .int .i64 y, .int .i64 z] rfl
    (by have h := World.news_of_block (cs := #[.int .i64 x, .int .i64 y, .int .i64 z]) (t := 39) (fr := (0, 0)) (heap_alloc_new (W.alloc (.cells #[.int .i64 x, .int .i64 y] 35)) _); rw [World.size_alloc] at h; exact h) (by simp [Value.oneCell']) (by unfold maxLen; omega) (by omega) (by have := E1.size; omega)
  have hown' : OwnQ w' base v' (L ++ [(x, y, z)]) := by unfold OwnQ; rw [flatR_append, List.length_append]; exact ho
  obtain ⟨A', c', rfl⟩ : ∃ A' c', v' = .slice A' (L.length + 1) c' := by
    rcases ho.2 with ⟨e, h0⟩ | ⟨g', c', _, e, _⟩
    · omega
    · exact ⟨_, c', e⟩
  have hrow : ∀ k, (Value.slice A n c).ownBlock = some k → base ≤ k := fun k hk => (World.ownsRow.lt hown k hk).1
  have K : Kept W w' q base := (Kept.ext E1 hb).tr (Kept.grown hgr (by have := E1.size; omega) hrow)
  have hq' : Box w' q 27 (.slice A n c) := (hq.ext E1).kept hgr (fun e => by have := hrow q e; omega)
  have b0 := hq'.cell
  have b1 := hq'.free
  have HQ' := Lib.hid hq'; have HO' := Lib.hid hown'; have HK := Lib.hid K
  clear hq hown hown2 ho hgr hq' hown' K E1
  subst hn
  have hlt : (L.length : Int) + 1 < 10000 := by omega
  go_enter Try.func31, Try.ntmps31
  go_wp2_with (at_builtin; refine Lib.wpList_append_run _ rfl _ _ _ _ rfl _ _ rfl rfl _ _ hr ?_)
  go_ret
  exact ⟨rfl, A', _, c', HQ'.out.set _, ownQ_set HO'.out hqb _ _, HK.out.tr (Kept.set 0 _)⟩


/-- what is gone through by the law's own yield -/
theorem seen_any (q p : Nat) (A1 : Option Addr) (n c1 : Nat) (l : List Rn) (w1 : World) (hq : Box w1 q 27 (.slice none 0 0)) (hp : Box w1 p 71 (.slice A1 n c1)) (hat : RnAt w1 w1.heap.size A1 l)
    (hrow : ∀ b o, A1 = some ⟨b, o, none⟩ → b ≠ q) (hpq : p ≠ q) (hn : l.length = n) (hm : n ≤ 9000) :
    Calls Try.prog 59 #[.func (.func 31) #[] #[.pointer (some ⟨q, 0, none⟩)], .pointer (some ⟨p, 0, none⟩)] w1 fun e w2 =>
      e = .returned (.tuple #[]) ∧ ∃ A2 n2 c2, Box w2 q 27 (.slice A2 n2 c2) ∧ OwnQ w2 w1.heap.size (.slice A2 n2 c2) l ∧ Kept w1 w2 q w1.heap.size := by
  have hql := hq.lt
  have hI0 : IAll w1 w1 p q A1 n c1 l 0 w1 := ⟨Kept.rf _ _ _, _, _, _, hq, World.ownsRow_nil _ _ _ _⟩
  refine (thr_apart (fun _ => true) (fun k W => IAll w1 w1 p q A1 n c1 l k W) #[.pointer (some ⟨q, 0, none⟩)] p A1 n c1 l hn (by omega)
    (fun k W o h => IAll.alloc h o) (fun W h => by
      have := h.kept.block p hp.lt hpq
      exact (World.cell?_of_block (a := ⟨p, 0, none⟩) this).trans hp.cell)
    (fun k W h => hat.kept h.kept (Nat.le_refl _) hrow) (fun k hk W h => by
      obtain ⟨hK, A2, n2, c2, h1, h2⟩ := h
      have hlk : (l.take k).length = k := by rw [List.length_take]; omega
      refine (apart_clo q w1.heap.size l[k].1 l[k].2.1 l[k].2.2 A2 n2 c2 (l.take k) W h1 h2 hql hK.size (by omega)).mono ?_
      rintro e w' ⟨rfl, A3, n3, c3, g1, g2, g3⟩
      refine ⟨rfl, hK.tr g3, A3, n3, c3, g1, ?_⟩
      rw [List.take_succ_eq_append_getElem hk]
      exact g2) w1 hI0).mono ?_
  rintro e w2 ⟨rfl, r, hr1, -, hr2, hI⟩
  obtain rfl : r = n := by
    rcases hr2 with h | ⟨_, h⟩
    · exact h
    · cases h
  obtain ⟨hK, A2, n2, c2, h1, h2⟩ := hI
  rw [List.take_of_length_le (by omega)] at h2
  exact ⟨rfl, A2, n2, c2, h1, h2, hK⟩

set_option maxHeartbeats 2000000 in
/-- a map of its own -/
theorem clone_map (base mb : Nat) (A : Option Addr) (n c : Nat) (l : List Rn) (w : World) (hm : MapAt w base mb A n c l) (hbig : n ≤ 100000) :
    Calls Try.prog 28 #[.pointer (some ⟨mb, 0, none⟩)] w fun e w' => ∃ cb A' c', e = .returned (.pointer (some ⟨cb, 0, none⟩)) ∧ MapAt w' w.heap.size cb A' n c' l ∧ Ext w w' ∧ w.heap.size ≤ cb := by
  have k0 := hm.box.cell
  have kz := hm.box.lt
  have HC := Lib.hid (cloneR_any A n c l w hm.len (by omega) hm.at_)
  clear hm
  go_enter Try.func28, Try.ntmps28
  go_wp2_with (go_at_call 49; refine (Hid.out HC).mono ?_; rintro e w1 ⟨A', c', rfl, ho, E1⟩; have HO := Lib.hid ho; clear ho)
  go_ret
  have e2 : Ext w1 (w1.alloc (.cells #[.slice A' n c'] 73)) := (Below.refl _ _).alloc (Nat.le_refl _) _
  exact ⟨w1.heap.size, A', c', rfl, ⟨Box.new w1 _ _, OwnR.ext HO.out e2, fun k hk e => by have := (World.ownsRow.lt HO.out k hk).2; omega⟩, Ext.tr E1 e2, E1.size⟩

/-- the cells of acts -/
def flatA (l : List Ac) : List Value := l.flatMap fun x => [.bool x.1, .int .i64 x.2.1, .int .i64 x.2.2.1, .int .i64 x.2.2.2]
theorem flatA_cons (x : Ac) (l : List Ac) : flatA (x :: l) = .bool x.1 :: .int .i64 x.2.1 :: .int .i64 x.2.2.1 :: .int .i64 x.2.2.2 :: flatA l := rfl
theorem flatA_append (l m : List Ac) : flatA (l ++ m) = flatA l ++ flatA m := by simp [flatA]
theorem flatA_len : ∀ l : List Ac, (flatA l).length = l.length * 4
  | [] => rfl
  | x :: l => by rw [flatA_cons]; have := flatA_len l; simp; omega
theorem flatA_get : ∀ (l : List Ac) (j : Nat) (h : j < l.length), (flatA l)[j * 4]? = some (.bool l[j].1) ∧ (flatA l)[j * 4 + 1]? = some (.int .i64 l[j].2.1) ∧ (flatA l)[j * 4 + 2]? = some (.int .i64 l[j].2.2.1) ∧ (flatA l)[j * 4 + 3]? = some (.int .i64 l[j].2.2.2)
  | x :: l, 0, _ => ⟨rfl, rfl, rfl, rfl⟩
  | x :: l, j + 1, h => by
    rw [flatA_cons, show (j + 1) * 4 = j * 4 + 1 + 1 + 1 + 1 by omega]
    have := flatA_get l j (by simpa using h)
    simpa using this
theorem flatA_one : ∀ (l : List Ac), ∀ u ∈ flatA l, u.oneCell' = true := fun l u hu => by
  obtain ⟨p, _, hp⟩ := List.mem_flatMap.1 hu
  simp at hp
  rcases hp with rfl | rfl | rfl | rfl <;> rfl
abbrev OwnA (w : World) (base : Nat) (v : Value) (l : List Ac) : Prop := w.ownsRow base 63 4 v l.length (flatA l)
theorem infoA : (Try.prog.info? 63).map (fun i => (i.zero, i.size, i.bytes)) = some (some (.agg #[.bool false, .int .i64 0, .int .i64 0, .int .i64 0]), 4, 32) := by kernel_rfl
theorem AcAt.news {w : World} {B : Nat} {a : Addr} {l : List Ac} (h : AcAt w B (some a) l) : ∀ j u, (flatA l)[j]? = some u → w.cell? (a.add j) = some u := fun j u hj => by
  have hjl : j < l.length * 4 := by rw [← flatA_len]; exact (List.getElem?_eq_some_iff.1 hj).1
  obtain ⟨b, off, e, hb, hc⟩ := h (by omega)
  obtain rfl := Option.some.inj e
  obtain ⟨c0, c1, c2, c3⟩ := hc (j / 4) (by omega)
  obtain ⟨d0, d1, d2, d3⟩ := flatA_get l (j / 4) (by omega)
  rw [Addr.add_lit]
  rcases (by omega : j % 4 = 0 ∨ j % 4 = 1 ∨ j % 4 = 2 ∨ j % 4 = 3) with h0 | h0 | h0 | h0
  · rw [show j = j / 4 * 4 by omega] at hj ⊢
    rw [c0, ← d0]; exact hj
  · rw [show j = j / 4 * 4 + 1 by omega] at hj ⊢
    rw [← Nat.add_assoc, c1, ← d1]; exact hj
  · rw [show j = j / 4 * 4 + 2 by omega] at hj ⊢
    rw [← Nat.add_assoc, c2, ← d2]; exact hj
  · rw [show j = j / 4 * 4 + 3 by omega] at hj ⊢
    rw [← Nat.add_assoc, c3, ← d3]; exact hj
theorem AcAt.own {w : World} {base : Nat} {A : Option Addr} {n c : Nat} {l : List Ac} (h : OwnA w base (.slice A n c) l) : l.length = n ∧ AcAt w w.heap.size A l := by
  rcases h.2 with ⟨e, h0⟩ | ⟨g, cap, cur, e, _, hg, h1, _, h3, h4⟩
  · simp at e
    obtain ⟨rfl, rfl, rfl⟩ := e
    exact ⟨h0, fun hl => by omega⟩
  · simp only [Value.slice.injEq] at e
    obtain ⟨rfl, rfl, rfl⟩ := e
    refine ⟨rfl, fun hl => ⟨g, 0, rfl, (Array.getElem?_eq_some_iff.1 hg).1, fun j hj => ?_⟩⟩
    have hc : ∀ k, k < l.length * 4 → w.cell? ⟨g, k, none⟩ = (flatA l)[k]? := fun k hk => by
      rw [cell_of_row w g k cur _ _ hg, ← h4, List.getElem?_take, if_pos hk]; simp
    obtain ⟨a, b, d, e⟩ := flatA_get l j hj
    rw [Nat.zero_add, hc _ (by omega), hc _ (by omega), hc _ (by omega), hc _ (by omega)]
    exact ⟨a, b, d, e⟩
theorem OwnA.nil_at (w : World) (base : Nat) (hb : base ≤ w.heap.size) : OwnA (w.alloc (.cells #[] 63)) base (.slice (some ⟨w.heap.size, 0, none⟩) 0 0) [] :=
  World.ownsRow_made w #[] 0 hb (Nat.zero_le _) (by simp)
/-- append(v, m...): v the call's own acts -/
theorem app_acts (w : World) {ops : Array Oper} {rest : List Oper} {o : Oper} {a : Act} {Q : Exit → Act → World → Prop} (hgd : o.guard = none) (s x : Operand)
    (ho : o.op = .call { callee := .builtin .append, args := #[s, x], argTypes := #[22, 22] })
    (base : Nat) (v : Value) (l m : List Ac) (hs : a.eval s = v) (hown : OwnA w base v l) (A : Option Addr) (n c : Nat) (hn : m.length = n) (hx : a.eval x = .slice A n c) (hr : AcAt w w.heap.size A m)
    (hlen : l.length + m.length ≤ 1000000) (hbase : base ≤ w.heap.size)
    (h : ∀ v' w', OwnA w' base v' (l ++ m) → w.grownBy w' v.ownBlock → wpList Try.prog ops Q rest (a.put o.dst v') w') : wpList Try.prog ops Q (o :: rest) a w := by
  subst hn
  obtain ⟨i0, hi, hz0, hz1, hz2⟩ := info_parts infoA
  cases A with
  | none =>
    have hm : m = [] := by
      rcases Nat.eq_zero_or_pos m.length with h0 | h0
      · exact List.eq_nil_of_length_eq_zero h0
      · obtain ⟨_, _, e, _⟩ := hr h0; cases e
    subst hm
    refine wpList_plain hgd fun K hK => ?_
    have hrun : (Builtin.append_ #[22, 22] o.type #[v, .slice none 0 c]).run Try.prog w = .ok v w := by
      obtain ⟨_, ⟨rfl, _⟩ | ⟨g, cap, cur, rfl, _, _, hnc, _⟩⟩ := hown
      · simp [Builtin.append_, run_underlying Try.underlying22, sizeOf, typeInfo, hi, Builtin.lenOf, Builtin.firstCells]
      · simp [Builtin.append_, run_underlying Try.underlying22, sizeOf, typeInfo, hi, Builtin.lenOf, Builtin.firstCells, hnc, storeCells]
    unfold Oper.wp
    simp only [List.length_nil] at hx
    simp [execOp, ho, resolve, invoke, builtin, hs, hx, hrun, Result.andThen]
    exact hK _ _ (h v w (by simpa using hown) (World.grownBy.refl w _))
  | some ad =>
    refine wpList_append_own w hgd s x 22 ho base 63 i0 (.agg #[.bool false, .int .i64 0, .int .i64 0, .int .i64 0]) 4 32 Try.underlying22 hi hz0 hz1 hz2 rfl (by omega) v l.length (flatA l) hs hown ad m.length c (flatA m) hx (flatA_len m) (AcAt.news hr) (flatA_one m) (by unfold maxLen; omega) (by omega) hbase ?_
    intro v' w' h1 h2 _
    exact h v' w' (by unfold OwnA; rw [flatA_append, List.length_append]; exact h1) h2

set_option maxHeartbeats 4000000 in
theorem both_any (lb : Nat) (A B : Option Addr) (n c m d : Nat) (l x : List Ac) (w : World) (hk : w.cell? ⟨lb, 0, none⟩ = some (.slice A n c)) (hkz : lb < w.heap.size) (hn : l.length = n) (hm : x.length = m) (hnb : n ≤ 1000) (hmb : m ≤ 1000) (hl : AcAt w w.heap.size A l) (hx : AcAt w w.heap.size B x) :
    Calls Try.prog 32 #[.slice B m d, .pointer (some ⟨lb, 0, none⟩)] w fun e w' => ∃ A' n' c', e = .returned (.slice A' n' c') ∧ (l ++ x).length = n' ∧ AcAt w' w'.heap.size A' (l ++ x) ∧ Ext w w' := by
  have HL := Lib.hid hl; have HX := Lib.hid hx
  have HN := Lib.hid hn; have HM := Lib.hid hm
  have e0 : Ext w (w.alloc (.cells #[] 63)) := (Below.refl _ _).alloc (Nat.le_refl _) _
  have HO : Hid (OwnA (w.alloc (.cells #[] 63)) w.heap.size (.slice (some ⟨w.heap.size, 0, none⟩) 0 0) []) := OwnA.nil_at w _ (Nat.le_refl _)
  have k0 : (w.alloc (.cells #[] 63)).cell? ⟨lb, 0, none⟩ = some (.slice A n c) := by rw [e0.cell (p := ⟨lb, 0, none⟩) hkz]; exact hk
  have HA0 := Lib.hid (HL.out.ext e0)
  clear hl hx hn hm hk
  go_enter Try.func32, Try.ntmps32
  go_wp2_with (first
    | (at_builtin; have _t := HO; refine app_acts _ (by rfl) _ _ (by rfl) w.heap.size _ [] l (by rfl) HO.out A n c HN.out (by rfl) HA0.out (by have := HN.out; simp; omega) (by simp) ?_; intro v1 w1 hown1 hgrow; rw [List.nil_append] at hown1; have E1 : Ext w w1 := e0.grown hgrow (by simp) (fun k hk => by simp only [Value.ownBlock] at hk; injection hk with hk; omega); have HO1 := Lib.hid hown1; clear hown1 hgrow HO)
    | (at_builtin; refine app_acts _ (by rfl) _ _ (by rfl) w.heap.size _ l x (by rfl) HO1.out B m d HM.out (by rfl) (HX.out.ext E1) (by have := HN.out; have := HM.out; omega) E1.size ?_; intro v2 w2 hown2 hgrow; have E2 : Ext w w2 := E1.grown hgrow E1.size (fun k hk => by have := (World.ownsRow.lt HO1.out k hk).1; omega); have HO2 := Lib.hid hown2; clear hown2 hgrow))
  obtain ⟨A', n', c', rfl⟩ := own_slice HO2.out
  go_wp2_with fail
  go_ret
  exact ⟨A', n', c', rfl, (AcAt.own HO2.out).1, (AcAt.own HO2.out).2, E2⟩
end Go.Proofs.Ytlnfpolhccbnpaa
