/-
  The set of a text, of the reference.
-/
import Derived.Test.YthbjhpfgfpkppaaGreatDoorBP
namespace Go.Proofs.YthbjhpfgfpkppaaGreatDoor
open Go Go.RowKit

/-- what the reference's Parse hands back -/
def ParR (s : List UInt8) (w : World) (e : Ending) (w' : World) : Prop := ∃ v, e = .returned (.tuple #[v, .int .i64 (resE (resS s))]) ∧ IsSp w' v (resC (resS s)) ∧ Below w.heap.size w w'
theorem ParR.bad {s : List UInt8} {w w' : World} (h : resS s = Option.none) (hb : Below w.heap.size w w') : ParR s w (.returned (.tuple #[.slice Option.none 0 0, .int .i64 2])) w' :=
  ⟨_, by rw [h]; rfl, by rw [h]; exact IsSp.nil _, hb⟩
theorem ParR.good {s : List UInt8} {w w' : World} {v : Value} {l : List Sp} (h : resS s = some l) (hs : IsSp w' v l) (hb : Below w.heap.size w w') : ParR s w (.returned (.tuple #[v, .int .i64 0])) w' :=
  ⟨v, by rw [h]; rfl, by rw [h]; exact hs, hb⟩
/-- how far the reference has come -/
def LoopS (l : List UInt8) (k a : Nat) (acc : List Sp) : Prop :=
  (k ≤ l.length ∧ a ≤ k ∧ 44 ∉ (l.take k).drop a ∧ goS (pieces l) = goA (pieces (l.drop a)) acc) ∨ (k = l.length + 1 ∧ goS (pieces l) = some acc)
theorem drop_parts {l : List UInt8} {a k : Nat} (ha : a ≤ k) (hk : k ≤ l.length) : l.drop a = (l.take k).drop a ++ l.drop k := by
  conv => lhs; rw [← List.take_append_drop k l]
  rw [List.drop_append_of_le_length (by simp; omega)]
theorem LoopS.start (l : List UInt8) : LoopS l 0 0 [] := Or.inl ⟨Nat.zero_le _, Nat.zero_le _, by simp, by rw [List.drop_zero, goA_start]⟩
theorem LoopS.le {l : List UInt8} {k a : Nat} {acc : List Sp} (h : LoopS l k a acc) (hk : k ≤ l.length) : a ≤ k ∧ 44 ∉ (l.take k).drop a ∧ goS (pieces l) = goA (pieces (l.drop a)) acc := by
  rcases h with h | h
  · exact h.2
  · omega
theorem LoopS.on {l : List UInt8} {k a : Nat} {acc : List Sp} (h : LoopS l k a acc) (hk : k < l.length) (hc : l[k] ≠ 44) : LoopS l (k + 1) a acc := by
  obtain ⟨h1, h2, h3⟩ := h.le (by omega)
  refine Or.inl ⟨by omega, by omega, ?_, h3⟩
  rw [List.take_succ_eq_append_getElem hk, List.drop_append_of_le_length (by simp; omega)]
  intro k
  rcases List.mem_append.1 k with k | k
  · exact h2 k
  · simp at k; exact hc k.symm
theorem LoopS.hit {l : List UInt8} {k a : Nat} {acc : List Sp} (h : LoopS l k a acc) (hk : k < l.length) (hc : l[k] = 44) : goS (pieces l) = goA ((l.take k).drop a :: pieces (l.drop (k + 1))) acc := by
  obtain ⟨h1, h2, h3⟩ := h.le (by omega)
  rw [h3, drop_parts h1 (by omega), List.drop_eq_getElem_cons hk, hc, pieces_app _ _ h2]
theorem LoopS.next {l : List UInt8} {k a : Nat} {acc : List Sp} {x : Sp} (h : LoopS l k a acc) (hk : k < l.length) (hc : l[k] = 44) (hx : refP ((l.take k).drop a) = some x) : LoopS l (k + 1) (k + 1) (acc ++ [x]) := by
  refine Or.inl ⟨by omega, Nat.le_refl _, ?_, by rw [h.hit hk hc, goA_some hx]⟩
  rw [List.drop_of_length_le (by simp; omega)]; simp
theorem LoopS.last {l : List UInt8} {a : Nat} {acc : List Sp} (h : LoopS l l.length a acc) : goS (pieces l) = goA [(l.take l.length).drop a] acc := by
  obtain ⟨h1, h2, h3⟩ := h.le (Nat.le_refl _)
  rw [h3]
  rw [List.take_length] at h2 ⊢
  rw [pieces_one _ h2]
theorem LoopS.fin {l : List UInt8} {a b : Nat} {acc : List Sp} {x : Sp} (h : LoopS l l.length a acc) (hx : refP ((l.take l.length).drop a) = some x) : LoopS l (l.length + 1) b (acc ++ [x]) :=
  Or.inr ⟨rfl, by rw [h.last, goA_some hx, goA_nil]⟩
theorem LoopS.done {l : List UInt8} {a : Nat} {acc : List Sp} (h : LoopS l (l.length + 1) a acc) : goS (pieces l) = some acc := by
  rcases h with h | h
  · omega
  · exact h.2
theorem ext_list (s : ByteArray) (a k : Nat) : (s.extract a k).data.toList = (s.data.toList.take k).drop a := by
  rw [ByteArray.data_extract]; simp [List.drop_take]

set_option maxHeartbeats 8000000 in
set_option maxRecDepth 100000 in
theorem rParse_any (s : ByteArray) (w : World) (hs : s.size ≤ 1000) :
    Calls Tryz.prog 12 #[.string s] w (ParR s.data.toList w) := by
  have HZ := Lib.hid (size_toList s)
  by_cases hn : s.data.toList = noneT
  · have HR : Hid (resS s.data.toList = some []) := Lib.hid (by unfold resS; rw [if_pos hn])
    have hq : (s.toList == [110, 111, 110, 101]) = true := by rw [ByteArray.toList_eq, hn]; rfl
    clear hn
    go_enter Tryz.func12, Tryz.ntmps12
    go_wp2
    go_ret2
    exact ParR.good HR.out (IsSp.nil _) (Below.refl _ _)
  · have hq : (s.toList == [110, 111, 110, 101]) = false := by rw [ByteArray.toList_eq, beq_eq_false_iff_ne]; exact hn
    have HN := Lib.hid hn
    clear hn
    go_enter Tryz.func12, Tryz.ntmps12
    go_wp2_with fail
    go_loopw [4, 5, 6] (fun v p i wr => ∃ (k a : Nat) (acc : List Sp), k ≤ s.size + 1 ∧ a ≤ k ∧ i = .int .i64 k ∧ p = .int .i64 a ∧ wr.ownsRow w.heap.size 41 2 v acc.length (flat acc) ∧ Hid (acc.length ≤ k) ∧ Hid (LoopS s.data.toList k a acc) ∧ Below w.heap.size w wr) (fun _ _ i _ => s.size + 1 - (intOf i).toNat)
    case atStart => exact ⟨0, 0, [], Nat.zero_le _, Nat.le_refl _, rfl, rfl, World.ownsRow_nil _ _ _ _, Nat.zero_le _, LoopS.start _, Below.refl _ _⟩
    case round =>
      obtain ⟨k, a, acc, hk, hak, rfl, rfl, hown, HA, HG, hbel⟩ := hrel
      by_cases hlt : k ≤ s.size
      · have HX := Lib.hid (ext_list s a k)
        have hxs : (s.extract a k).size ≤ 1000 := by rw [ByteArray.size_extract]; omega
        have hS := rparse_any (s.extract a k) wr (by omega)
        have q1 : (a : Int) ≤ (k : Int) := by omega
        by_cases hcc : k = s.size ∨ ∃ h : k < s.size, s[k] = 44
        · cases hr : refP (s.extract a k).data.toList with
          | none =>
            have HR : Hid (resS s.data.toList = none) := Lib.hid (res_none HN.out (by
              rw [HX.out] at hr
              rcases hcc with e | ⟨h, e⟩
              · have hG := HG.out
                rw [e, ← HZ.out] at hG
                rw [e, ← HZ.out] at hr
                rw [hG.last]; exact goA_none hr
              · rw [HG.out.hit (by rw [HZ.out]; exact h) e]; exact goA_none hr))
            rw [hr] at hS
            unfold resP at hS
            clear hr hown HG
            rcases hcc with e | ⟨h, e⟩
            · have c0 : ((k : Int) == (s.size : Int)) = true := by rw [beq_iff_eq]; omega
              clear e
              go_wp2_with fail
              with_reducible refine hS.mono ?_
              rintro e w5 ⟨rfl, hb5⟩
              clear hS
              go_wp2
              go_ret2
              exact ParR.bad HR.out (hbel.trans ((Ext.tr hb5 (by go_grown)).mono hbel.size))
            · have c0 : ((k : Int) == (s.size : Int)) = false := by rw [beq_eq_false_iff_ne]; omega
              have c1 : ((s[k].toNat : Int) == 44) = true := by rw [e]; rfl
              clear e
              go_wp2_with fail
              with_reducible refine hS.mono ?_
              rintro e w5 ⟨rfl, hb5⟩
              clear hS
              go_wp2
              go_ret2
              exact ParR.bad HR.out (hbel.trans ((Ext.tr hb5 (by go_grown)).mono hbel.size))
          | some x =>
            obtain ⟨x, y⟩ := x
            have HL2 : Hid (LoopS s.data.toList (k + 1) (k + 1) (acc ++ [(x, y)])) := Lib.hid (by
              rw [HX.out] at hr
              rcases hcc with e | ⟨h, e⟩
              · have hG := HG.out
                rw [e, ← HZ.out] at hG
                rw [e, ← HZ.out] at hr
                have := hG.fin (b := s.size + 1) hr
                rw [HZ.out] at this
                rw [e]; exact this
              · exact HG.out.next (by rw [HZ.out]; exact h) e hr)
            rw [hr] at hS
            unfold resP at hS
            clear hr HG
            rcases hcc with e | ⟨h, e⟩
            · have c0 : ((k : Int) == (s.size : Int)) = true := by rw [beq_iff_eq]; omega
              clear e
              go_wp2_with fail
              with_reducible refine hS.mono ?_
              rintro e w5 ⟨rfl, hb5⟩
              have B6 : Below w.heap.size w (w5.alloc (.cells #[.int .i64 x, .int .i64 y] 41)) := hbel.trans ((Ext.tr hb5 ((Below.refl _ _).alloc (Nat.le_refl _) _)).mono hbel.size)
              have own6 : OwnS (w5.alloc (.cells #[.int .i64 x, .int .i64 y] 41)) w.heap.size _ acc := (own_ext hown hb5).alloc _
              have z5 : w.heap.size ≤ w5.heap.size := Nat.le_trans hbel.size hb5.size
              clear hS hb5 hbel hown
              go_wp2_with (at_builtin; refine app_span1 (w5.alloc (.cells #[.int .i64 x, .int .i64 y] 41)) (w5.heap.size + 1) (by simp) (by rfl) _ _ (by rfl) w.heap.size _ acc x y (by rfl) own6 (by rfl) (by have := HA.out; omega) (by simp; omega) ?_; intro v7 w7 hown7 hgrow; have B7 : Below w.heap.size w w7 := below_app B6 (by simp; omega) own6 hgrow; clear hgrow)
              go_roundw
              case rel => exact ⟨k + 1, k + 1, acc ++ [(x, y)], by omega, Nat.le_refl _, by go_num, by go_num, hown7, by have := HA.out; unfold Hid; simp; omega, HL2, B7⟩
              case measure => simp [intOf]; omega
            · have c0 : ((k : Int) == (s.size : Int)) = false := by rw [beq_eq_false_iff_ne]; omega
              have c1 : ((s[k].toNat : Int) == 44) = true := by rw [e]; rfl
              clear e
              go_wp2_with fail
              with_reducible refine hS.mono ?_
              rintro e w5 ⟨rfl, hb5⟩
              have B6 : Below w.heap.size w (w5.alloc (.cells #[.int .i64 x, .int .i64 y] 41)) := hbel.trans ((Ext.tr hb5 ((Below.refl _ _).alloc (Nat.le_refl _) _)).mono hbel.size)
              have own6 : OwnS (w5.alloc (.cells #[.int .i64 x, .int .i64 y] 41)) w.heap.size _ acc := (own_ext hown hb5).alloc _
              have z5 : w.heap.size ≤ w5.heap.size := Nat.le_trans hbel.size hb5.size
              clear hS hb5 hbel hown
              go_wp2_with (at_builtin; refine app_span1 (w5.alloc (.cells #[.int .i64 x, .int .i64 y] 41)) (w5.heap.size + 1) (by simp) (by rfl) _ _ (by rfl) w.heap.size _ acc x y (by rfl) own6 (by rfl) (by have := HA.out; omega) (by simp; omega) ?_; intro v7 w7 hown7 hgrow; have B7 : Below w.heap.size w w7 := below_app B6 (by simp; omega) own6 hgrow; clear hgrow)
              go_roundw
              case rel => exact ⟨k + 1, k + 1, acc ++ [(x, y)], by omega, Nat.le_refl _, by go_num, by go_num, hown7, by have := HA.out; unfold Hid; simp; omega, HL2, B7⟩
              case measure => simp [intOf]; omega
        · have hk2 : k < s.size := by
            refine Nat.lt_of_not_le fun h => hcc (Or.inl (by omega))
          have hne : s[k] ≠ 44 := fun h => hcc (Or.inr ⟨hk2, h⟩)
          have HL2 : Hid (LoopS s.data.toList (k + 1) a acc) := Lib.hid (HG.out.on (by rw [HZ.out]; exact hk2) hne)
          have c0 : ((k : Int) == (s.size : Int)) = false := by rw [beq_eq_false_iff_ne]; omega
          have c1 : ((s[k].toNat : Int) == 44) = false := by
            rw [beq_eq_false_iff_ne]; intro h; apply hne
            apply UInt8.toNat_inj.1
            show s[k].toNat = 44; omega
          clear hne hcc HG hS HX
          go_wp2
          go_roundw
          case rel => exact ⟨k + 1, a, acc, by omega, by omega, by go_num, rfl, hown, by have := HA.out; unfold Hid; omega, HL2, hbel⟩
          case measure => simp [intOf]; omega
      · obtain rfl : k = s.size + 1 := by omega
        have HGe : Hid (goS (pieces s.data.toList) = some acc) := Lib.hid (by
          have := HG.out
          rw [← HZ.out] at this
          exact this.done)
        have hsp := IsSp.own hown
        obtain ⟨A, c, hv, -, hs1⟩ := IsSp.own hown
        subst hv
        have HI := Lib.hid hsp
        obtain ⟨n, HLa⟩ : ∃ n, Hid (acc.length = n) := ⟨_, rfl⟩
        have hO := rOf_set A n c acc wr HLa.out (by have := HLa.out; have := HA.out; omega) hs1
        have HE := Lib.hid (res_ref HN.out HGe.out)
        rw [HLa.out] at hown HI ⊢
        clear hown HG hs1 hsp
        go_wp2_with fail
        with_reducible refine hO.mono ?_
        rintro e w6 ⟨v6, rfl, hset, hb6⟩
        have hI6 := HI.out.below hb6
        have hLi := list_sp hI6 hset (by have := HA.out; omega)
        have B6 : Ext w w6 := Ext.tr hbel hb6
        clear hO hb6 hset
        by_cases he : acc = normL acc
        · have HR : Hid (resS s.data.toList = some acc) := Lib.hid (by rw [HE.out, if_pos he])
          rw [show decide (acc = normL acc) = true by simpa using he] at hLi
          have HI6 := Lib.hid hI6
          clear he HE hI6
          go_wp2_with fail
          with_reducible refine hLi.mono ?_
          rintro e w8 ⟨rfl, hb8⟩
          clear hLi
          go_wp2
          go_ret2
          exact ParR.good HR.out (HI6.out.below hb8) (Ext.tr B6 hb8)
        · have HR : Hid (resS s.data.toList = none) := Lib.hid (by rw [HE.out, if_neg he])
          rw [show decide (acc = normL acc) = false by simpa using he] at hLi
          clear he HE hI6
          go_wp2_with fail
          with_reducible refine hLi.mono ?_
          rintro e w8 ⟨rfl, hb8⟩
          clear hLi
          go_wp2
          go_ret2
          exact ParR.bad HR.out (Ext.tr B6 hb8)
end Go.Proofs.YthbjhpfgfpkppaaGreatDoor
