/-
  The set of a text, of the program.
-/
import Derived.Test.YthbjhpfgfpkppaaGreatDoorBU
namespace Go.Proofs.YthbjhpfgfpkppaaGreatDoor
open Go Go.RowKit

/-- what Parse hands back -/
def ParS (s : List UInt8) (w : World) (e : Ending) (w' : World) : Prop := ∃ v, e = .returned (.tuple #[v, .int .i64 (resE (resS s))]) ∧ IsSet w' v (resC (resS s)) ∧ Below w.heap.size w w'
theorem IsSet.none (w : World) : IsSet w (.agg #[.slice none 0 0]) [] := ⟨_, rfl, IsSp.nil w, Canon.nil⟩
theorem ParS.bad {s : List UInt8} {w w' : World} (h : resS s = Option.none) (hb : Below w.heap.size w w') : ParS s w (.returned (.tuple #[.agg #[.slice Option.none 0 0], .int .i64 2])) w' :=
  ⟨_, by rw [h]; rfl, by rw [h]; exact IsSet.none _, hb⟩
theorem ParS.good {s : List UInt8} {w w' : World} {v : Value} {l : List Sp} (h : resS s = some l) (hs : IsSet w' v l) (hb : Below w.heap.size w w') : ParS s w (.returned (.tuple #[v, .int .i64 0])) w' :=
  ⟨v, by rw [h]; rfl, by rw [h]; exact hs, hb⟩
/-- a store into a block of one cell that is no number leaves spans as they are -/
theorem SpAt.set {W : World} {B b : Nat} {A : Option Addr} {l : List Sp} {x v : Value} (hx : ∀ i, x ≠ .int .i64 i) (hb : ∀ o, W.cell? ⟨b, o, Option.none⟩ = (#[x] : Array Value)[o]?) (h : SpAt W B A l) : SpAt (W.setCell ⟨b, 0, Option.none⟩ v) B A l := fun hl => by
  obtain ⟨b0, o, e, hlt, hc⟩ := h hl
  have hne : b ≠ b0 := fun e => by
    subst e
    have c0 := (hc 0 hl).1
    rw [hb] at c0
    match ho : o + 0 * 2, c0 with
    | 0, c0 => simp at c0; exact hx _ c0
    | k + 1, c0 => simp at c0
  refine ⟨b0, o, e, hlt, fun j hj => ?_⟩
  obtain ⟨c0, c1⟩ := hc j hj
  exact ⟨by rw [World.cell?_setCell_far _ _ _ _ hne]; exact c0, by rw [World.cell?_setCell_far _ _ _ _ hne]; exact c1⟩

theorem str_eqb (a b : ByteArray) : (a.toList == b.toList) = decide (a = b) := by
  rw [Bool.eq_iff_iff]
  simp only [beq_iff_eq, decide_eq_true_eq]
  constructor
  · intro h
    rw [ByteArray.toList_eq, ByteArray.toList_eq] at h
    exact ByteArray.ext (Array.ext' h)
  · intro h; rw [h]
/-- append of one span, the new block's number by an equation -/
theorem app_span1 (wr : World) (zb : Nat) (hz : wr.heap.size = zb) {ops : Array Oper} {rest : List Oper} {o : Oper} {a : Act} {Q : Exit → Act → World → Prop} (hgd : o.guard = Option.none) (s x : Operand)
    (ho : o.op = .call { callee := .builtin .append, args := #[s, x], argTypes := #[22, 22] })
    (base : Nat) (v : Value) (l : List Sp) (p q : Int) (hs : a.eval s = v) (hown : OwnS wr base v l) (hx : a.eval x = .slice (some ⟨zb, 0, Option.none⟩) 1 1)
    (hlen : l.length ≤ 4000000) (hbase : base ≤ wr.heap.size)
    (h : ∀ v' w', OwnS w' base v' (l ++ [(p, q)]) → (wr.alloc (.cells #[.int .i64 p, .int .i64 q] 41)).grownBy w' v.ownBlock → wpList Tryz.prog ops Q rest (a.put o.dst v') w') :
    wpList Tryz.prog ops Q (o :: rest) a (wr.alloc (.cells #[.int .i64 p, .int .i64 q] 41)) := by
  subst hz; exact app_span wr hgd s x ho base v l p q hs hown hx hlen hbase h

set_option maxHeartbeats 8000000 in
set_option maxRecDepth 100000 in
theorem Parse_any (s : ByteArray) (w : World) (hL : LaidAt w) (hs : s.size ≤ 1000) :
    Calls Tryz.prog 7 #[.string s] w (ParS s.data.toList w) := by
  by_cases hn : s.data.toList = noneT
  · have HR : Hid (resS s.data.toList = some []) := Lib.hid (by unfold resS; rw [if_pos hn])
    have hq : (s.toList == [110, 111, 110, 101]) = true := by rw [ByteArray.toList_eq, hn]; rfl
    clear hL hn
    go_enter Tryz.func7, Tryz.ntmps7
    go_wp2
    exact bodyPost_ret (v := .tuple #[.agg #[.slice none 0 0], .int .i64 0]) (by simp [results, Tryz.results7, go_sem]) rfl (ParS.good HR.out (IsSet.none _) (by go_grown))
  · have hq : (s.toList == [110, 111, 110, 101]) = false := by rw [ByteArray.toList_eq, beq_eq_false_iff_ne]; exact hn
    have HN := Lib.hid hn
    clear hn
    obtain ⟨w1, hw1⟩ : ∃ w1, w1 = w.alloc (.cells #[.slice none 0 0] 26) := ⟨_, rfl⟩
    have e1 : Ext w w1 := by rw [hw1]; exact (Below.refl _ _).alloc (Nat.le_refl _) _
    have z1 : w1.heap.size = w.heap.size + 1 := by rw [hw1]; simp
    have hL1 := hL.below e1
    obtain ⟨mx, hmx⟩ := hL1.mx
    have hSp := Tryz.strings_Split s ⟨#[44]⟩ mx w1 (by omega) hmx (by decide)
    have hlen := Lib.splitB_all ⟨#[44]⟩ (by decide) 0 _ s rfl
    have HP := Lib.hid (splitB_pieces s)
    have hcnt : Lib.countB s ⟨#[44]⟩ ≤ 1000 := Nat.le_trans (Lib.countB_le ⟨#[44]⟩ (by decide) _ s (Nat.le_refl _)) hs
    generalize Lib.splitB ⟨#[44]⟩ 0 (Lib.countB s ⟨#[44]⟩) s = P at *
    generalize hN : Lib.countB s ⟨#[44]⟩ + 1 = N at *
    have hNb : N ≤ 1001 := by omega
    clear hN hcnt hmx
    rw [z1] at hSp
    have HLn := Lib.hid hlen
    clear hlen
    obtain ⟨w2, hw2⟩ : ∃ w2, w2 = w1.alloc (.cells (P.map Value.string).toArray 9) := ⟨_, rfl⟩
    have e2 : Ext w1 w2 := by rw [hw2]; exact (Below.refl _ _).alloc (Nat.le_refl _) _
    have z2 : w2.heap.size = w.heap.size + 1 + 1 := by rw [hw2]; simp [z1]
    have HC : Hid (∀ j (h : j < P.length), w2.cell? ⟨w.heap.size + 1, j, none⟩ = some (.string P[j])) := Lib.hid fun j h => by
      rw [hw2, ← z1, World.cell?_alloc_new]; simp [h]
    have HB0 : Hid (∀ o, w2.cell? ⟨w.heap.size, o, none⟩ = (#[.slice none 0 0] : Array Value)[o]?) := Lib.hid fun o => by
      rw [e2.cell (p := ⟨w.heap.size, o, none⟩) (by show w.heap.size < _; omega), hw1, World.cell?_alloc_new]
    have HF0 : Hid (w2.frozen? ⟨w.heap.size, 0, none⟩ = false) := Lib.hid (by
      rw [e2.frozen (p := ⟨w.heap.size, 0, none⟩) (by show w.heap.size < _; omega), hw1]; go_simp)
    rw [← hw2] at hSp
    have E2 : Ext w w2 := e1.tr e2
    have hL2 := hL.below E2
    subst hw1
    clear hw2 e1 e2 hL hL1 z1
    go_enter Tryz.func7, Tryz.ntmps7
    go_wp2_with fail
    with_reducible refine hSp.mono ?_
    rintro e w2' ⟨rfl, rfl⟩
    clear hSp
    have HZ := Lib.hid z2
    have hz2 : w.heap.size + 1 < w2'.heap.size := by omega
    clear z2
    go_wp2_with fail
    go_loopw [4, 20] (fun v i wr => ∃ (k : Nat) (acc : List Sp), k ≤ N ∧ i = .int .i64 k ∧ wr.ownsRow (w.heap.size + 1 + 1) 41 2 v acc.length (flat acc) ∧ Hid (acc.length ≤ k) ∧ Hid (goS (pieces s.data.toList) = goA ((P.drop k).map (·.data.toList)) acc) ∧ Below (w.heap.size + 1 + 1) w2' wr) (fun _ i _ => N - (intOf i).toNat)
    case atStart => exact ⟨0, [], Nat.zero_le _, rfl, World.ownsRow_nil _ _ _ _, Nat.zero_le _, by unfold Hid; rw [List.drop_zero, HP.out, goA_start], Below.refl _ _⟩
    case round =>
      obtain ⟨k, acc, hk, rfl, hown, HA, HG, hbel⟩ := hrel
      have Bw : Ext w2' wr := by have := hbel; rw [← HZ.out] at this; exact this
      have Bq : Ext w wr := E2.tr Bw
      have hLr := hL2.below Bw
      have hwz : w.heap.size + 1 + 1 ≤ wr.heap.size := by have := Bw.size; rw [HZ.out] at this; exact this
      by_cases hlt : k < N
      · have hkl : k < P.length := by have := HLn.out; omega
        have c0 : wr.cell? ⟨w.heap.size + 1, k, none⟩ = some (.string P[k]) := by rw [Bw.cell (p := ⟨w.heap.size + 1, k, none⟩) hz2]; exact HC.out k hkl
        have HGk : Hid (goS (pieces s.data.toList) = goA (P[k].data.toList :: (P.drop (k + 1)).map (·.data.toList)) acc) := by
          have := HG.out; rw [List.drop_eq_getElem_cons hkl, List.map_cons] at this; exact this
        have hps : P[k].size ≤ 1000 := by
          have hm : P[k].data.toList ∈ pieces s.data.toList := by rw [← HP.out]; exact List.mem_map.2 ⟨_, List.getElem_mem hkl, rfl⟩
          have := piece_len _ _ hm
          rw [size_toList, size_toList] at this; omega
        obtain ⟨X, hX⟩ : ∃ X, Hid (P[k] = X) := ⟨P[k], rfl⟩
        rw [hX.out] at c0 HGk hps
        clear hX
        have q1 : (k : Int) < (N : Int) := by omega
        have q2 : (0 : Int) ≤ (k : Int) := by omega
        have hz1 : w.heap.size + 1 < wr.heap.size := by omega
        have hS := sparse_any X wr hLr (by omega)
        cases hr : refP X.data.toList with
        | none =>
          have HR : Hid (resS s.data.toList = none) := Lib.hid (res_none HN.out (by rw [HGk.out]; exact goA_none hr))
          rw [hr] at hS
          have hb0 : wr.cell? ⟨w.heap.size, 0, none⟩ = some (.slice none 0 0) := by rw [Bw.cell (p := ⟨w.heap.size, 0, none⟩) (by show w.heap.size < _; omega)]; exact HB0.out 0
          have hf0 : wr.frozen? ⟨w.heap.size, 0, none⟩ = false := by rw [Bw.frozen (p := ⟨w.heap.size, 0, none⟩) (by show w.heap.size < _; omega)]; exact HF0.out
          clear hown HG HGk hr hbel
          unfold resP at hS
          go_wp2_with fail
          with_reducible refine hS.mono ?_
          rintro e w5 ⟨rfl, hb5⟩
          have y0 : w5.cell? ⟨w.heap.size, 0, none⟩ = some (.slice none 0 0) := by rw [hb5.cell (p := ⟨w.heap.size, 0, none⟩) (by show w.heap.size < _; omega)]; exact hb0
          have y1 : w5.frozen? ⟨w.heap.size, 0, none⟩ = false := by rw [hb5.frozen (p := ⟨w.heap.size, 0, none⟩) (by show w.heap.size < _; omega)]; exact hf0
          have y2 : w.heap.size < w5.heap.size := by have := hb5.size; omega
          have B5 : Ext w w5 := Bq.tr hb5
          clear hS hb5 hb0 hf0 c0
          go_wp2
          exact bodyPost_ret (v := .tuple #[.agg #[.slice none 0 0], .int .i64 2]) (by simp [results, Tryz.results7, go_sem, y0, y2]) rfl (ParS.bad HR.out (by go_grown))
        | some x =>
          obtain ⟨a, b⟩ := x
          have HG2 : Hid (goS (pieces s.data.toList) = goA ((P.drop (k + 1)).map (·.data.toList)) (acc ++ [(a, b)])) := Lib.hid (by rw [HGk.out, goA_some hr])
          rw [hr] at hS
          unfold resP at hS
          clear HG HGk hr
          go_wp2_with fail
          with_reducible refine hS.mono ?_
          rintro e w5 ⟨rfl, hb5⟩
          have own5 := own_ext hown hb5
          have B5 : Below (w.heap.size + 1 + 1) w2' w5 := hbel.trans (hb5.mono hwz)
          have z5 : w.heap.size + 1 + 1 ≤ w5.heap.size := Nat.le_trans hwz hb5.size
          have B6 : Below (w.heap.size + 1 + 1) w2' (w5.alloc (.cells #[.int .i64 a, .int .i64 b] 41)) := B5.alloc z5 _
          have own6 : OwnS (w5.alloc (.cells #[.int .i64 a, .int .i64 b] 41)) (w.heap.size + 1 + 1) _ acc := own5.alloc _
          clear hS hb5 hbel hown c0 own5 B5
          go_wp2_with (at_builtin; refine app_span1 (w5.alloc (.cells #[.int .i64 a, .int .i64 b] 41)) (w5.heap.size + 1) (by simp) (by rfl) _ _ (by rfl) (w.heap.size + 1 + 1) _ acc a b (by rfl) own6 (by rfl) (by have := HA.out; omega) (by simp; omega) ?_; intro v7 w7 hown7 hgrow; have B7 : Below (w.heap.size + 1 + 1) w2' w7 := below_app B6 (by simp; omega) own6 hgrow; clear hgrow)
          go_roundw
          case rel => exact ⟨k + 1, acc ++ [(a, b)], by omega, by go_num, hown7, by have := HA.out; unfold Hid; simp; omega, HG2, B7⟩
          case measure => simp [intOf]; omega
      · obtain rfl : k = N := by omega
        have HGe : Hid (goS (pieces s.data.toList) = some acc) := Lib.hid (by have := HG.out; rw [List.drop_of_length_le (by have := HLn.out; omega), List.map_nil, goA_nil] at this; exact this)
        have HAl : Hid (acc.length ≤ 1001) := Lib.hid (by have := HA.out; omega)
        have HBr : Hid (∀ o, wr.cell? ⟨w.heap.size, o, none⟩ = (#[.slice none 0 0] : Array Value)[o]?) := Lib.hid fun o => by
          rw [Bw.cell (p := ⟨w.heap.size, o, none⟩) (by show w.heap.size < _; omega)]; exact HB0.out o
        have HFr : Hid (wr.frozen? ⟨w.heap.size, 0, none⟩ = false) := Lib.hid (by rw [Bw.frozen (p := ⟨w.heap.size, 0, none⟩) (by show w.heap.size < _; omega)]; exact HF0.out)
        obtain ⟨A, c, hv, -, hsp⟩ := IsSp.own hown
        subst hv
        obtain ⟨n, HLa⟩ : ∃ n, Hid (acc.length = n) := ⟨_, rfl⟩
        rw [HLa.out] at hown ⊢
        have hO := Of_set A n c acc wr HLa.out (by have := HLa.out; have := HAl.out; omega) hsp
        clear hown HG HA hbel HB0 HF0 HC HLn HP Bw
        go_wp2_with fail
        with_reducible refine hO.mono ?_
        rintro e w6 ⟨v6, rfl, hset, hb6⟩
        obtain ⟨A1, n1, c1, rfl, HN1, hcc, HS1, HC1⟩ := hset.split
        have hset1 := Lib.hid hset
        clear hset hO
        have E6 : Ext w w6 := Bq.tr hb6
        have hL6 := hLr.below hb6
        have x0 : ∀ o, w6.cell? ⟨w.heap.size, o, none⟩ = (#[.slice none 0 0] : Array Value)[o]? := fun o => by rw [hb6.cell (p := ⟨w.heap.size, o, none⟩) (by show w.heap.size < _; omega)]; exact HBr.out o
        have x1 : w6.frozen? ⟨w.heap.size, 0, none⟩ = false := by rw [hb6.frozen (p := ⟨w.heap.size, 0, none⟩) (by show w.heap.size < _; omega)]; exact HFr.out
        have z6 : w.heap.size < w6.heap.size := by have := hb6.size; omega
        have X0 := Lib.hid x0
        clear x0 hb6 HBr HFr
        have e7 : Ext w6 (w6.alloc (.cells #[.slice A1 n1 c1] 26)) := (Below.refl _ _).alloc (Nat.le_refl _) _
        have hTx := Text_set (IsSet.st _ _ _ hset1.out e7) (hL6.below e7) (by have := normL_len acc; have := HAl.out; omega)
        have HQ := Lib.hid (str_eqb (⟨(setT (normL acc)).toArray⟩ : ByteArray) s)
        have HRS := Lib.hid (res_some HN.out HGe.out)
        go_wp2_with fail
        with_reducible refine hTx.mono ?_
        rintro e w8 ⟨rfl, hb8⟩
        clear hTx
        have E8 : Ext w6 w8 := e7.tr hb8
        obtain ⟨hc8, hf8⟩ := bcell hb8
        have y0 : w8.cell? ⟨w6.heap.size, 0, none⟩ = some (.slice A1 n1 c1) := by rw [hc8 _ _ (by simp)]; go_simp
        have y1 : w6.heap.size < w8.heap.size := by have := hb8.size; simp at this; omega
        have Y0 : Hid (∀ o, w8.cell? ⟨w.heap.size, o, none⟩ = (#[.slice none 0 0] : Array Value)[o]?) := Lib.hid fun o => by rw [E8.cell (p := ⟨w.heap.size, o, none⟩) z6]; exact X0.out o
        have y2 : w8.frozen? ⟨w.heap.size, 0, none⟩ = false := by rw [E8.frozen (p := ⟨w.heap.size, 0, none⟩) z6]; exact x1
        have y3 : w.heap.size < w8.heap.size := by omega
        have y4 : w8.cell? ⟨w.heap.size, 0, none⟩ = some (.slice none 0 0) := Y0.out 0
        have Bw8 : Ext w w8 := E6.tr E8
        clear hc8 hf8 hb8 X0 x1 e7
        generalize hTB : (⟨(setT (normL acc)).toArray⟩ : ByteArray) = TB at *
        by_cases he : setT (normL acc) = s.data.toList
        · have hq1 : (TB.toList == s.toList) = true := by rw [HQ.out]; simp only [decide_eq_true_eq]; rw [← hTB, he]
          have hq2 : (TB.toList != s.toList) = false := by rw [bne, hq1]; rfl
          have HR : Hid (resS s.data.toList = some (normL acc)) := Lib.hid (by rw [HRS.out, if_pos he])
          have HIS : Hid (IsSet (w8.setCell ⟨w.heap.size, 0, none⟩ (.slice A1 n1 c1)) (.agg #[.slice A1 n1 c1]) (normL acc)) := Lib.hid (by
            obtain ⟨q, hq, ⟨A2, c2, hq2, hc2, hs2⟩, hca⟩ := IsSet.st _ _ _ hset1.out E8
            injection hq with hq
            have hq := congrArg (·[0]?) hq
            simp only [List.getElem?_toArray, List.getElem?_cons_zero, Option.some.injEq] at hq
            subst hq
            rw [hq2]
            refine ⟨_, rfl, ⟨A2, c2, rfl, hc2, ?_⟩, hca⟩
            have := SpAt.set (v := .slice A1 n1 c1) (fun i => by simp) Y0.out hs2
            rw [hq2] at this
            exact (by simpa using this))
          clear hTB he HQ HRS hset1 E8 hq
          go_wp2
          refine bodyPost_ret (v := .tuple #[.agg #[.slice A1 n1 c1], .int .i64 0]) (by simp only [results, Tryz.results7]; go_simp) rfl (ParS.good HR.out HIS.out ?_)
          exact Bw8.setCell (Nat.le_refl _) _
        · have hq1 : (TB.toList == s.toList) = false := by rw [HQ.out]; simp only [decide_eq_false_iff_not]; intro k; apply he; rw [← k, ← hTB]
          have hq2 : (TB.toList != s.toList) = true := by rw [bne, hq1]; rfl
          have HR : Hid (resS s.data.toList = none) := Lib.hid (by rw [HRS.out, if_neg he])
          clear hTB he HQ HRS hset1 E8 hq
          go_wp2
          refine bodyPost_ret (v := .tuple #[.agg #[.slice none 0 0], .int .i64 2]) (by simp only [results, Tryz.results7]; go_simp) rfl (ParS.bad HR.out ?_)
          exact Bw8.setCell (Nat.le_refl _) _
end Go.Proofs.YthbjhpfgfpkppaaGreatDoor
