/-
  Map.Put.
-/
import Derived.Test.YthbjhpfgfpkppaaDoorID
import Derived.Test.YthbjhpfgfpkppaaDoorIE
namespace Go.Proofs.YthbjhpfgfpkppaaDoor
open Go Go.RowKit

theorem map_out {base mb : Nat} {A : Option Addr} {n c : Nat} {l : List Rn} {w w' : World} (h : MapPost base mb A n c l w w') : ∃ A' n' c', MapAt w' base mb A' n' c' l ∧ Two w w' mb (Value.slice A n c).ownBlock ∧ Kin w (Value.slice A n c).ownBlock (.slice A' n' c') := h
theorem map_but {W W' : World} {base mb q : Nat} {A : Option Addr} {n c : Nat} {l : List Rn} (h : MapAt W base mb A n c l) (hb : But q W W') (hq : mb ≠ q) (hr : ∀ k, (Value.slice A n c).ownBlock = some k → k ≠ q) : MapAt W' base mb A n c l :=
  ⟨h.box.kept hb (fun e => hq (Option.some.inj e).symm), OwnR.kept' h.own hb (fun k hk e => hr k hk (Option.some.inj e).symm), h.ne⟩
theorem two_new_but {a b c : World} {p q : Nat} {r : Option Nat} (h : Two a b p r) (g : But q b c) (hq : a.heap.size ≤ q) : Two a c p r :=
  ⟨g.os.trans h.os, g.tape.trans h.tape, g.output.trans h.output, Nat.le_trans h.size g.size, fun i hi hp hr => (g.block i (Nat.lt_of_lt_of_le hi h.size) (fun e => by injection e with e; omega)).trans (h.block i hi hp hr)⟩
theorem kin_ne {w : World} {r : Option Nat} {v : Value} {q : Nat} (h : Kin w r v) (hr : ∀ k, r = some k → k < q) (hq : q < w.heap.size) : ∀ k, v.ownBlock = some k → k ≠ q := fun k hk e => by
  rcases h with h | ⟨k', h, hk'⟩
  · have := hr k (h.symm.trans hk); omega
  · rw [hk] at h; injection h with h; omega
theorem ext_drewN (w : World) (n : Nat) : Ext w (w.drewN n) := ⟨rfl, rfl, rfl, Nat.le_refl _, fun _ _ => rfl⟩
theorem row_set0 {W : World} {p : Nat} {x y : Value} {t : TypeId} (u : Value) (h : W.heap[p]? = some (.cells #[x, y] t (0, 0))) : (W.setCell ⟨p, 0, none⟩ u).heap[p]? = some (.cells #[u, y] t (0, 0)) := by
  obtain ⟨hlt, hk⟩ := Array.getElem?_eq_some_iff.1 h
  show (W.heap.modify p _)[p]? = _
  rw [Array.getElem?_eq_getElem (by rw [Array.size_modify]; exact hlt), Array.getElem_modify_self, hk]
  rfl
theorem row_set1 {W : World} {p : Nat} {x y : Value} {t : TypeId} (u : Value) (h : W.heap[p]? = some (.cells #[x, y] t (0, 0))) : (W.setCell ⟨p, 1, none⟩ u).heap[p]? = some (.cells #[x, u] t (0, 0)) := by
  obtain ⟨hlt, hk⟩ := Array.getElem?_eq_some_iff.1 h
  show (W.heap.modify p _)[p]? = _
  rw [Array.getElem?_eq_getElem (by rw [Array.size_modify]; exact hlt), Array.getElem_modify_self, hk]
  rfl
abbrev r0 : Rn := (0, 0, 0)
theorem getD_at {l : List Rn} {i : Nat} (h : i < l.length) : l.getD i r0 = l[i] := by rw [List.getD_eq_getElem?_getD, List.getElem?_eq_getElem h]; rfl
/-- does the run ahead join -/
def q1B (D : List Rn) (i : Nat) (a v : Int) : Bool := decide (0 < i) && decide ((D.getD (i - 1) r0).2.1 = a) && decide ((D.getD (i - 1) r0).2.2 = v)
def q2B (D : List Rn) (i : Nat) (b v : Int) : Bool := decide (i < D.length) && decide ((D.getD i r0).1 = b) && decide ((D.getD i r0).2.2 = v)
theorem q1_left {D : List Rn} {i : Nat} {a v : Int} (hi : i ≤ D.length) : D.take (if q1B D i a v then i - 1 else i) = putX a v (D.take i) ∧ (if q1B D i a v then (D.getD (i - 1) r0).1 else a) = putA a v (D.take i) := by
  unfold putX putA q1B
  rcases Nat.eq_zero_or_pos i with h0 | h0
  · subst h0; simp
  · have hl : (D.take i).getLast? = some D[i - 1] := by
      rw [List.getLast?_eq_getElem?, List.length_take, List.getElem?_take, if_pos (by omega), show min i D.length - 1 = i - 1 by omega, List.getElem?_eq_getElem (by omega)]
    rw [hl, getD_at (by omega)]
    simp only [h0, decide_true, Bool.true_and]
    by_cases h1 : D[i - 1].2.1 = a <;> by_cases h2 : D[i - 1].2.2 = v <;> simp [h1, h2]
    rw [List.dropLast_eq_take, List.take_take, List.length_take]
    congr 1; omega
theorem q2_right {D : List Rn} {i : Nat} {b v : Int} : D.drop (if q2B D i b v then i + 1 else i) = putZ b v (D.drop i) ∧ (if q2B D i b v then (D.getD i r0).2.1 else b) = putB b v (D.drop i) := by
  unfold putZ putB q2B
  by_cases h : i < D.length
  · have e : D.drop i = D[i] :: D.drop (i + 1) := List.drop_eq_getElem_cons h
    rw [e, getD_at h]
    simp only [h, decide_true, Bool.true_and]
    by_cases hq : D[i].1 = b ∧ D[i].2.2 = v
    · have hb : (decide (D[i].1 = b) && decide (D[i].2.2 = v)) = true := by simp [hq.1, hq.2]
      rw [hb, if_pos rfl, if_pos rfl]
      simp only [if_pos hq, and_self]
    · have hb : (decide (D[i].1 = b) && decide (D[i].2.2 = v)) = false := by
        refine Bool.eq_false_iff.2 fun hh => hq ?_
        simp only [Bool.and_eq_true, decide_eq_true_eq] at hh
        exact hh
      rw [hb]
      simp only [Bool.false_eq_true, if_false, if_neg hq]
      exact ⟨e, trivial⟩
  · have e : D.drop i = [] := List.drop_of_length_le (by omega)
    rw [e]
    simp [h, e]

set_option maxHeartbeats 1000000 in
theorem put_nil (a b v : Int) (w : World) : Calls Tryd.prog 9 #[.pointer none, .agg #[.int .i64 a, .int .i64 b], .int .u8 v] w fun e w' => e = .returned (.int .i64 6) ∧ Ext w w' := by
  go_enter Tryd.func9, Tryd.ntmps9
  go_wp2
  go_ret
  exact ⟨rfl, by go_grown⟩
set_option maxHeartbeats 1000000 in
theorem put_bad (mb : Nat) (a b v : Int) (w : World) (h : ¬ 0 < lenI a b) : Calls Tryd.prog 9 #[.pointer (some ⟨mb, 0, none⟩), .agg #[.int .i64 a, .int .i64 b], .int .u8 v] w fun e w' => e = .returned (.int .i64 1) ∧ Ext w w' := by
  have h0 := len_zero h
  go_enter Tryd.func9, Tryd.ntmps9
  go_wp2_with (go_at_call 17; with_reducible refine (len_any a b _).mono ?_; rw [h0]; rintro e w1 ⟨rfl, hb1⟩; have B1 : Ext w w1 := bel (by go_grown) hb1; clear hb1)
  go_ret
  exact ⟨rfl, B1⟩

set_option maxHeartbeats 16000000 in
set_option maxRecDepth 100000 in
theorem put_ok (base mb : Nat) (A : Option Addr) (n c : Nat) (l : List Rn) (a b v : Int) (w : World) (hm : MapAt w base mb A n c l) (hg : Good 0 Option.none l) (hbig : n ≤ 10000) (hbase : base ≤ w.heap.size) (hp : 0 < lenI a b) :
    Calls Tryd.prog 9 #[.pointer (some ⟨mb, 0, none⟩), .agg #[.int .i64 a, .int .i64 b], .int .u8 v] w fun e w' => e = .returned (.int .i64 0) ∧ MapPost base mb A n c (putF l a b v) w w' := by
  have hab := len_pos.1 hp
  have hne : ¬ (lenI a b = 0) := by omega
  have hln := hm.len
  have hDg := dropF_good hg hab.1 hab.2.1
  have hDl := dropF_len hg hab.2.1
  have hdrop : ∀ W, Ext w W → Calls Tryd.prog 8 #[.pointer (some ⟨mb, 0, none⟩), .agg #[.int .i64 a, .int .i64 b]] W fun e w' => e = .returned (.tuple #[]) ∧ MapPost base mb A n c (dropF l a b) W w' := fun W e => by
    have h := drop_any base mb A n c l a b W (hm.ext e) hg (by omega) (by have := e.size; omega)
    unfold dropI at h
    rwa [if_pos hp] at h
  have HD := Lib.hid hdrop
  obtain ⟨D, hD⟩ : ∃ D, D = dropF l a b := ⟨_, rfl⟩
  have HPF : Hid (putF l a b v = putL a b v (D.take (idxA D a)) (D.drop (idxA D a))) := by rw [hD]; exact rfl
  rw [← hD] at hDg hDl HD
  clear hdrop hD
  have e1 : Ext w (w.alloc (.cells #[.int .i64 a, .int .i64 b] 31)) := (Below.refl _ _).alloc (Nat.le_refl _) _
  have hmbl := hm.box.lt
  have hrl : Hid (∀ k, (Value.slice A n c).ownBlock = some k → k < w.heap.size ∧ k ≠ mb) := fun k hk => ⟨(World.ownsRow.lt hm.own k hk).2, hm.ne k hk⟩
  have hlenab := Lib.hid (fun W => len_any a b W)
  generalize lenI a b = L at *
  clear hm hg
  go_enter Tryd.func9, Tryd.ntmps9
  go_upto_region 6 with (first
    | (go_at_call 17; with_reducible refine (hlenab.out _).mono ?_; rintro e w1 ⟨rfl, hb1⟩; obtain ⟨hc1, hf1⟩ := bcell hb1; have B1 : Ext w w1 := e1.tr hb1; have S1 : w1.cell? ⟨w.heap.size, 0, none⟩ = some (.int .i64 a) ∧ w1.cell? ⟨w.heap.size, 1, none⟩ = some (.int .i64 b) ∧ w.heap.size < w1.heap.size ∧ w1.heap[w.heap.size]? = some (.cells #[.int .i64 a, .int .i64 b] 31 (0, 0)) := (by have := hb1.size; simp at this; refine ⟨?_, ?_, by omega, ?_⟩; (rw [hc1 _ _ (by simp)]; simp); (rw [hc1 _ _ (by simp)]; simp); exact (hb1.block w.heap.size (by simp)).trans (heap_alloc_new w _)); clear hb1 hc1 hf1 hlenab; obtain ⟨s10, s11, s1z, s1b⟩ := S1)
    | (go_at_call 8; go_loud (with_reducible refine (HD.out _ B1).mono ?_; rintro e w2 ⟨rfl, hmp⟩; obtain ⟨A2, n2, c2, hm2, ht2, hk2⟩ := map_out hmp; clear hmp; have s2b : w2.heap[w.heap.size]? = some (.cells #[.int .i64 a, .int .i64 b] 31 (0, 0)) := (ht2.block _ s1z (by omega) (fun e => by have := (hrl.out _ e.symm).1; omega)).trans s1b; have HM2 := Lib.hid hm2; have HT2 := Lib.hid (Two.tr (Two.ext B1) ht2 (.inl rfl)); have HK2 := Lib.hid (Kin.own hk2 B1.size); have hblk := Lib.hid (kin_ne hk2 (fun k hk => (hrl.out k hk).1) s1z); clear hm2 ht2 hk2 s10 s11 s1b)))
  have hln2 := HM2.out.len
  have hz2 := HT2.out.size
  have s2z : w.heap.size < w2.heap.size := (Array.getElem?_eq_some_iff.1 s2b).1
  have s20 : w2.cell? ⟨w.heap.size, 0, none⟩ = some (.int .i64 a) := by rw [cell_of_row w2 w.heap.size 0 _ _ _ s2b]; rfl
  have s21 : w2.cell? ⟨w.heap.size, 1, none⟩ = some (.int .i64 b) := by rw [cell_of_row w2 w.heap.size 1 _ _ _ s2b]; rfl
  have hidx := idxA_le D a
  have HAF := Lib.hid (after_any (.pointer (some ⟨mb, 0, Option.none⟩)) A2 n2 c2 D a w2 (Lists.map HM2.out.box.cell HM2.out.box.lt) hln2 (by omega) hDg HM2.out.at_)
  generalize hi : idxA D a = i at *
  clear hi
  go_upto_region 8 with (go_at_call 27; with_reducible refine (HAF.out).mono ?_; rintro e w3 ⟨rfl, E3⟩)
  have M3 := Lib.hid (HM2.out.ext E3)
  have s3b : w3.heap[w.heap.size]? = some (.cells #[.int .i64 a, .int .i64 b] 31 (0, 0)) := (E3.block _ s2z).trans s2b
  have T3 := Lib.hid (Two.tr HT2.out (Two.ext (r := (Value.slice A n c).ownBlock) E3) (.inl rfl))
  clear HM2 HT2 HAF s20 s21 s2b HD e1 B1
  have s30 : w3.cell? ⟨w.heap.size, 0, none⟩ = some (.int .i64 a) := by rw [cell_of_row w3 w.heap.size 0 _ _ _ s3b]; rfl
  have s31 : w3.cell? ⟨w.heap.size, 1, none⟩ = some (.int .i64 b) := by rw [cell_of_row w3 w.heap.size 1 _ _ _ s3b]; rfl
  have m30 := M3.out.box.cell
  have hQ1 : Hid (q1B D i a v = (decide (0 < i) && decide ((D.getD (i - 1) r0).2.1 = a) && decide ((D.getD (i - 1) r0).2.2 = v))) := rfl
  have hQ2 : Hid (q2B D i b v = (decide (i < D.length) && decide ((D.getD i r0).1 = b) && decide ((D.getD i r0).2.2 = v))) := rfl
  have HL1 := Lib.hid (q1_left (a := a) (v := v) hidx)
  have HR1 := Lib.hid (q2_right (D := D) (i := i) (b := b) (v := v))
  have hiw : IntKind.i64.wrap ((i : Int) - 1) = (i : Int) - 1 := by rw [IntKind.wrap_i64]; omega
  go_cut [51] (fun s51 wx => s51 = .bool (q1B D i a v) ∧ Ext w3 wx)
  case first =>
    --BEGIN a
    by_cases h0 : 0 < i
    · obtain ⟨g, o, rfl, hgw, hc⟩ := M3.out.at_ (by omega)
      obtain ⟨-, d1, d2⟩ := hc (i - 1) (by omega)
      have eF : D.getD (i - 1) r0 = D[i - 1] := getD_at (by omega)
      rw [eF] at hQ1
      clear hc eF
      generalize D[i - 1] = F at *
      obtain ⟨f1, f2, f3⟩ := F
      simp only at d1 d2 hQ1
      have k1 : (0 : Int) < (i : Int) := by omega
      have k2 : (0 : Int) ≤ (i : Int) - 1 := by omega
      have k3 : (i : Int) - 1 < (n2 : Int) := by omega
      have k4 : ((i : Int) - 1).toNat = i - 1 := by omega
      have k5 : (1 : Int) ≤ (i : Int) := by omega
      have k6 : (i : Int) < (n2 : Int) + 1 := by omega
      have k7 : (i : Int) ≤ (n2 : Int) := by omega
      by_cases h1 : f2 = a
      · have HT : Hid (q1B D i a v = decide (f3 = v)) := by unfold Hid; rw [hQ1.out]; simp [h0, h1]
        clear hQ1 hQ2
        go_quiet ((go_at_call 28; exact Calls.quiet_of_same (same_any f3 v _)))
        go_wp2_with fail
        go_meet
        exact ⟨by rw [HT.out], ext_drewN _ _⟩
      · have HT : Hid (q1B D i a v = false) := by unfold Hid; rw [hQ1.out]; simp [h1]
        have hf : decide (f2 = a) = false := by simpa using h1
        clear hQ1 hQ2
        go_quiet (fail)
        go_wp2_with fail
        go_meet
        exact ⟨by rw [HT.out], ext_drewN _ _⟩
    · have hi0 : i = 0 := by omega
      have HT : Hid (q1B D i a v = false) := by unfold Hid; rw [hQ1.out]; simp [hi0]
      clear hQ1 hQ2
      go_quiet (fail)
      go_wp2_with fail
      go_meet
      exact ⟨by rw [HT.out], ext_drewN _ _⟩
    --END a
  case rest =>
    obtain ⟨rfl, E4⟩ := hcut
    rename World => w4
    go_upto_if 51 with (fail)
    go_cut [7] (fun s7 wx => ∃ fi fr : Int, s7 = .int .i64 fi ∧ (∃ k : Nat, fi = k ∧ k ≤ i ∧ D.take k = putX a v (D.take i)) ∧ fr = putA a v (D.take i) ∧ wx.heap[w.heap.size]? = some (.cells #[.int .i64 fr, .int .i64 b] 31 (0, 0)) ∧ But w.heap.size w3 wx)
    case first =>
      --BEGIN b
      have s4b : w4.heap[w.heap.size]? = some (.cells #[.int .i64 a, .int .i64 b] 31 (0, 0)) := (E4.block _ (by have := E3.size; omega)).trans s3b
      have s40 : w4.cell? ⟨w.heap.size, 0, none⟩ = some (.int .i64 a) := by rw [cell_of_row w4 w.heap.size 0 _ _ _ s4b]; rfl
      have f40 : w4.frozen? ⟨w.heap.size, 0, none⟩ = false := by simp [World.frozen?, s4b]
      have m40 := (M3.out.ext E4).box.cell
      cases hq : q1B D i a v with
      | true =>
        rw [hq] at HL1
        simp only [if_true] at HL1
        have h0 : 0 < i := by rw [hQ1.out] at hq; simp at hq; exact hq.1.1
        obtain ⟨g, o, rfl, hgw, hc⟩ := (M3.out.ext E4).at_ (by omega)
        obtain ⟨d0, -, -⟩ := hc (i - 1) (by omega)
        have eF : D.getD (i - 1) r0 = D[i - 1] := getD_at (by omega)
        rw [eF] at HL1
        clear hc eF hQ1 hQ2
        generalize D[i - 1] = F at *
        obtain ⟨f1, f2, f3⟩ := F
        simp only at d0 HL1
        have k1 : (0 : Int) < (i : Int) := by omega
        have k2 : (0 : Int) ≤ (i : Int) - 1 := by omega
        have k3 : (i : Int) - 1 < (n2 : Int) := by omega
        have k4 : ((i : Int) - 1).toNat = i - 1 := by omega
        have k5 : (1 : Int) ≤ (i : Int) := by omega
        have k6 : (i : Int) < (n2 : Int) + 1 := by omega
        have k7 : (i : Int) ≤ (n2 : Int) := by omega
        go_wp2
        go_meet
        refine ⟨(i : Int) - 1, f1, rfl, ⟨i - 1, by omega, by omega, HL1.out.1⟩, HL1.out.2, row_set0 _ s4b, But.tr (But.ext E4) (But.setAt _ _ _ _)⟩
      | false =>
        rw [hq] at HL1
        simp only [Bool.false_eq_true, if_false] at HL1
        clear hQ1 hQ2
        go_wp2
        go_meet
        exact ⟨i, a, rfl, ⟨i, rfl, Nat.le_refl _, HL1.out.1⟩, HL1.out.2, s4b, But.ext E4⟩
      --END b
    case rest =>
      obtain ⟨fi, fr, rfl, ⟨kf, rfl, hkf, hDk⟩, hfr, s5b, hBut⟩ := hcut
      rename World => w5
      have M5 : Hid (MapAt w5 base mb A2 n2 c2 D) := map_but M3.out hBut (by omega) hblk.out
      have T5 := Lib.hid (two_new_but T3.out hBut (Nat.le_refl _))
      have hz5 := T5.out.size
      have s50 : w5.cell? ⟨w.heap.size, 0, none⟩ = some (.int .i64 fr) := by rw [cell_of_row w5 w.heap.size 0 _ _ _ s5b]; rfl
      have s51 : w5.cell? ⟨w.heap.size, 1, none⟩ = some (.int .i64 b) := by rw [cell_of_row w5 w.heap.size 1 _ _ _ s5b]; rfl
      have s5z : w.heap.size < w5.heap.size := (Array.getElem?_eq_some_iff.1 s5b).1
      have m50 := M5.out.box.cell
      clear s30 s31 m30 s3b HL1 hQ1 M3 E3 E4 hBut T3
      go_upto_region 11 with (fail)
      go_cut [96] (fun s96 wx => s96 = .bool (q2B D i b v) ∧ Ext w5 wx)
      case first =>
        --BEGIN c
        by_cases h0 : i < D.length
        · obtain ⟨g, o, rfl, hgw, hc⟩ := M5.out.at_ (by omega)
          obtain ⟨d0, -, d2⟩ := hc i (by omega)
          have eF : D.getD i r0 = D[i] := getD_at (by omega)
          rw [eF] at hQ2
          clear hc eF
          generalize D[i] = F at *
          obtain ⟨f1, f2, f3⟩ := F
          simp only at d0 d2 hQ2
          have k3 : (i : Int) < (n2 : Int) := by omega
          by_cases h1 : f1 = b
          · have HT : Hid (q2B D i b v = decide (f3 = v)) := by unfold Hid; rw [hQ2.out]; simp [h0, h1]
            clear hQ2
            go_quiet ((go_at_call 28; exact Calls.quiet_of_same (same_any f3 v _)))
            go_wp2_with fail
            go_meet
            exact ⟨by rw [HT.out], ext_drewN _ _⟩
          · have HT : Hid (q2B D i b v = false) := by unfold Hid; rw [hQ2.out]; simp [h1]
            have hf : decide (f1 = b) = false := by simpa using h1
            clear hQ2
            go_quiet (fail)
            go_wp2_with fail
            go_meet
            exact ⟨by rw [HT.out], ext_drewN _ _⟩
        · have HT : Hid (q2B D i b v = false) := by unfold Hid; rw [hQ2.out]; simp [h0]
          have k3 : ¬ ((i : Int) < (n2 : Int)) := by omega
          clear hQ2
          go_quiet (fail)
          go_wp2_with fail
          go_meet
          exact ⟨by rw [HT.out], ext_drewN _ _⟩
        --END c
      case rest =>
        obtain ⟨rfl, E6⟩ := hcut
        rename World => w6
        go_upto_if 96 with (fail)
        go_cut [8] (fun s8 wx => ∃ fb bt : Int, s8 = .int .i64 fb ∧ (∃ k : Nat, fb = k ∧ i ≤ k ∧ k ≤ D.length ∧ D.drop k = putZ b v (D.drop i)) ∧ bt = putB b v (D.drop i) ∧ wx.heap[w.heap.size]? = some (.cells #[.int .i64 fr, .int .i64 bt] 31 (0, 0)) ∧ But w.heap.size w5 wx)
        case first =>
          --BEGIN d
          have s6b : w6.heap[w.heap.size]? = some (.cells #[.int .i64 fr, .int .i64 b] 31 (0, 0)) := (E6.block _ s5z).trans s5b
          have s61 : w6.cell? ⟨w.heap.size, 1, none⟩ = some (.int .i64 b) := by rw [cell_of_row w6 w.heap.size 1 _ _ _ s6b]; rfl
          have f61 : w6.frozen? ⟨w.heap.size, 1, none⟩ = false := by simp [World.frozen?, s6b]
          have m60 := (M5.out.ext E6).box.cell
          cases hq : q2B D i b v with
          | true =>
            rw [hq] at HR1
            simp only [if_true] at HR1
            have h0 : i < D.length := by rw [hQ2.out] at hq; simp at hq; exact hq.1.1
            obtain ⟨g, o, rfl, hgw, hc⟩ := (M5.out.ext E6).at_ (by omega)
            obtain ⟨-, d1, -⟩ := hc i (by omega)
            have eF : D.getD i r0 = D[i] := getD_at (by omega)
            rw [eF] at HR1
            clear hc eF hQ2
            generalize D[i] = F at *
            obtain ⟨f1, f2, f3⟩ := F
            simp only at d1 HR1
            have k3 : (i : Int) < (n2 : Int) := by omega
            have k4 : IntKind.i64.wrap ((i : Int) + 1) = (i : Int) + 1 := by rw [IntKind.wrap_i64]; omega
            go_wp2
            go_meet
            exact ⟨(i : Int) + 1, f2, rfl, ⟨i + 1, by omega, by omega, by omega, HR1.out.1⟩, HR1.out.2, row_set1 _ s6b, But.tr (But.ext E6) (But.setAt _ _ _ _)⟩
          | false =>
            rw [hq] at HR1
            simp only [Bool.false_eq_true, if_false] at HR1
            clear hQ2
            go_wp2
            go_meet
            exact ⟨i, b, rfl, ⟨i, rfl, Nat.le_refl _, hidx, HR1.out.1⟩, HR1.out.2, s6b, But.ext E6⟩
          --END d
        case rest =>
          obtain ⟨fb, bt, rfl, ⟨kb, rfl, hkb, hkbn, hDb⟩, hbt, s7b, hBut7⟩ := hcut
          rename World => w7
          have M7 : Hid (MapAt w7 base mb A2 n2 c2 D) := map_but M5.out hBut7 (by omega) hblk.out
          have T7 := Lib.hid (two_new_but T5.out hBut7 (Nat.le_refl _))
          have hz7 := T7.out.size
          have s70 : w7.cell? ⟨w.heap.size, 0, none⟩ = some (.int .i64 fr) := by rw [cell_of_row w7 w.heap.size 0 _ _ _ s7b]; rfl
          have s71 : w7.cell? ⟨w.heap.size, 1, none⟩ = some (.int .i64 bt) := by rw [cell_of_row w7 w.heap.size 1 _ _ _ s7b]; rfl
          have s7z : w.heap.size < w7.heap.size := (Array.getElem?_eq_some_iff.1 s7b).1
          have m70 := M7.out.box.cell
          clear s50 s51 m50 s5b HR1 hQ2 M5 E6 hBut7 T5
          go_upto_region 14 with (fail)
          have mixed : Tryd.prog.follows .mixedOrders = true := by kernel_rfl
          have eA : Ext w7 (w7.drew.alloc (.cells #[.int .i64 fr, .int .i64 bt, .int .u8 v] 61)) := ((Below.refl _ _).drew).alloc (Nat.le_refl _) _
          have M8 := Lib.hid (M7.out.ext eA)
          have hsrc : (w7.drew.alloc (.cells #[.int .i64 fr, .int .i64 bt, .int .u8 v] 61)).ownsRow 0 61 3 (.slice (some ⟨w7.heap.size, 0, none⟩) 1 1) 1 (flatR [(fr, bt, v)]) := World.ownsRow_lit w7.drew #[.int .i64 fr, .int .i64 bt, .int .u8 v] 1 (Nat.zero_le _) (by unfold maxLen; omega) rfl
          have hown8 : (w7.drew.alloc (.cells #[.int .i64 fr, .int .i64 bt, .int .u8 v] 61)).ownsRow base 61 3 (.slice A2 n2 c2) n2 (flatR D) := by have h := M8.out.own; unfold OwnR at h; rwa [hln2] at h
          have HR := Lib.hid (replace_any base n2 c2 kf kb 1 1 A2 (some ⟨w7.heap.size, 0, Option.none⟩) (flatR D) (flatR [(fr, bt, v)]) _ hown8 hsrc (fun k hk e => by
            have := (World.ownsRow.lt M7.out.own k e).2
            simp only [Value.ownBlock, Option.some.injEq] at hk
            omega) (flatR_one D) (flatR_one _) (by omega) (by omega) (.inl (by omega)) (by omega) (by omega) (by have := eA.size; omega) (by simp))
          clear hsrc hown8
          have hDD : Hid (D.take kf ++ [(fr, bt, v)] ++ D.drop kb = putF l a b v) := by
            unfold Hid
            rw [HPF.out, hDk, hDb, hfr, hbt]
            unfold putL
            simp
          have hDDl : Hid ((putF l a b v).length = kf + 1 + (n2 - kb)) := by
            unfold Hid
            rw [← hDD.out]; simp only [List.length_append, List.length_take, List.length_drop, List.length_cons, List.length_nil]; omega
          have hmne := fun k hk => M7.out.ne k hk
          have HNE := Lib.hid hmne
          have B7 : Hid (Box w7 mb 48 (.slice A2 n2 c2)) := M7.out.box
          have hmb7 : mb < w7.heap.size := M7.out.box.lt
          clear hmne HPF hDk hDb hfr hbt hkb hkf hkbn eA
          go_region_law (first
            | (go_simp; go_at_call 26; refine (Hid.out HR).mono ?_; rintro e w11 ⟨v11, rfl, k1, k2, k3⟩; obtain ⟨A11, n11, c11, rfl⟩ := own_slice k1; have K1 := Lib.hid k1; have K2 := Lib.hid k2; have K3 := Lib.hid k3; have BX := Lib.hid (M8.out.box.kept k2 (fun e => HNE.out mb e rfl)); have bc11 := BX.out.cell; have bf11 := BX.out.free; clear k1 k2 k3))
          all_goals
            go_wp2_with fail
            go_ret
            have hz11 := K2.out.size
            have hzA : w7.heap.size ≤ (w7.drew.alloc (.cells #[.int .i64 fr, .int .i64 bt, .int .u8 v] 61)).heap.size := by simp
            have hne11 : ∀ k, (Value.slice A11 n11 c11).ownBlock = some k → k ≠ mb := fun k hk e => by
              rcases K3.out with h | ⟨k', h, hk'⟩
              · exact HNE.out k (h.symm.trans hk) e
              · rw [hk] at h; injection h with h; omega
            have hown11 : OwnR w11 base (.slice A11 n11 c11) (putF l a b v) := by
              unfold OwnR
              rw [hDDl.out, ← hDD.out, flatR_append, flatR_append, ← flatR_take, ← flatR_drop]
              exact K1.out
            have hT : Two w w11 mb (Value.slice A n c).ownBlock := by
              refine Two.tr (Two.tr T7.out (Two.ext (r := (Value.slice A n c).ownBlock) (((Below.refl _ _).drew).alloc (Nat.le_refl _) _)) (.inl rfl)) (Two.grown K2.out) ?_
              rcases HK2.out with h | ⟨k', h, hk'⟩
              · exact .inl h
              · exact .inr fun g' e => by rw [h] at e; injection e with e; omega
            have hK : Kin w (Value.slice A n c).ownBlock (.slice A11 n11 c11) := by
              rcases K3.out with h | ⟨k', h, hk'⟩
              · rcases HK2.out with h2 | ⟨k2, h2, hk2⟩
                · exact .inl (h.trans h2)
                · exact .inr ⟨k2, h.trans h2, hk2⟩
              · exact .inr ⟨k', h, by omega⟩
            exact ⟨rfl, A11, n11, c11, ⟨BX.out.set _, OwnR.kept' hown11 (But.setAt mb 0 w11 _) (fun k hk e => hne11 k hk (Option.some.inj e).symm), hne11⟩, Two.tr hT (Two.but (But.setAt mb 0 w11 _)) (.inl rfl), hK⟩

/-- what Put makes of runs -/
def putI (l : List Rn) (a b v : Int) : List Rn := if 0 < lenI a b then putF l a b v else l
theorem put_any (base mb : Nat) (A : Option Addr) (n c : Nat) (l : List Rn) (a b v : Int) (w : World) (hm : MapAt w base mb A n c l) (hg : Good 0 Option.none l) (hbig : n ≤ 10000) (hbase : base ≤ w.heap.size) :
    Calls Tryd.prog 9 #[.pointer (some ⟨mb, 0, none⟩), .agg #[.int .i64 a, .int .i64 b], .int .u8 v] w fun e w' => e = .returned (.int .i64 (if 0 < lenI a b then 0 else 1)) ∧ MapPost base mb A n c (putI l a b v) w w' := by
  unfold putI
  by_cases hp : 0 < lenI a b
  · rw [if_pos hp, if_pos hp]
    exact put_ok base mb A n c l a b v w hm hg hbig hbase hp
  · rw [if_neg hp, if_neg hp]
    exact (put_bad mb a b v w hp).mono fun e w' ⟨h1, h2⟩ => ⟨h1, MapPost.same hm h2⟩
theorem putI_good {l : List Rn} (a b v : Int) (h : Good 0 none l) : Good 0 none (putI l a b v) := by
  unfold putI; split
  · rename_i hp; have := len_pos.1 hp; exact putF_good v h this.1 this.2.1 this.2.2
  · exact h
theorem putI_len {l : List Rn} (a b v : Int) (h : Good 0 none l) : (putI l a b v).length ≤ l.length + 2 := by
  unfold putI; split
  · rename_i hp; have := len_pos.1 hp; exact putF_len v h this.2.1
  · omega
theorem putI_tell {l : List Rn} (a b v : Int) (h : Good 0 none l) (p : Int) : tell (putI l a b v) p = if 0 < lenI a b ∧ a ≤ p ∧ p < b then some v else tell l p := by
  unfold putI; split
  · rename_i hp; have := len_pos.1 hp; rw [putF_tell v h this.1 this.2.1]; simp [hp]
  · rename_i hp; simp [hp]
end Go.Proofs.YthbjhpfgfpkppaaDoor
