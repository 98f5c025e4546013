/-
  The text of a set, by the program and by the reference.
-/
import Derived.Laws.MakeOwn
import Derived.Laws.IdiomStrings
import Derived.Test.YthbjhpfgfpkppaaGreatDoorBM
namespace Go.Proofs.YthbjhpfgfpkppaaGreatDoor
open Go Go.RowKit

theorem ret_str {a b : ByteArray} (h : a = b) : Ending.returned (.string a) = .returned (.string b) := by rw [h]
theorem infoStr : (Tryz.prog.info? 9).map (fun i => (i.zero, i.size, i.bytes)) = some (some (.string ⟨#[]⟩), 1, 16) := by kernel_rfl
def itemB (x : Sp) : ByteArray := ⟨(txL x).toArray⟩
/-- the texts that are laid so far -/
def rowT (l : List Sp) (n k : Nat) : List ByteArray := (l.take k).map itemB ++ List.replicate (n - k) ⟨#[]⟩
theorem rowT_set {l : List Sp} {n k : Nat} (hn : l.length = n) (hk : k < l.length) : (rowT l n k).set k (itemB l[k]) = rowT l n (k + 1) := by
  unfold rowT
  have e1 : ((l.take k).map itemB).length = k := by simp; omega
  rw [List.set_append_right _ _ (by omega), e1, Nat.sub_self, List.take_succ_eq_append_getElem hk, List.map_append]
  obtain ⟨m, hm⟩ : ∃ m, n - k = m + 1 := ⟨n - k - 1, by omega⟩
  rw [hm, show n - (k + 1) = m by omega, List.replicate_succ, List.set_cons_zero]
  simp
theorem rowT_end {l : List Sp} {n : Nat} (hn : l.length = n) : rowT l n n = l.map itemB := by
  unfold rowT; rw [List.take_of_length_le (by omega), Nat.sub_self]; simp
theorem rowT_at {l : List Sp} {n k : Nat} (hn : l.length = n) (hk : k < n) : (rowT l n k)[k]? = some ⟨#[]⟩ := by
  unfold rowT
  have e1 : ((l.take k).map itemB).length = k := by simp; omega
  rw [List.getElem?_append_right (by omega), e1, Nat.sub_self, List.getElem?_replicate, if_pos (by omega)]
theorem own_lt {w : World} {b e size n cap g o : Nat} {xs : List Value} (h : w.ownsRow b e size (.slice (some ⟨g, o, none⟩) n cap) n xs) : g < w.heap.size := by
  rcases h.2 with ⟨h2, _⟩ | ⟨g', cap', cur, h1, _, h3, _⟩
  · cases h2
  · injection h1 with h1 _ _
    injection h1 with h1
    injection h1 with h1
    subst h1
    rcases Nat.lt_or_ge g w.heap.size with h' | h'
    · exact h'
    · rw [Array.getElem?_eq_none h'] at h3; cases h3
theorem ba_list (l : List UInt8) : (⟨l.toArray⟩ : ByteArray).data.toList = l := rfl
theorem ba_size (l : List UInt8) : (⟨l.toArray⟩ : ByteArray).size = l.length := by rw [Lib.size_eq, ba_list]

theorem own_ext {w w' : World} {base e size n : Nat} {v : Value} {xs : List Value} (h : w.ownsRow base e size v n xs) (hb : Ext w w') : w'.ownsRow base e size v n xs :=
  World.ownsRow.kept (row := none) h ⟨hb.os, hb.tape, hb.output, hb.size, fun k hk _ => hb.block k hk⟩ (by
    cases hv : v.ownBlock with
    | none => exact .inl rfl
    | some g => exact .inr (by simp))
theorem setT_yes {l : List Sp} (h : 0 < l.length) : setT l = setL l := by
  unfold setT; rw [if_neg (fun e => by rw [e] at h; simp at h)]

set_option maxHeartbeats 8000000 in
set_option maxRecDepth 100000 in
theorem Text_any (A : Option Addr) (n c : Nat) (l : List Sp) (w : World) (hL : LaidAt w) (hn : l.length = n) (hm : n ≤ 2000) (hs : SpAt w w.heap.size A l) :
    Calls Tryz.prog 8 #[.agg #[.slice A n c]] w fun e w' => e = .returned (.string ⟨(setT l).toArray⟩) ∧ Below w.heap.size w w' := by
  have HS := Lib.hid hs
  have HL := Lib.hid hn
  clear hs hn
  by_cases h0 : n = 0
  · subst h0
    have HF : Hid (setT l = [110, 111, 110, 101]) := Lib.hid (by have := HL.out; unfold setT; rw [if_pos (List.eq_nil_of_length_eq_zero this)]; rfl)
    go_enter Tryz.func8, Tryz.ntmps8
    go_wp2
    go_ret
    exact ⟨ret_str (by rw [HF.out]), by go_grown⟩
  · have hn0 : ((n : Int) == 0) = false := by rw [beq_eq_false_iff_ne]; omega
    have HF := Lib.hid (setT_yes (l := l) (by have := HL.out; omega))
    obtain ⟨ib, hib, hz0, hz1, hz2⟩ := info_parts infoStr
    obtain ⟨w0, hw0⟩ : ∃ w0, w0 = w.alloc (.cells #[.slice A n c] 26) := ⟨_, rfl⟩
    have e0 : Ext w w0 := by rw [hw0]; exact (Below.refl _ _).alloc (Nat.le_refl _) _
    have z0 : w0.heap.size = w.heap.size + 1 := by rw [hw0]; simp
    have k0 : w0.cell? ⟨w.heap.size, 0, none⟩ = some (.slice A n c) := by rw [hw0]; simp
    obtain ⟨w4, hrun, hst, hgr⟩ := run_make_full (P := Tryz.prog) w0 w0.heap.size 50 9 ib (.string ⟨#[]⟩) 1 Tryz.underlying50 hib hz0 hz1 .i64 .i64 n (by rw [hz2]; omega) (by unfold maxLen; omega) (Nat.le_refl _)
    have B4 : Ext w0 w4 := ⟨hgr.os, hgr.tape, hgr.output, hgr.size, fun k hk => hgr.block k hk (by simp)⟩
    have k4 : w4.cell? ⟨w.heap.size, 0, none⟩ = some (.slice A n c) := by rw [B4.cell (p := ⟨w.heap.size, 0, none⟩) (by show w.heap.size < _; omega)]; exact k0
    rw [show Value.cells (.string ⟨#[]⟩) = #[.string ⟨#[]⟩] from rfl, toList_madeCells_one, Nat.mul_one] at hst
    rw [z0] at hst hrun
    have hst2 : w4.ownsRow (w.heap.size + 1) 9 1 (.slice (some ⟨w.heap.size + 1, 0, none⟩) n n) n ((rowT l n 0).map Value.string) := by simpa [rowT] using hst
    have hz4 := own_lt hst
    have Bw4 : Ext w w4 := e0.tr B4
    clear hst hgr
    subst hw0
    go_enter Tryz.func8, Tryz.ntmps8
    go_wp2_with fail
    clear hrun k4 k0
    go_loopw [17] (fun i wq => ∃ m : Nat, m ≤ n ∧ i = .int .i64 m ∧ wq.ownsRow (w.heap.size + 1) 9 1 (.slice (some ⟨w.heap.size + 1, 0, none⟩) n n) n ((rowT l n m).map Value.string) ∧ Below (w.heap.size + 1) w4 wq ∧ w.heap.size + 1 < wq.heap.size) (fun i _ => n - (intOf i).toNat)
    case atStart => exact ⟨0, Nat.zero_le _, rfl, hst2, Below.refl _ _, hz4⟩
    case round =>
      clear hst2
      obtain ⟨m, hmk, rfl, hst, hbq, hzq⟩ := hrel
      have Bq : Ext w wr := Bw4.trans (hbq.mono (Nat.le_succ _))
      have hLq := hL.below Bq
      by_cases hml : m < n
      · have hkl : m < l.length := by have := HL.out; omega
        obtain ⟨b0, o, rfl, hbb, hc⟩ := (HS.out.below Bq (Nat.le_refl _)) (by omega)
        obtain ⟨c0, c1⟩ := hc m hkl
        clear hc
        have HRS := Lib.hid (rowT_set HL.out hkl)
        have HRA : Hid ((rowT l n m)[m]? = some ⟨#[]⟩) := rowT_at HL.out hml
        obtain ⟨X, hX⟩ : ∃ X, Hid (l[m] = X) := ⟨l[m], rfl⟩
        rw [hX.out] at HRS c0 c1
        clear hX
        obtain ⟨x, y⟩ := X
        simp only at c0 c1
        have hbz : b0 < wr.heap.size := by have := Bq.size; omega
        have q1 : (m : Int) < (n : Int) := by omega
        have q2 : (0 : Int) ≤ (m : Int) := by omega
        have hxz : w.heap.size + 1 ≠ wr.heap.size := by omega
        have e5 : Ext wr (wr.alloc (.cells #[.int .i64 x, .int .i64 y] 41)) := (Below.refl _ _).alloc (Nat.le_refl _) _
        have own5 : (wr.alloc (.cells #[.int .i64 x, .int .i64 y] 41)).ownsRow (w.heap.size + 1) 9 1 (.slice (some ⟨w.heap.size + 1, 0, none⟩) n n) n ((rowT l n m).map Value.string) := hst.alloc _
        have hT : ∀ W, Ext wr W → Calls Tryz.prog 23 #[.agg #[.int .i64 x, .int .i64 y]] W fun e w' => e = .returned (.string ⟨(textL x y).toArray⟩) ∧ Below W.heap.size W w' := fun W hW => text_any x y W (hLq.below hW)
        have SC : ∀ W, Ext (wr.alloc (.cells #[.int .i64 x, .int .i64 y] 41)) W → W.ownsRow (w.heap.size + 1) 9 1 (.slice (some ⟨w.heap.size + 1, 0, none⟩) n n) n ((rowT l n m).map Value.string) ∧ W.cell? ⟨w.heap.size + 1, m, none⟩ = some (.string ⟨#[]⟩) ∧ W.frozen? ⟨w.heap.size + 1, m, none⟩ = false := fun W e => by
          have o := own_ext own5 e
          refine ⟨o, ?_, World.ownsRow.frozenAt o m⟩
          rw [World.ownsRow.cellAt o _ (by omega), List.getElem?_map, HRA.out]; rfl
        have HQ : Hid ((⟨(textL x y).toArray⟩ : ByteArray) = itemB (x, y)) := rfl
        generalize hsb : (⟨(textL x y).toArray⟩ : ByteArray) = sb at *
        clear hsb
        have HB := Lib.hid hbq
        clear hbq hst
        go_wp2_with (go_at_call 23; with_reducible refine (hT _ e5).mono ?_; rintro e w7 ⟨rfl, hb7⟩; obtain ⟨own7, y7, f7⟩ := SC _ hb7; have o7 := (World.ownsRow.stored own7 m (.string sb)).1; have B7 := HB.out.trans ((Ext.tr e5 hb7).mono (Nat.le_of_lt hzq)); have z7 := hb7.size; simp only [World.size_alloc] at z7; clear hb7 own7)
        rw [HQ.out, ← List.map_set, HRS.out] at o7
        have B8 : Below (w.heap.size + 1) w4 (w7.setCell ⟨w.heap.size + 1, m, none⟩ (.string (itemB (x, y)))) := B7.setCell (Nat.le_refl _) _
        have Z8 : w.heap.size + 1 < (w7.setCell ⟨w.heap.size + 1, m, none⟩ (.string (itemB (x, y)))).heap.size := by simp; omega
        rw [← HQ.out] at o7 B8 Z8
        go_roundw
        case rel => exact ⟨m + 1, by omega, by go_num, o7, B8, Z8⟩
        case measure => simp [intOf]; omega
      · obtain rfl : m = n := by omega
        rw [rowT_end HL.out] at hst
        have hlen := setL_len l
        have hjo : Lib.join ((l.map itemB).map (·.data.toList)) [44] = setL l := by
          rw [List.map_map]; rfl
        have hJ := Tryz.strings_Join (w.heap.size + 1) 0 m (l.map itemB) ⟨#[44]⟩ wr (fun j x hj => by
          rw [Nat.zero_add, World.ownsRow.cellAt hst j (by have := (List.getElem?_eq_some_iff.1 hj).1; simp at this; have := HL.out; omega), List.getElem?_map, hj]; rfl) hzq (by simp; have := HL.out; omega) (by simp; have := HL.out; omega) (by
          show (Lib.join ((l.map itemB).map (·.data.toList)) [44]).length ≤ _
          rw [hjo]; have := HL.out; omega)
        rw [List.length_map, HL.out] at hJ
        change Calls Tryz.prog 24 #[.slice (some ⟨w.heap.size + 1, 0, none⟩) m m, .string ⟨#[44]⟩] wr fun e w' => e = .returned (.string ⟨(Lib.join ((l.map itemB).map (·.data.toList)) [44]).toArray⟩) ∧ Below wr.heap.size wr w' at hJ
        rw [hjo] at hJ
        clear hst
        go_wp2_with (go_at_call 24; refine hJ.mono ?_; rintro e w9 ⟨rfl, hb9⟩; have B9 := Ext.tr Bq hb9)
        go_ret
        exact ⟨ret_str (by rw [HF.out]), B9⟩
theorem Text_set {W : World} {v : Value} {l : List Sp} (h : IsSet W v l) (hL : LaidAt W) (hm : l.length ≤ 2000) :
    Calls Tryz.prog 8 #[v] W fun e w' => e = .returned (.string ⟨(setT l).toArray⟩) ∧ Below W.heap.size W w' := by
  obtain ⟨A, n, c, rfl, HN, _, HS, _⟩ := h.split
  exact Text_any A n c l W hL HN.out (by have := HN.out; omega) HS.out
end Go.Proofs.YthbjhpfgfpkppaaGreatDoor
