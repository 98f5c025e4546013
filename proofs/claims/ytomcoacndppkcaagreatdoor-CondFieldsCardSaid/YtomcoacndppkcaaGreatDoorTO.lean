/-
  The text of a list, by the program and by the reference.
-/
import Derived.Lib.Join
import Derived.Laws.MakeOwn
import Derived.Laws.IdiomStrings
import Derived.Test.YtomcoacndppkcaaGreatDoorTE
import Derived.Test.YtomcoacndppkcaaGreatDoorTF
namespace Go.Proofs.YtomcoacndppkcaaGreatDoor.T
open Go Go.RowKit

/-- a list's text -/
def textsL : List Tg → List UInt8
  | [] => []
  | x :: r => match r with
    | [] => spellL x
    | _ :: _ => spellL x ++ 44 :: 32 :: textsL r
theorem textsL_cons (x y : Tg) (r : List Tg) : textsL (x :: y :: r) = spellL x ++ 44 :: 32 :: textsL (y :: r) := rfl
theorem textsL_one (x : Tg) : textsL [x] = spellL x := rfl
theorem spell_len (x : Tg) : (spellL x).length ≤ 104 := by
  unfold spellL
  split
  · rename_i h
    have := (okT_iff.1 h).2.1
    rw [← Lib.size_eq] at this
    split <;> simp <;> omega
  · simp
theorem textsL_len : ∀ l : List Tg, (textsL l).length ≤ 106 * l.length
  | [] => by simp [textsL]
  | [x] => by have := spell_len x; rw [textsL_one]; simp; omega
  | x :: y :: r => by
    have a := spell_len x
    have b := textsL_len (y :: r)
    rw [textsL_cons]
    simp only [List.length_append, List.length_cons] at *; omega
theorem textsL_snoc : ∀ (l : List Tg) (x : Tg), textsL (l ++ [x]) = if l = [] then spellL x else textsL l ++ 44 :: 32 :: spellL x
  | [], x => by simp [textsL]
  | [y], x => by simp [textsL]
  | y :: z :: r, x => by
    have ih := textsL_snoc (z :: r) x
    rw [if_neg (by simp)] at ih ⊢
    rw [List.cons_append, List.cons_append, textsL_cons, ← List.cons_append, ih, textsL_cons]
    simp
theorem join_texts : ∀ (l : List Tg), Lib.join (l.map spellL) [44, 32] = textsL l
  | [] => by simp [Lib.join, textsL]
  | [x] => by simp [Lib.join, textsL, List.intercalate]
  | x :: y :: r => by
    have ih := join_texts (y :: r)
    rw [textsL_cons, ← ih]
    simp [Lib.join, List.intercalate]
def allT (l : List Tg) : Bool := l.all fun t => okS t.1
theorem allT_take {l : List Tg} {k : Nat} (h : k < l.length) : allT (l.take (k + 1)) = (allT (l.take k) && okS l[k].1) := by
  unfold allT; rw [List.take_succ_eq_append_getElem h, List.all_append, List.all_cons, List.all_nil, Bool.and_true]
theorem allT_at {l : List Tg} {k : Nat} (h : k < l.length) (hk : okS l[k].1 = false) : allT l = false := by
  unfold allT; rw [List.all_eq_false]; exact ⟨l[k], List.getElem_mem h, by rw [hk]; exact Bool.false_ne_true⟩
def txtD (l : List Tg) (any : Bool) : List UInt8 := if any then [42] else if allT l then textsL l else []
theorem txtD_no {l : List Tg} (h : allT l = false) : txtD l false = [] := by unfold txtD; simp [h]
theorem txtD_yes {l : List Tg} (h : allT l = true) : txtD l false = textsL l := by unfold txtD; simp [h]
theorem spell_ne {x : Tg} (h : okS x.1 = true) : spellL x ≠ [] := by unfold spellL; simp [h]

theorem infoStr : (Tryz.prog.info? 9).map (fun i => (i.zero, i.size, i.bytes)) = some (some (.string ⟨#[]⟩), 1, 16) := by kernel_rfl
def itemB (x : Tg) : ByteArray := ⟨(spellL x).toArray⟩
/-- the texts that are laid so far -/
def rowT (l : List Tg) (n k : Nat) : List ByteArray := (l.take k).map itemB ++ List.replicate (n - k) ⟨#[]⟩
theorem rowT_set {l : List Tg} {n k : Nat} (hn : l.length = n) (hk : k < l.length) : (rowT l n k).set k (itemB l[k]) = rowT l n (k + 1) := by
  unfold rowT
  have e1 : ((l.take k).map itemB).length = k := by simp; omega
  rw [List.set_append_right _ _ (by omega), e1, Nat.sub_self, List.take_succ_eq_append_getElem hk, List.map_append]
  obtain ⟨m, hm⟩ : ∃ m, n - k = m + 1 := ⟨n - k - 1, by omega⟩
  rw [hm, show n - (k + 1) = m by omega, List.replicate_succ, List.set_cons_zero]
  simp
theorem rowT_end {l : List Tg} {n : Nat} (hn : l.length = n) : rowT l n n = l.map itemB := by
  unfold rowT; rw [List.take_of_length_le (by omega), Nat.sub_self]; simp
theorem rowT_at {l : List Tg} {n k : Nat} (hn : l.length = n) (hk : k < n) : (rowT l n k)[k]? = some ⟨#[]⟩ := by
  unfold rowT
  have e1 : ((l.take k).map itemB).length = k := by simp; omega
  rw [List.getElem?_append_right (by omega), e1, Nat.sub_self, List.getElem?_replicate, if_pos (by omega)]
theorem own_lt {w : World} {b e size n cap g o : Nat} {xs : List Value} (h : w.ownsRow b e size (.slice (some ⟨g, o, none⟩) n cap) n xs) : g < w.heap.size := by
  rcases h.2 with ⟨h2, _⟩ | ⟨g', cap', cur, h1, _, h3, _⟩
  · cases h2
  · injection h1 with h1 _ _
    injection h1 with h1
    injection h1 with h1
    subst h1
    rcases Nat.lt_or_ge g w.heap.size with h' | h'
    · exact h'
    · rw [Array.getElem?_eq_none h'] at h3; cases h3

set_option maxHeartbeats 8000000 in
set_option maxRecDepth 100000 in
theorem texts_any (A : Option Addr) (n c : Nat) (l : List Tg) (any : Bool) (w : World) (hn : l.length = n) (hm : n ≤ 400) (hM : Mx l) (hs : TgAt w w.heap.size A l) :
    Calls Tryz.prog 30 #[.slice A n c, .bool any] w fun e w' => e = .returned (.string ⟨(txtD l any).toArray⟩) ∧ Below w.heap.size w w' := by
  have HS := Lib.hid hs
  have HL := Lib.hid hn
  have HM := Lib.hid hM
  clear hs hn hM
  cases any with
  | true =>
    have HF : Hid (txtD l true = [42]) := rfl
    go_enter Tryz.func30, Tryz.ntmps30
    go_wp2
    go_ret
    exact ⟨ret_str (by rw [HF.out]), Below.refl _ _⟩
  | false =>
    obtain ⟨ib, hib, hz0, hz1, hz2⟩ := info_parts infoStr
    obtain ⟨w4, hrun, hst, hgr⟩ := run_make_full (P := Tryz.prog) w w.heap.size 43 9 ib (.string ⟨#[]⟩) 1 Tryz.underlying43 hib hz0 hz1 .i64 .i64 n (by rw [hz2]; omega) (by unfold maxLen; omega) (Nat.le_refl _)
    go_enter Tryz.func30, Tryz.ntmps30
    go_wp2_with fail
    have B4 : Below w.heap.size w w4 := ⟨hgr.os, hgr.tape, hgr.output, hgr.size, fun k hk => hgr.block k hk (by simp)⟩
    rw [show Value.cells (.string ⟨#[]⟩) = #[.string ⟨#[]⟩] from rfl, toList_madeCells_one, Nat.mul_one] at hst
    have hst2 : w4.ownsRow w.heap.size 9 1 (.slice (some ⟨w.heap.size, 0, none⟩) n n) n ((rowT l n 0).map Value.string) := by simpa [rowT] using hst
    have hz4 := own_lt hst
    clear hrun hst hgr
    generalize hzz : w.heap.size = z at *
    have HZ := Lib.hid hzz
    clear hzz
    go_loopw [14] (fun i wq => ∃ m : Nat, m ≤ n ∧ i = .int .i64 m ∧ wq.ownsRow z 9 1 (.slice (some ⟨z, 0, none⟩) n n) n ((rowT l n m).map Value.string) ∧ Below z w4 wq ∧ z < wq.heap.size ∧ Hid (allT (l.take m) = true)) (fun i _ => n - (intOf i).toNat)
    case atStart => exact ⟨0, Nat.zero_le _, rfl, hst2, Below.refl _ _, hz4, rfl⟩
    case round =>
      clear hst2
      obtain ⟨m, hmk, rfl, hst, hbq, hzq, HR0⟩ := hrel
      have Bq : Below z w wr := B4.trans hbq
      by_cases hml : m < n
      · have hkl : m < l.length := by have := HL.out; omega
        obtain ⟨b0, o, rfl, hbb, hc⟩ := (HS.out.below Bq (Nat.le_refl _)) (by omega)
        obtain ⟨c0, c1⟩ := hc m hkl
        clear hc
        have hx := HM.out.at_ hkl
        have HRS := Lib.hid (rowT_set HL.out hkl)
        have HRA : Hid ((rowT l n m)[m]? = some ⟨#[]⟩) := rowT_at HL.out hml
        have HRT := Lib.hid (allT_take hkl)
        have HRN := Lib.hid (fun h => allT_at hkl h)
        obtain ⟨X, hX⟩ : ∃ X, Hid (l[m] = X) := ⟨l[m], rfl⟩
        rw [hX.out] at HRS HRT HRN c0 c1 hx
        clear hX
        obtain ⟨x, p⟩ := X
        simp only at c0 c1 hx HRT HRN
        have hbz : b0 < wr.heap.size := by omega
        have q1 : (m : Int) < (n : Int) := by omega
        have q2 : (0 : Int) ≤ (m : Int) := by omega
        have hxz : z ≠ wr.heap.size := by omega
        have e5 : Ext wr (wr.alloc (.cells #[.string x, .bool p] 27)) := (Below.refl _ _).alloc (Nat.le_refl _) _
        have own5 := Below.ownT hst e5
        have hT := fun W => text_any x p W hx
        have SC : ∀ W, Ext (wr.alloc (.cells #[.string x, .bool p] 27)) W → W.cell? ⟨z, m, none⟩ = some (.string ⟨#[]⟩) ∧ W.frozen? ⟨z, m, none⟩ = false := fun W e => by
          have o := Below.ownT own5 e
          refine ⟨?_, World.ownsRow.frozenAt o m⟩
          rw [World.ownsRow.cellAt o _ (by omega), List.getElem?_map, HRA.out]; rfl
        have HQ : Hid ((⟨(spellL (x, p)).toArray⟩ : ByteArray) = itemB (x, p)) := rfl
        have hem : (⟨(spellL (x, p)).toArray⟩ : ByteArray).toList.isEmpty = decide (spellL (x, p) = []) := ba_empty _
        generalize hsb : (⟨(spellL (x, p)).toArray⟩ : ByteArray) = sb at *
        clear hsb
        have HB := Lib.hid hbq
        have HH := Lib.hid hst
        clear hbq hst
        cases ho : okS x with
        | false =>
          have HD : Hid (txtD l false = []) := txtD_no (HRN.out ho)
          rw [show decide (spellL (x, p) = []) = true from by rw [spell_no ho]; rfl] at hem
          clear HRT HRN HRS HRA ho
          go_wp2_with (go_at_call 33; with_reducible refine (hT _).mono ?_; rintro e w7 ⟨rfl, hb7⟩; obtain ⟨y7, f7⟩ := SC _ hb7; have B7 := Bq.trans ((Ext.tr e5 hb7).mono (Nat.le_of_lt hzq)); clear hb7)
          go_ret
          exact ⟨ret_str (by rw [HD.out]), by rw [← HZ.out] at *; exact B7.setCell (Nat.le_refl _) _⟩
        | true =>
          have HRk : Hid (allT (l.take (m + 1)) = true) := by unfold Hid; rw [HRT.out, HR0.out, ho]; rfl
          rw [show decide (spellL (x, p) = []) = false from by simpa using spell_ne ho] at hem
          clear HRT HRN ho
          go_wp2_with (go_at_call 33; with_reducible refine (hT _).mono ?_; rintro e w7 ⟨rfl, hb7⟩; obtain ⟨y7, f7⟩ := SC _ hb7; have o7 := (World.ownsRow.stored (Below.ownT own5 hb7) m (.string sb)).1; have B7 := HB.out.trans ((Ext.tr e5 hb7).mono (Nat.le_of_lt hzq)); have z7 := hb7.size; simp only [World.size_alloc] at z7; clear hb7)
          rw [HQ.out, ← List.map_set, HRS.out] at o7
          have B8 : Below z w4 (w7.setCell ⟨z, m, none⟩ (.string (itemB (x, p)))) := B7.setCell (Nat.le_refl _) _
          have Z8 : z < (w7.setCell ⟨z, m, none⟩ (.string (itemB (x, p)))).heap.size := by simp; omega
          rw [← HQ.out] at o7 B8 Z8
          go_roundw
          case rel => exact ⟨m + 1, by omega, by go_num, o7, B8, Z8, HRk⟩
          case measure => simp [intOf]; omega
      · obtain rfl : m = n := by omega
        have HR : Hid (allT l = true) := by have := HR0.out; rwa [List.take_of_length_le (by have := HL.out; omega)] at this
        have HD : Hid (txtD l false = textsL l) := txtD_yes HR.out
        rw [rowT_end HL.out] at hst
        have hlen := textsL_len l
        have hjo : Lib.join ((l.map itemB).map (·.data.toList)) [44, 32] = textsL l := by
          rw [List.map_map, ← join_texts l]; rfl
        have hJ := Tryz.strings_Join z 0 m (l.map itemB) ⟨#[44, 32]⟩ wr (fun j x hj => by
          rw [Nat.zero_add, World.ownsRow.cellAt hst j (by have := (List.getElem?_eq_some_iff.1 hj).1; simp at this; have := HL.out; omega), List.getElem?_map, hj]; rfl) hzq (by simp; have := HL.out; omega) (by simp; have := HL.out; omega) (by
          show (Lib.join ((l.map itemB).map (·.data.toList)) [44, 32]).length ≤ _
          rw [hjo]; have := HL.out; omega)
        rw [List.length_map, HL.out] at hJ
        change Calls Tryz.prog 49 #[.slice (some ⟨z, 0, none⟩) m m, .string ⟨#[44, 32]⟩] wr fun e w' => e = .returned (.string ⟨(Lib.join ((l.map itemB).map (·.data.toList)) [44, 32]).toArray⟩) ∧ Below wr.heap.size wr w' at hJ
        rw [hjo] at hJ
        clear hst
        go_wp2_with (go_at_call 49; refine hJ.mono ?_; rintro e w9 ⟨rfl, hb9⟩; have B9 := Bq.trans (hb9.mono (Nat.le_of_lt hzq)))
        go_ret
        exact ⟨ret_str (by rw [HD.out]), by rw [← HZ.out] at *; exact B9⟩

theorem ba_app_list (S : ByteArray) (l m : List UInt8) (h : S = ⟨l.toArray⟩) : S ++ ⟨m.toArray⟩ = ⟨(l ++ m).toArray⟩ := by rw [h, ba_append]

set_option maxHeartbeats 8000000 in
set_option maxRecDepth 10000 in
theorem rtexts_any (A : Option Addr) (n c : Nat) (l : List Tg) (any : Bool) (w : World) (hn : l.length = n) (hm : n ≤ 400) (hM : Mx l) (hs : TgAt w w.heap.size A l) :
    Calls Tryz.prog 41 #[.slice A n c, .bool any] w fun e w' => e = .returned (.string ⟨(txtD l any).toArray⟩) ∧ Below w.heap.size w w' := by
  have HS := Lib.hid hs
  have HL := Lib.hid hn
  have HM := Lib.hid hM
  clear hs hn hM
  cases any with
  | true =>
    have HF : Hid (txtD l true = [42]) := rfl
    go_enter Tryz.func41, Tryz.ntmps41
    go_wp2
    go_ret
    exact ⟨ret_str (by rw [HF.out]), Below.refl _ _⟩
  | false =>
    go_enter Tryz.func41, Tryz.ntmps41
    go_wp2
    go_loopw [5, 6] (fun v i wr => ∃ (k : Nat) (S : ByteArray), k ≤ n ∧ i = .int .i64 k ∧ v = .string S ∧ Hid (S = ⟨(textsL (l.take k)).toArray⟩) ∧ Hid (allT (l.take k) = true) ∧ Below w.heap.size w wr) (fun _ i _ => n - (intOf i).toNat)
    case atStart => exact ⟨0, ⟨#[]⟩, Nat.zero_le _, rfl, rfl, rfl, rfl, Below.refl _ _⟩
    case round =>
      obtain ⟨k, S, hk, rfl, rfl, HS0, HR0, hbel⟩ := hrel
      have hsz : S.size ≤ 43000 := by
        rw [HS0.out, ba_size]
        have := textsL_len (l.take k)
        rw [List.length_take] at this; omega
      by_cases hlt : k < n
      · have hkl : k < l.length := by have := HL.out; omega
        obtain ⟨b0, o, rfl, hbb, hc⟩ := (HS.out.below hbel (Nat.le_refl _)) (by omega)
        obtain ⟨c0, c1⟩ := hc k hkl
        clear hc
        have hx := HM.out.at_ hkl
        have HRT := Lib.hid (allT_take hkl)
        have HRN := Lib.hid (fun h => allT_at hkl h)
        have HT : Hid (textsL (l.take (k + 1)) = if l.take k = [] then spellL l[k] else textsL (l.take k) ++ 44 :: 32 :: spellL l[k]) := by
          unfold Hid; rw [List.take_succ_eq_append_getElem hkl, textsL_snoc]
        obtain ⟨X, hX⟩ : ∃ X, Hid (l[k] = X) := ⟨l[k], rfl⟩
        rw [hX.out] at HRT HRN HT c0 c1 hx
        clear hX
        obtain ⟨x, p⟩ := X
        simp only at c0 c1 hx HRT HRN
        have hwz := hbel.size
        have hbz : b0 < wr.heap.size := by omega
        have hA := fun W => rright_any x p W hx
        have hT := fun W => rtext_any x p W hx
        cases ho : okS x with
        | false =>
          have HD : Hid (txtD l false = []) := txtD_no (HRN.out ho)
          rw [ho] at hA
          clear HRT HRN HT hT
          go_wp2_with (go_at_call 40; with_reducible refine (hA _).mono ?_; rintro e w1 ⟨rfl, hb1⟩; have B1 := Ext.tr hbel hb1; clear hb1)
          go_ret
          exact ⟨ret_str (by rw [HD.out]), B1⟩
        | true =>
          have HRk : Hid (allT (l.take (k + 1)) = true) := by unfold Hid; rw [HRT.out, HR0.out, ho]; rfl
          rw [ho] at hA
          have hss : (⟨(spellL (x, p)).toArray⟩ : ByteArray).size ≤ 104 := by rw [ba_size]; exact spell_len _
          clear HRT HRN ho
          by_cases hk0 : k = 0
          · subst hk0
            simp only [Nat.zero_mul, Nat.add_zero] at c0 c1
            have HN : Hid (S ++ ⟨(spellL (x, p)).toArray⟩ = ⟨(textsL (l.take (0 + 1))).toArray⟩) := by
              unfold Hid; rw [HS0.out, HT.out, List.take_zero, if_pos rfl, ba_append]; rfl
            generalize (⟨(spellL (x, p)).toArray⟩ : ByteArray) = sb at *
            clear HT
            go_wp2_with (first
              | (go_at_call 40; with_reducible refine (hA _).mono ?_; rintro e w1 ⟨rfl, hb1⟩; have k0 := hb1.cell (p := ⟨b0, o, none⟩) hbz; rw [c0] at k0; have k1 := hb1.cell (p := ⟨b0, o + 1, none⟩) hbz; rw [c1] at k1; have z1 : b0 < w1.heap.size := Nat.lt_of_lt_of_le hbz hb1.size)
              | (go_at_call 43; with_reducible refine (hT _).mono ?_; rintro e w2 ⟨rfl, hb2⟩; have B2 := Ext.tr hbel (Ext.tr hb1 hb2); clear hb1 hb2))
            go_roundw
            case rel => exact ⟨0 + 1, _, by omega, by go_num, rfl, HN, HRk, B2⟩
            case measure => simp [intOf]; omega
          · have HKE : Hid (¬ l.take k = []) := fun e => by have h3 : (l.take k).length = 0 := (by rw [e]; rfl); rw [List.length_take] at h3; omega
            have hgt : decide ((k : Int) > 0) = true := by simp; omega
            have HN : Hid (S ++ ⟨#[44, 32]⟩ ++ ⟨(spellL (x, p)).toArray⟩ = ⟨(textsL (l.take (k + 1))).toArray⟩) := by
              unfold Hid; rw [HS0.out, HT.out, if_neg HKE.out, show (⟨#[44, 32]⟩ : ByteArray) = ⟨[44, 32].toArray⟩ from rfl, ba_append, ba_append]; simp
            generalize (⟨(spellL (x, p)).toArray⟩ : ByteArray) = sb at *
            clear HT HKE
            go_wp2_with (first
              | (go_at_call 40; with_reducible refine (hA _).mono ?_; rintro e w1 ⟨rfl, hb1⟩; have k0 := hb1.cell (p := ⟨b0, o + k * 2, none⟩) hbz; rw [c0] at k0; have k1 := hb1.cell (p := ⟨b0, o + k * 2 + 1, none⟩) hbz; rw [c1] at k1; have z1 : b0 < w1.heap.size := Nat.lt_of_lt_of_le hbz hb1.size)
              | (go_at_call 43; with_reducible refine (hT _).mono ?_; rintro e w2 ⟨rfl, hb2⟩; have B2 := Ext.tr hbel (Ext.tr hb1 hb2); clear hb1 hb2))
            go_roundw
            case rel => exact ⟨k + 1, _, by omega, by go_num, rfl, HN, HRk, B2⟩
            case measure => simp [intOf]; omega
      · obtain rfl : k = n := by omega
        have e : l.take k = l := List.take_of_length_le (by have := HL.out; omega)
        rw [e] at HS0 HR0
        have HD : Hid (txtD l false = textsL l) := txtD_yes HR0.out
        clear e
        go_wp2_with fail
        go_ret
        exact ⟨ret_str (by rw [HD.out, HS0.out]), hbel⟩
end Go.Proofs.YtomcoacndppkcaaGreatDoor.T
