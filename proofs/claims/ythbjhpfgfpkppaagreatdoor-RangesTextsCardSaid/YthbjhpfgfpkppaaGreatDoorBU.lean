/-
  The reference's text of a set; span.Parse by one contract.
-/
import Derived.Test.YthbjhpfgfpkppaaGreatDoorBT
namespace Go.Proofs.YthbjhpfgfpkppaaGreatDoor
open Go Go.RowKit

theorem setL_snoc : ∀ (l : List Sp) (x : Sp), setL (l ++ [x]) = if l = [] then txL x else setL l ++ 44 :: txL x
  | [], x => by rw [if_pos rfl]; unfold setL; rw [List.nil_append, List.map_cons, List.map_nil, Lib.join_one]
  | [y], x => by
    rw [if_neg (by simp)]
    unfold setL
    rw [List.cons_append, List.nil_append, List.map_cons, List.map_cons, List.map_nil, join_more, Lib.join_one, List.map_cons, List.map_nil, Lib.join_one]
  | y :: z :: r, x => by
    have ih := setL_snoc (z :: r) x
    rw [if_neg (by simp)] at ih ⊢
    unfold setL at ih ⊢
    rw [List.cons_append, List.cons_append, List.map_cons, List.map_cons, join_more, ← List.map_cons, ← List.cons_append, ih, List.map_cons, List.map_cons, List.map_cons, join_more]
    simp

set_option maxHeartbeats 8000000 in
set_option maxRecDepth 10000 in
theorem rText_any (A : Option Addr) (n c : Nat) (l : List Sp) (w : World) (hn : l.length = n) (hm : n ≤ 2000) (hs : SpAt w w.heap.size A l) :
    Calls Tryz.prog 9 #[.slice A n c] w fun e w' => e = .returned (.string ⟨(setT l).toArray⟩) ∧ Below w.heap.size w w' := by
  have HS := Lib.hid hs
  have HL := Lib.hid hn
  clear hs hn
  by_cases h0 : n = 0
  · subst h0
    have HF : Hid (setT l = [110, 111, 110, 101]) := Lib.hid (by have := HL.out; unfold setT; rw [if_pos (List.eq_nil_of_length_eq_zero this)]; rfl)
    go_enter Tryz.func9, Tryz.ntmps9
    go_wp2
    go_ret
    exact ⟨ret_str (by rw [HF.out]), Below.refl _ _⟩
  · have hn0 : ((n : Int) == 0) = false := by rw [beq_eq_false_iff_ne]; omega
    have HD := Lib.hid (setT_yes (l := l) (by have := HL.out; omega))
    go_enter Tryz.func9, Tryz.ntmps9
    go_wp2
    go_loopw [3, 4] (fun v i wr => ∃ (k : Nat) (S : ByteArray), k ≤ n ∧ i = .int .i64 k ∧ v = .string S ∧ Hid (S = ⟨(setL (l.take k)).toArray⟩) ∧ Below w.heap.size w wr) (fun _ i _ => n - (intOf i).toNat)
    case atStart => exact ⟨0, ⟨#[]⟩, Nat.zero_le _, rfl, rfl, rfl, Below.refl _ _⟩
    case round =>
      obtain ⟨k, S, hk, rfl, rfl, HS0, hbel⟩ := hrel
      have hsz : S.size ≤ 100000 := by
        rw [HS0.out, ba_size]
        have := setL_len (l.take k)
        rw [List.length_take] at this; omega
      by_cases hlt : k < n
      · have hkl : k < l.length := by have := HL.out; omega
        obtain ⟨b0, o, rfl, hbb, hc⟩ := (HS.out.below hbel (Nat.le_refl _)) (by omega)
        obtain ⟨c0, c1⟩ := hc k hkl
        clear hc
        have HT : Hid (setL (l.take (k + 1)) = if l.take k = [] then txL l[k] else setL (l.take k) ++ 44 :: txL l[k]) := by
          unfold Hid; rw [List.take_succ_eq_append_getElem hkl, setL_snoc]
        obtain ⟨X, hX⟩ : ∃ X, Hid (l[k] = X) := ⟨l[k], rfl⟩
        rw [hX.out] at HT c0 c1
        clear hX
        obtain ⟨x, y⟩ := X
        simp only at c0 c1
        have hwz := hbel.size
        have hbz : b0 < wr.heap.size := by omega
        have hT := fun W => rtext_any x y W
        have hss : (⟨(textL x y).toArray⟩ : ByteArray).size ≤ 43 := by rw [ba_size]; exact textL_len
        by_cases hk0 : k = 0
        · subst hk0
          simp only [Nat.zero_mul, Nat.add_zero] at c0 c1
          have HN : Hid (S ++ ⟨(textL x y).toArray⟩ = ⟨(setL (l.take (0 + 1))).toArray⟩) := by
            unfold Hid; rw [HS0.out, HT.out, List.take_zero, if_pos rfl, ba_append]; rfl
          generalize (⟨(textL x y).toArray⟩ : ByteArray) = sb at *
          clear HT
          go_wp2_with (go_at_call 25; with_reducible refine (hT _).mono ?_; rintro e w2 ⟨rfl, hb2⟩; have B2 := Ext.tr hbel hb2; clear hb2)
          go_roundw
          case rel => exact ⟨0 + 1, _, by omega, by go_num, rfl, HN, B2⟩
          case measure => simp [intOf]; omega
        · have HKE : Hid (¬ l.take k = []) := fun e => by have h3 : (l.take k).length = 0 := (by rw [e]; rfl); rw [List.length_take] at h3; omega
          have hgt : decide ((k : Int) > 0) = true := by simp; omega
          have HN : Hid (S ++ ⟨#[44]⟩ ++ ⟨(textL x y).toArray⟩ = ⟨(setL (l.take (k + 1))).toArray⟩) := by
            unfold Hid; rw [HS0.out, HT.out, if_neg HKE.out, show (⟨#[44]⟩ : ByteArray) = ⟨[44].toArray⟩ from rfl, ba_append, ba_append]; simp [txL]
          generalize (⟨(textL x y).toArray⟩ : ByteArray) = sb at *
          clear HT HKE
          go_wp2_with (go_at_call 25; with_reducible refine (hT _).mono ?_; rintro e w2 ⟨rfl, hb2⟩; have B2 := Ext.tr hbel hb2; clear hb2)
          go_roundw
          case rel => exact ⟨k + 1, _, by omega, by go_num, rfl, HN, B2⟩
          case measure => simp [intOf]; omega
      · obtain rfl : k = n := by omega
        have e : l.take k = l := List.take_of_length_le (by have := HL.out; omega)
        rw [e] at HS0
        clear e
        go_wp2_with fail
        go_ret
        exact ⟨ret_str (by rw [HD.out, HS0.out]), hbel⟩

theorem piece_len : ∀ (s p : List UInt8), p ∈ pieces s → p.length ≤ s.length
  | [], p, h => by simp [pieces] at h; subst h; simp
  | x :: r, p, h => by
    unfold pieces at h
    by_cases hx : x = 44
    · rw [if_pos hx] at h
      rcases List.mem_cons.1 h with rfl | h
      · simp
      · have := piece_len r p h; simp; omega
    · rw [if_neg hx] at h
      have ih := piece_len r
      match hp : pieces r with
      | [] => exact absurd hp (pieces_ne r)
      | q :: t =>
        rw [hp] at h ih
        simp only at h
        rcases List.mem_cons.1 h with rfl | h
        · have := ih q (by simp); simp; omega
        · have := ih p (by simp [h]); simp; omega
/-- span.Parse of any text -/
theorem sparse_any (s : ByteArray) (w : World) (hL : LaidAt w) (hs : s.size ≤ 1000000) :
    Calls Tryz.prog 22 #[.string s] w fun e w' => e = .returned (resP (refP s.data.toList)) ∧ Below w.heap.size w w' := by
  cases h : refP s.data.toList with
  | some x =>
    obtain ⟨hr, ht⟩ := refP_some h
    obtain ⟨a, b⟩ := x
    have hp := parse_ok a b w hL hr
    have e : (⟨(textL a b).toArray⟩ : ByteArray) = s := by
      show (⟨(txL (a, b)).toArray⟩ : ByteArray) = s
      rw [ht]
    rw [e] at hp
    exact hp
  | none =>
    exact parse_no s w hL (by omega) fun a b hr e => by rw [e, refP_text hr] at h; cases h
end Go.Proofs.YthbjhpfgfpkppaaGreatDoor
