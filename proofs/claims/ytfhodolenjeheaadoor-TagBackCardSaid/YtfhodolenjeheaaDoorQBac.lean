/-
  The walk of TagBack.
-/
import Derived.Test.YtfhodolenjeheaaDoorTP
import Derived.Test.YtfhodolenjeheaaDoorTX
namespace Go.Proofs.YtfhodolenjeheaaDoor
open Go Go.RowKit

theorem txt_size (l : List Tg) (hn : l.length ≤ 400) : (⟨(txtD l false).toArray⟩ : ByteArray).size ≤ 1000000 := by
  rw [ba_size]
  unfold txtD
  have := textsL_len l
  split
  · simp
  · split
    · omega
    · simp
theorem parse_no {s : ByteArray} {q : Bool} (h : okS s = false) : parseV (⟨(spellL (s, q)).toArray⟩ : ByteArray).data.toList = .tuple #[.agg #[.string ⟨#[]⟩, .bool false], .int .i64 2] := by
  rw [ba_list, spell_no h]; kernel_rfl
theorem parse_yes {s : ByteArray} {q : Bool} (h : okS s = true) : parseV (⟨(spellL (s, q)).toArray⟩ : ByteArray).data.toList = .tuple #[.agg #[.string s, .bool q], .int .i64 0] := by
  rw [ba_list]
  unfold parseV
  rw [parse_spell h]; rfl

set_option maxHeartbeats 16000000 in
set_option maxRecDepth 10000 in
theorem walk_TagBack (A : Option Addr) (n c : Nat) (l : List Tg) (w : World) (hn : l.length = n) (hm : n ≤ maxLen) (hM : Mx l) (hs : TgAt w w.heap.size A l) :
    Calls Tryd.prog 6 #[.slice A n c] w fun e w' => e = .returned (.bool true) ∧ Below w.heap.size w w' := by
  have HS := Lib.hid hs
  have HL := Lib.hid hn
  have HM := Lib.hid hM
  clear hs hn hM
  by_cases hg : greatD l = true
  · have HGR : Hid (greatD l = true) := hg
    clear hg
    go_enter Tryd.func6, Tryd.ntmps6
    go_wp2_with fail
    with_reducible refine (awake_any _).mono ?_
    rintro e w1 ⟨rfl, hb1⟩
    go_wp2_with (first
      | (go_at_call 15; with_reducible refine (great_any A n c l _ HL.out hm HM.out (HS.out.below hb1 hb1.size)).mono ?_; rintro e w1' ⟨rfl, rfl⟩; rw [HGR.out])
      | (go_at_call 10; with_reducible refine (awake_any _).mono ?_; rintro e w2 ⟨rfl, hb2⟩))
    go_ret
    exact ⟨rfl, Ext.tr hb1 hb2⟩
  have HGR : Hid (greatD l = false) := Bool.eq_false_iff.2 hg
  have hgs : gsum l ≤ 400 := by have := HGR.out; unfold greatD at this; simpa using this
  have hn4 : n ≤ 400 := by have := gsum_len l; have := HL.out; omega
  clear hg hgs
  have HTX : Hid (∀ (B : Option Addr) (k d : Nat) (W : World), l.length = k → TgAt W W.heap.size B l → Calls Tryd.prog 18 #[.slice B k d, .bool false] W fun e w' => e = .returned (.string ⟨(txtD l false).toArray⟩) ∧ Below W.heap.size W w') := fun B k d W h1 h2 => texts_any B k d l false W h1 (by have := HL.out; omega) HM.out h2
  go_enter Tryd.func6, Tryd.ntmps6
  go_wp2_with fail
  with_reducible refine (awake_any _).mono ?_
  rintro e w1 ⟨rfl, hb1⟩
  go_wp2_with (go_at_call 15; with_reducible refine (great_any A n c l _ HL.out hm HM.out (HS.out.below hb1 hb1.size)).mono ?_; rintro e w1' ⟨rfl, rfl⟩; rw [HGR.out])
  go_loopw [20] (fun i wr => ∃ k : Nat, k ≤ n ∧ i = .int .i64 k ∧ Hid (allT (l.take k) = true) ∧ Below w.heap.size w wr) (fun i _ => n - (intOf i).toNat)
  case atStart => exact ⟨0, Nat.zero_le _, rfl, rfl, hb1⟩
  case round =>
    clear hb1
    obtain ⟨k, hk, rfl, HG, hbel⟩ := hrel
    by_cases hlt : k < n
    · have hkl : k < l.length := by have := HL.out; omega
      obtain ⟨b, o, rfl, hb, hc⟩ := (HS.out.below hbel (Nat.le_refl _)) (by omega)
      obtain ⟨c0, c1⟩ := hc k hkl
      clear hc
      have hx := HM.out.at_ hkl
      have HT := Lib.hid (allT_take hkl)
      have HN := Lib.hid (fun h => allT_at hkl h)
      obtain ⟨X, hX⟩ : ∃ X, Hid (l[k] = X) := ⟨l[k], rfl⟩
      rw [hX.out] at HT HN c0 c1 hx
      clear hX
      obtain ⟨x, p⟩ := X
      simp only at c0 c1 hx HT HN
      have hbz : b < wr.heap.size := by have := hbel.size; omega
      have hTx := fun W => text_any x p W hx
      have hsz : (⟨(spellL (x, p)).toArray⟩ : ByteArray).size ≤ szM := by rw [ba_size]; have := spell_len (x, p); unfold szM; omega
      have hPa := fun W => parse_any ⟨(spellL (x, p)).toArray⟩ W hsz
      have hR := fun W => rright_any x p W hx
      cases ho : okS x with
      | false =>
        have HF : Hid (txtD l false = []) := txtD_no (HN.out ho)
        rw [ho] at hR
        rw [parse_no ho] at hPa
        clear HT HN HG
        generalize (⟨(spellL (x, p)).toArray⟩ : ByteArray) = sb at *
        go_wp2_with (first
      | (go_at_call 16; with_reducible refine (hTx _).mono ?_; rintro e w3 ⟨rfl, hb3⟩)
      | (go_at_call 11; with_reducible refine (hPa _).mono ?_; rintro e w4 ⟨rfl, hb4⟩; have C4 := hb3.trans (hb4.mono hb3.size); obtain ⟨k0, k1, -, -, kz, -⟩ := one_cells C4; have kz' : wr.heap.size < w4.heap.size + 1 := (by omega))
      | (go_at_call 14; first
          | (have _t := tok6; with_reducible refine (hR _).mono ?_; rintro e w6 ⟨rfl, hb6⟩; have C6 := C5.trans (hb6.mono C5.size); obtain ⟨q0, q1, -, -, qz, E6⟩ := one_cells C6; have B6 := Ext.tr hbel E6; clear hb6; have BA : Below w.heap.size w (w6.alloc (.cells #[] 23)) := B6.alloc B6.size _; have HTA := HS.out.below BA BA.size; have HOA : OwnT (w6.alloc (.cells #[] 23)) w.heap.size (.slice (some ⟨w6.heap.size, 0, none⟩) 0 0) [] := OwnT.nil_at w6 _ B6.size)
          | (with_reducible refine (hR _).mono ?_; rintro e w5 ⟨rfl, hb5⟩; have e5 : Ext w4 w5 := Ext.tr ((Below.refl _ _).alloc (Nat.le_refl _) _) hb5; have C5 := C4.trans (e5.mono C4.size); obtain ⟨m0, m1, -, -, mz, -⟩ := one_cells C5; obtain ⟨n0, n1, -, -, nz, -⟩ := one_cells hb5; clear hb5; have tok6 : True := trivial))
      | (at_builtin; have _t := BA; refine app_tags _ (by rfl) _ _ (by rfl) w.heap.size _ [] l (by rfl) HOA _ (some ⟨b, o, none⟩) c (by rw [HL.out]; rfl) HTA (by have := HL.out; simp; omega) BA.size ?_; intro v7 w7 hown7 hgrow; have B7 : Below w.heap.size w w7 := below_app_same BA BA.size HOA hgrow; clear hgrow HOA HTA; rw [List.nil_append] at hown7))
        obtain ⟨A7, n7, c7, rfl, HN7, hc7, hs7⟩ := (IsTg.own hown7).split
        have hTX := HTX.out A7 n7 c7 w7 HN7.out hs7
        rw [HF.out, show (⟨([] : List UInt8).toArray⟩ : ByteArray) = ⟨#[]⟩ from rfl] at hTX
        go_wp2_with (go_at_call 18; with_reducible refine hTX.mono ?_; rintro e w8 ⟨rfl, hb8⟩; have B8 := Ext.tr B7 hb8)
        go_ret
        exact ⟨rfl, B8⟩
      | true =>
        have HK : Hid (allT (l.take (k + 1)) = true) := by unfold Hid; rw [HT.out, HG.out, ho]; rfl
        rw [ho] at hR
        rw [parse_yes ho] at hPa
        clear HT HN HG
        have u1 : (x.toList == x.toList) = true := by simp
        have u2 : (p == p) = true := by simp
        generalize (⟨(spellL (x, p)).toArray⟩ : ByteArray) = sb at *
        go_wp2_with (first
      | (go_at_call 16; with_reducible refine (hTx _).mono ?_; rintro e w3 ⟨rfl, hb3⟩)
      | (go_at_call 11; with_reducible refine (hPa _).mono ?_; rintro e w4 ⟨rfl, hb4⟩; have C4 := hb3.trans (hb4.mono hb3.size); obtain ⟨k0, k1, -, -, kz, -⟩ := one_cells C4; have kz' : wr.heap.size < w4.heap.size + 1 := (by omega))
      | (go_at_call 14; first
          | (have _t := tok6; with_reducible refine (hR _).mono ?_; rintro e w6 ⟨rfl, hb6⟩; have C6 := C5.trans (hb6.mono C5.size); obtain ⟨q0, q1, -, -, qz, E6⟩ := one_cells C6; have B6 := Ext.tr hbel E6; clear hb6)
          | (with_reducible refine (hR _).mono ?_; rintro e w5 ⟨rfl, hb5⟩; have e5 : Ext w4 w5 := Ext.tr ((Below.refl _ _).alloc (Nat.le_refl _) _) hb5; have C5 := C4.trans (e5.mono C4.size); obtain ⟨m0, m1, -, -, mz, -⟩ := one_cells C5; obtain ⟨n0, n1, -, -, nz, -⟩ := one_cells hb5; clear hb5; have tok6 : True := trivial)))
        go_roundw
        case rel => exact ⟨k + 1, by omega, by go_num, HK, B6⟩
        case measure => simp [intOf]; omega
    · obtain rfl : k = n := by omega
      have HR : Hid (allT l = true) := by have h := HG.out; rwa [List.take_of_length_le (by have := HL.out; omega)] at h
      have HF : Hid (txtD l false = textsL l) := txtD_yes HR.out
      have htz := txt_size l (by have := HL.out; omega)
      rw [HF.out] at htz
      have HLI : Hid (∀ (m : List Tg) (E : Int), listD (textsL l) = (m, false, E) → ∀ W, Calls Tryd.prog 20 #[.string ⟨(textsL l).toArray⟩] W fun e w' => ∃ v, e = .returned (.tuple #[v, .bool false, .int .i64 E]) ∧ IsTg w' v m ∧ Below W.heap.size W w') := fun m E h W => by
        have h2 := plist_any ⟨(textsL l).toArray⟩ W htz
        unfold ListPost at h2
        rw [ba_list, h] at h2
        exact h2
      clear HG
      have BA : Below w.heap.size w (wr.alloc (.cells #[] 23)) := hbel.alloc hbel.size _
      have HTA := HS.out.below BA BA.size
      have HOA : OwnT (wr.alloc (.cells #[] 23)) w.heap.size (.slice (some ⟨wr.heap.size, 0, none⟩) 0 0) [] := OwnT.nil_at wr _ hbel.size
      go_wp2_with (at_builtin; refine app_tags _ (by rfl) _ _ (by rfl) w.heap.size _ [] l (by rfl) HOA _ A c (by rw [HL.out]; rfl) HTA (by have := HL.out; simp; omega) BA.size ?_; intro v7 w7 hown7 hgrow; have B7 : Below w.heap.size w w7 := below_app_same BA BA.size HOA hgrow; clear hgrow HOA HTA; rw [List.nil_append] at hown7)
      obtain ⟨A7, n7, c7, rfl, HN7, hc7, hs7⟩ := (IsTg.own hown7).split
      have hTX := HTX.out A7 n7 c7 w7 HN7.out hs7
      rw [HF.out] at hTX
      clear hown7 hs7
      go_wp2_with (go_at_call 18; with_reducible refine hTX.mono ?_; rintro e w8 ⟨rfl, hb8⟩; have B8 := Ext.tr B7 hb8)
      clear hTX
      by_cases h0 : k = 0
      · have hl0 : l = [] := List.eq_nil_of_length_eq_zero (by rw [HL.out]; exact h0)
        have hLI := HLI.out [] 2 (by rw [hl0]; exact list_none)
        have hk0 : ((k : Int) == 0) = true := beqi_t (by omega)
        clear hl0 h0
        go_wp2_with (go_at_call 20; with_reducible refine (hLI _).mono ?_; rintro e w9 ⟨v9, rfl, -, hb9⟩; have B9 := Ext.tr B8 hb9)
        go_ret
        exact ⟨rfl, B9⟩
      · have hk0 : ((k : Int) == 0) = false := beqi_f (by omega)
        have hlt2 := list_texts (l := l) (fun e => h0 (by rw [← HL.out, e]; rfl)) HR.out
        by_cases h64 : 64 < k
        · rw [if_pos (by rw [HL.out]; exact h64)] at hlt2
          have hLI := HLI.out _ _ hlt2
          clear hlt2
          go_wp2_with (go_at_call 20; with_reducible refine (hLI _).mono ?_; rintro e w9 ⟨v9, rfl, -, hb9⟩; have B9 := Ext.tr B8 hb9)
          go_ret
          exact ⟨rfl, B9⟩
        · rw [if_neg (by rw [HL.out]; exact h64)] at hlt2
          have hLI := HLI.out _ _ hlt2
          clear hlt2
          go_wp2_with (go_at_call 20; with_reducible refine (hLI _).mono ?_; rintro e w9 ⟨v9, rfl, hsp9, hb9⟩; have B9 := Ext.tr B8 hb9; obtain ⟨A9, n9, c9, rfl, HN9, -, hs9⟩ := hsp9.split)
          have h3 := rsame_any A9 A n9 k c9 c l l w9 HN9.out HL.out (by have := HN9.out; have := HL.out; omega) hs9 (HS.out.below B9 B9.size)
          rw [sameT_t rfl] at h3
          go_wp2_with (go_at_call 22; with_reducible refine h3.mono ?_; rintro e w10 ⟨rfl, hb10⟩; have B10 := Ext.tr B9 hb10)
          go_ret
          exact ⟨rfl, B10⟩
end Go.Proofs.YtfhodolenjeheaaDoor
