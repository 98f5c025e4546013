/-
  The walk of FieldBack.
-/
import Derived.Test.YtmlbinbhicdljaaDoorEP
import Derived.Test.YtmlbinbhicdljaaDoorGB
namespace Go.Proofs.YtmlbinbhicdljaaDoor
open Go Go.RowKit

theorem put_cases {l : List Fd} (hz : gsum l ≤ 12000) (hn : l.length ≤ 130) : (putD l = (⟨(blockL l).toArray⟩, 0) ∧ l.all rightD = true ∧ l.length ≤ 100) ∨ putD l = (⟨#[]⟩, 2) ∨ putD l = (⟨#[]⟩, 4) := by
  unfold putD
  by_cases h : l.all rightD = true
  · rw [if_pos h]
    by_cases h2 : 100 < l.length
    · rw [if_pos h2]; exact .inr (.inr rfl)
    · rw [if_neg h2, if_neg (by rw [blockL_len]; omega)]; exact .inl ⟨rfl, h, by omega⟩
  · rw [if_neg h]; exact .inr (.inl rfl)

set_option maxHeartbeats 8000000 in
set_option maxRecDepth 100000 in
theorem walk_FieldBack (A : Option Addr) (n c : Nat) (l : List Fd) (more : ByteArray) (k : Int) (w : World) (hmx : MxAt w) (hn : l.length = n) (hm : n ≤ maxLen) (hM : Mx l) (hs : FdAt w w.heap.size A l) (hmore : more.size ≤ szM) (wk : (Lit.int .u16 k).wf = true) :
    Calls Tryd.prog 9 #[.slice A n c, .string more, .int .u16 k] w fun e w' => e = .returned (.bool true) ∧ Below w.heap.size w w' := by
  obtain ⟨hk0, hk1⟩ : 0 ≤ k ∧ k ≤ 65535 := by simp only [Lit.wf, Bool.and_eq_true, decide_eq_true_eq] at wk; exact wk
  have HS := Lib.hid hs
  have HL := Lib.hid hn
  have HM := Lib.hid hM
  clear hs hn hM wk
  cases hg : greatD l with
  | true =>
    go_enter Tryd.func9, Tryd.ntmps9
    go_wp2_with fail
    with_reducible refine (alive_any _ hmx).mono ?_
    rintro e w1 ⟨rfl, hb1⟩
    go_wp2_with (go_at_call 12; with_reducible refine (great_any A n c l _ HL.out hm HM.out (HS.out.below hb1 hb1.size)).mono ?_; rintro e w2 ⟨rfl, hb2⟩; rw [hg])
    go_ret
    exact ⟨rfl, Ext.tr hb1 hb2⟩
  | false =>
    have HN := Lib.hid (not_great hg)
    have hX := fun W => xgreat_any (some ⟨W.heap.size, 0, none⟩) 1 1 [more] (W.alloc (.cells #[.string more] 9)) rfl (by unfold maxLen; omega) (by intro x hx; simp at hx; subst hx; exact hmore) (one_at W more)
    cases hg2 : xgreatD [more] with
    | true =>
      rw [hg2] at hX
      go_enter Tryd.func9, Tryd.ntmps9
      go_wp2_with fail
      with_reducible refine (alive_any _ hmx).mono ?_
      rintro e w1 ⟨rfl, hb1⟩
      go_wp2_with (first
        | (go_at_call 12; with_reducible refine (great_any A n c l _ HL.out hm HM.out (HS.out.below hb1 hb1.size)).mono ?_; rintro e w2 ⟨rfl, hb2⟩; rw [hg])
        | (go_at_call 13; with_reducible refine (hX _).mono ?_; rintro e w3 ⟨rfl, rfl⟩))
      go_ret
      exact ⟨rfl, (Ext.tr hb1 hb2).alloc (Ext.tr hb1 hb2).size _⟩
    | false =>
      rw [hg2] at hX
      have hmz : more.size ≤ 10000 := by
        have h := (not_xgreat hg2).2
        have h2 := xsum_at (l := [more]) (x := more) (by simp)
        omega
      have hnl : n ≤ 130 := by have := HN.out; have := HL.out; omega
      have hP := fun W (h : FdAt W W.heap.size A l) => put_any A n c l W HL.out hnl HN.out.2 h
      unfold putV at hP
      rcases put_cases HN.out.2 (by have := HN.out; omega) with ⟨hput, hall, hn100⟩ | hput | hput
      · rw [hput] at hP
        have hbz := blockL_len l
        have hbz2 : (blockL l).length ≤ 13000 := by have := HN.out; omega
        obtain ⟨sb, hsb⟩ : ∃ sb : ByteArray, Hid (sb = ⟨(blockL l).toArray⟩) := ⟨_, rfl⟩
        have hsz : sb.size = (blockL l).length := by rw [hsb.out, ba_size]
        have hsz2 : sb.size ≤ 13000 := by omega
        have hsz0 : 2 ≤ sb.size := by omega
        rw [← hsb.out] at hP
        have hcz : (sb ++ more).size ≤ 23000 := by rw [ByteArray.size_append]; omega
        have hpa : parseD (sb ++ more).data.toList = (l, sb.size, 0) := by
          unfold parseD
          have e : (sb ++ more).data.toList = blockL l ++ more.data.toList := by rw [ByteArray.data_append, Array.toList_append, hsb.out]
          rw [e, parse_block l _ 0 [] more.data.toList hall (by simp; omega) (by omega), List.nil_append, Nat.zero_add, hsz]
        have hA := fun W hW => parse_any (sb ++ more) W (by omega) hW
        unfold parseV at hA
        rw [hpa] at hA
        obtain ⟨r, hr, hrm⟩ : ∃ r : Nat, k.tmod (sb.size : Int) = r ∧ r < sb.size := by
          refine ⟨(k.tmod sb.size).toNat, ?_, ?_⟩
          · have := Int.tmod_nonneg (sb.size : Int) hk0; omega
          · have := Int.tmod_lt_of_pos k (show (0 : Int) < sb.size by omega); have := Int.tmod_nonneg (sb.size : Int) hk0; omega
        have hpc : parseD (sb.extract 0 r).data.toList = ([], 0, 3) := by
          unfold parseD
          have e : (sb.extract 0 r).data.toList = (blockL l).take r := by rw [ba_take, hsb.out]
          have hlt : decide (65536 < ((blockL l).take r).length) = false := by rw [decide_eq_false_iff_not, List.length_take]; omega
          rw [e, hlt, parse_cut l 0 [] r hall (by simp; omega) (by omega) (by omega)]
        have hB := fun W hW => parse_any (sb.extract 0 r) W (by rw [ByteArray.size_extract]; omega) hW
        unfold parseV at hB
        rw [hpc] at hB
        have hkw : IntKind.i64.wrap k = k := IntWalk.i64_in _ (by omega)
        have hrw : IntKind.i64.wrap (r : Int) = (r : Int) := IntWalk.i64_in _ (by omega)
        have b0 : ((sb.size : Int) = 0) = False := eq_false (by omega)
        have d0 : (0 : Int) ≤ (r : Int) := by omega
        have d1 : (r : Int) ≤ (sb.size : Int) := by omega
        have q1 : ((sb.size : Int) == (sb.size : Int)) = true := by simp
        have hl6 : l.length ≤ 1000000 := by omega
        clear hput hall hbz hbz2 hsb hsz hpa hpc
        go_enter Tryd.func9, Tryd.ntmps9
        go_wp2_with fail
        with_reducible refine (alive_any _ hmx).mono ?_
        rintro e w1 ⟨rfl, hb1⟩
        go_wp2_with (first
          | (go_at_call 12; with_reducible refine (great_any A n c l _ HL.out hm HM.out (HS.out.below hb1 hb1.size)).mono ?_; rintro e w2 ⟨rfl, hb2⟩; rw [hg]; have B2 := (Ext.tr hb1 hb2).alloc (Ext.tr hb1 hb2).size (.cells #[.string more] 9))
          | (go_at_call 13; with_reducible refine (hX _).mono ?_; rintro e w2' ⟨rfl, rfl⟩)
          | (go_at_call 30; with_reducible refine (hP _ (HS.out.below B2 B2.size)).mono ?_; rintro e w3 ⟨rfl, hb3⟩; have B3 := Ext.tr B2 hb3; have hm3 := hmx.ext B3 (Nat.le_refl _); clear hb3 hP)
          | (go_at_call 32; with_reducible refine (hA _ hm3).mono ?_; rintro e w4 ⟨v4, rfl, hown4, hb4⟩; have B4 := Ext.tr B3 hb4; have hm4 := hmx.ext B4 (Nat.le_refl _); obtain ⟨A4, n4, c4, hv4, HN4, hc4, hf4⟩ := (IsFd.own hown4).split; subst hv4; have HF4 := Lib.hid hf4; clear hA hown4 hf4 hb4)
          | (go_at_call 32; with_reducible refine (hB _ hm4).mono ?_; rintro e w5 ⟨v5, rfl, -, hb5⟩; have B5 := Ext.tr B4 hb5; have hQ := rsame_any A4 A n4 n c4 c l l w5 HN4.out HL.out (by have := HN4.out; omega) (HF4.out.below hb5 hb5.size) (HS.out.below B5 B5.size); rw [sameF_t rfl] at hQ; clear hB)
          | (go_at_call 19; with_reducible refine hQ.mono ?_; rintro e w6 ⟨rfl, hb6⟩))
        go_ret
        exact ⟨rfl, Ext.tr B5 hb6⟩
      · rw [hput] at hP
        clear hput
        go_enter Tryd.func9, Tryd.ntmps9
        go_wp2_with fail
        with_reducible refine (alive_any _ hmx).mono ?_
        rintro e w1 ⟨rfl, hb1⟩
        go_wp2_with (first
          | (go_at_call 12; with_reducible refine (great_any A n c l _ HL.out hm HM.out (HS.out.below hb1 hb1.size)).mono ?_; rintro e w2 ⟨rfl, hb2⟩; rw [hg]; have B2 := (Ext.tr hb1 hb2).alloc (Ext.tr hb1 hb2).size (.cells #[.string more] 9))
          | (go_at_call 13; with_reducible refine (hX _).mono ?_; rintro e w2' ⟨rfl, rfl⟩)
          | (go_at_call 30; with_reducible refine (hP _ (HS.out.below B2 B2.size)).mono ?_; rintro e w3 ⟨rfl, hb3⟩))
        go_ret
        exact ⟨rfl, Ext.tr B2 hb3⟩
      · rw [hput] at hP
        clear hput
        go_enter Tryd.func9, Tryd.ntmps9
        go_wp2_with fail
        with_reducible refine (alive_any _ hmx).mono ?_
        rintro e w1 ⟨rfl, hb1⟩
        go_wp2_with (first
          | (go_at_call 12; with_reducible refine (great_any A n c l _ HL.out hm HM.out (HS.out.below hb1 hb1.size)).mono ?_; rintro e w2 ⟨rfl, hb2⟩; rw [hg]; have B2 := (Ext.tr hb1 hb2).alloc (Ext.tr hb1 hb2).size (.cells #[.string more] 9))
          | (go_at_call 13; with_reducible refine (hX _).mono ?_; rintro e w2' ⟨rfl, rfl⟩)
          | (go_at_call 30; with_reducible refine (hP _ (HS.out.below B2 B2.size)).mono ?_; rintro e w3 ⟨rfl, hb3⟩))
        go_ret
        exact ⟨rfl, Ext.tr B2 hb3⟩
end Go.Proofs.YtmlbinbhicdljaaDoor
