/-
  Parse of the program and of the reference.
-/
import Derived.Test.YtomcoacndppkcaaGreatDoorTH
namespace Go.Proofs.YtomcoacndppkcaaGreatDoor.T
open Go Go.RowKit

def errD (ok : Bool) : Int := if ok then 0 else 2
abbrev parseV (s : List UInt8) : Value := .tuple #[.agg #[.string (readL (trimB s)).1.1, .bool (readL (trimB s)).1.2], .int .i64 (errD (readL (trimB s)).2)]
theorem readL_zero (l : List UInt8) (h : (readL l).2 = false) : (readL l).1 = (⟨#[]⟩, false) := by
  unfold readL at h ⊢
  split at h
  · cases h
  · rename_i h0; rw [if_neg h0]
theorem trimB_size (l : List UInt8) : (⟨(Lib.trimS l [32, 9]).toArray⟩ : ByteArray).size ≤ l.length := by
  rw [ba_size]; exact trimS_len _ _

/-- a block of a call with a tag that is none's, and what came behind -/
theorem one_cells {w W : World} {s : ByteArray} {p : Bool} (h : Below (w.alloc (.cells #[.string s, .bool p] 27)).heap.size (w.alloc (.cells #[.string s, .bool p] 27)) W) :
    W.cell? ⟨w.heap.size, 0, none⟩ = some (.string s) ∧ W.cell? ⟨w.heap.size, 1, none⟩ = some (.bool p) ∧ W.frozen? ⟨w.heap.size, 0, none⟩ = false ∧ W.frozen? ⟨w.heap.size, 1, none⟩ = false ∧ w.heap.size < W.heap.size ∧ Ext w W := by
  have hz := h.size
  simp only [World.size_alloc] at hz
  refine ⟨?_, ?_, ?_, ?_, by omega, Ext.tr ((Below.refl _ _).alloc (Nat.le_refl _) _) h⟩
  · rw [h.cell (p := ⟨w.heap.size, 0, none⟩) (by simp)]; simp
  · rw [h.cell (p := ⟨w.heap.size, 1, none⟩) (by simp)]; simp
  · rw [h.frozen (p := ⟨w.heap.size, 0, none⟩) (by simp)]; simp
  · rw [h.frozen (p := ⟨w.heap.size, 1, none⟩) (by simp)]; simp

set_option maxHeartbeats 4000000 in
theorem parse_any (s : ByteArray) (w : World) (hs : s.size ≤ szM) :
    Calls Tryz.prog 52 #[.string s] w fun e w' => e = .returned (parseV s.data.toList) ∧ Below w.heap.size w w' := by
  have htr := fun W => trimx_any s W hs
  have hts := trimB_size s.data.toList
  rw [← Lib.size_eq] at hts
  have hrd := fun W => read_any ⟨(Lib.trimS s.data.toList [32, 9]).toArray⟩ W (by omega)
  have hzr := readL_zero (Lib.trimS s.data.toList [32, 9])
  simp only at hrd
  unfold parseV
  generalize (⟨(Lib.trimS s.data.toList [32, 9]).toArray⟩ : ByteArray) = tb at *
  generalize readL (Lib.trimS s.data.toList [32, 9]) = D at *
  obtain ⟨⟨x, k⟩, ok⟩ := D
  simp only at hrd hzr ⊢
  cases ok with
  | false =>
    obtain ⟨rfl, rfl⟩ : x = ⟨#[]⟩ ∧ k = false := by have := hzr rfl; injection this with h1 h2; exact ⟨h1, h2⟩
    go_enter Tryz.func52, Tryz.ntmps52
    go_wp2_with (first
      | (go_at_call 70; with_reducible refine (htr _).mono ?_; rintro e w1 ⟨rfl, hb1⟩; have c1 := one_cells hb1)
      | (go_at_call 72; with_reducible refine (hrd _).mono ?_; rintro e w2 ⟨rfl, hb2⟩; obtain ⟨k0, k1, f0, f1, lz, B2⟩ := one_cells (hb1.trans (hb2.mono hb1.size))))
    exact bodyPost_ret (v := .tuple #[.agg #[.string ⟨#[]⟩, .bool false], .int .i64 2]) (by simp [results, Tryz.results52, go_sem, k0, k1, lz]) rfl ⟨rfl, by go_grown⟩
  | true =>
    go_enter Tryz.func52, Tryz.ntmps52
    go_wp2_with (first
      | (go_at_call 70; with_reducible refine (htr _).mono ?_; rintro e w1 ⟨rfl, hb1⟩; have c1 := one_cells hb1)
      | (go_at_call 72; with_reducible refine (hrd _).mono ?_; rintro e w2 ⟨rfl, hb2⟩; obtain ⟨k0, k1, f0, f1, lz, B2⟩ := one_cells (hb1.trans (hb2.mono hb1.size))))
    exact bodyPost_ret (v := .tuple #[.agg #[.string x, .bool k], .int .i64 0]) (by simp [results, Tryz.results52, go_sem, k0, k1, lz]) rfl ⟨rfl, by go_grown⟩

set_option maxHeartbeats 8000000 in
theorem rparse_any (s : ByteArray) (w : World) (hs : s.size ≤ 1000000) :
    Calls Tryz.prog 25 #[.string s] w fun e w' => e = .returned (parseV s.data.toList) ∧ Below w.heap.size w w' := by
  have htr := fun W => rtrim_any s W hs
  have hts := trimB_size s.data.toList
  rw [← Lib.size_eq] at hts
  unfold parseV
  have htl : (⟨(Lib.trimS s.data.toList [32, 9]).toArray⟩ : ByteArray).data.toList = Lib.trimS s.data.toList [32, 9] := rfl
  unfold trimB
  rw [← htl]
  generalize (⟨(Lib.trimS s.data.toList [32, 9]).toArray⟩ : ByteArray) = tb at *
  obtain ⟨D, HD⟩ : ∃ D, Hid (readL tb.data.toList = D) := ⟨readL tb.data.toList, rfl⟩
  have HE0 : Hid (D = if quL (Lib.trimPrefix tb.data.toList [87, 47]) = true ∧ okT (midL (Lib.trimPrefix tb.data.toList [87, 47])) = true then ((⟨(midL (Lib.trimPrefix tb.data.toList [87, 47])).toArray⟩, Lib.hasPrefix tb.data.toList [87, 47]), true) else ((⟨#[]⟩, false), false)) := by
    unfold Hid; rw [← HD.out]; rfl
  rw [HD.out]
  clear HD htl
  have hraw := Lib.hasPrefix_raw tb ⟨#[87, 47]⟩
  have hmiss := Lib.trimPrefix_miss tb ⟨#[87, 47]⟩
  have hhit := Lib.trimPrefix_hit tb ⟨#[87, 47]⟩
  have hp2 : (⟨#[87, 47]⟩ : ByteArray).size = 2 := rfl
  have hpl : (⟨#[87, 47]⟩ : ByteArray).data.toList = [87, 47] := rfl
  have hpt : (⟨#[87, 47]⟩ : ByteArray).toList = [87, 47] := by rw [ByteArray.toList_eq]
  rw [hp2, hpl, hpt] at hraw hmiss hhit
  clear hp2 hpl hpt
  by_cases h2 : tb.size < 2
  · have hno : Lib.trimPrefix tb.data.toList [87, 47] = tb.data.toList := by
      have h := hmiss (by simp; omega)
      rw [← ba_list (Lib.trimPrefix _ _), h]
    have HF : Hid (D = ((⟨#[]⟩, false), false)) := by unfold Hid; rw [HE0.out, hno, if_neg (fun h => qu_small h2 h.1)]
    clear hraw hmiss hhit HE0 hno
    rw [HF.out]
    go_enter Tryz.func25, Tryz.ntmps25
    go_wp2_with (go_at_call 57; with_reducible refine (htr _).mono ?_; rintro e w1 ⟨rfl, rfl⟩)
    exact bodyPost_ret (v := .tuple #[.agg #[.string ⟨#[]⟩, .bool false], .int .i64 2]) (by simp [results, Tryz.results25, go_sem]) rfl ⟨rfl, by go_grown⟩
  · have hge : 2 ≤ tb.size := by omega
    have hdt : decide (2 ≤ tb.size) = true := by simpa using hge
    rw [hdt, Bool.true_and] at hraw hmiss
    cases hpre : ((tb.extract 0 2).toList == [87, 47]) with
    | false =>
      rw [hpre] at hraw
      have hno : Lib.trimPrefix tb.data.toList [87, 47] = tb.data.toList := by
        have h := hmiss hpre
        rw [← ba_list (Lib.trimPrefix _ _), h]
      have HE : Hid (D = if quL tb.data.toList = true ∧ okT (midL tb.data.toList) = true then ((⟨(midL tb.data.toList).toArray⟩, false), true) else ((⟨#[]⟩, false), false)) := by
        unfold Hid; rw [HE0.out, hno, ← hraw]
      clear hraw hmiss hhit HE0 hno hdt
      obtain ⟨n, hn⟩ : ∃ n : Nat, tb.size = n + 2 := ⟨tb.size - 2, by omega⟩
      have hl0 : 0 < tb.size := by omega
      have hl1 : n + 1 < tb.size := by omega
      have d1 : IntKind.i64.wrap ((tb.size : Int) - 1) = ((n + 1 : Nat) : Int) := by rw [IntWalk.i64_in _ (by omega)]; omega
      have hqu := qu_iff hn
      by_cases g0 : tb[0].toNat = 34
      · by_cases g1 : (tb[n + 1]'hl1).toNat = 34
        · have hm := mid_list hn
          have HE2 : Hid (D = if okT (midL tb.data.toList) = true then ((tb.extract 1 (n + 1), false), true) else ((⟨#[]⟩, false), false)) := by
            unfold Hid; rw [HE.out, ← hm, ba_eta]
            by_cases ho : okT (tb.extract 1 (n + 1)).data.toList = true
            · rw [if_pos ⟨hqu.2 ⟨g0, g1⟩, ho⟩, if_pos ho]
            · rw [if_neg (fun h => ho h.2), if_neg ho]
          have b0 : ((tb[0].toNat : Int) != 34) = false := by rw [bne_eq_false_iff_eq]; omega
          have b1 : (((tb[n + 1]'hl1).toNat : Int) != 34) = false := by rw [bne_eq_false_iff_eq]; omega
          have c0 : ((1 : Nat) : Int) ≤ ((n + 1 : Nat) : Int) := by omega
          have c1 : ((n + 1 : Nat) : Int) ≤ (tb.size : Int) := by omega
          have hR := fun W => rright_any (tb.extract 1 (n + 1)) false W (szM_max (by rw [ByteArray.size_extract]; unfold szM; omega))
          unfold okS at hR
          rw [hm] at hR
          clear HE hqu hm g0 g1
          cases ho : okT (midL tb.data.toList) with
          | false =>
            have HF : Hid (D = ((⟨#[]⟩, false), false)) := by unfold Hid; rw [HE2.out, ho]; rfl
            rw [ho] at hR
            clear HE2 ho
            rw [HF.out]
            go_enter Tryz.func25, Tryz.ntmps25
            go_wp2_with (first
              | (go_at_call 57; with_reducible refine (htr _).mono ?_; rintro e w1 ⟨rfl, rfl⟩)
              | (go_at_call 40; with_reducible refine (hR _).mono ?_; rintro e w4 ⟨rfl, hb4⟩; obtain ⟨k0, k1, k2, k3, l1, l2, B1⟩ := cells2 hb4; obtain ⟨f0, f1, f2, f3⟩ := cells2f hb4))
            exact bodyPost_ret (v := .tuple #[.agg #[.string ⟨#[]⟩, .bool false], .int .i64 2]) (by simp [results, Tryz.results25, go_sem, k0, k1]) rfl ⟨rfl, by go_grown⟩
          | true =>
            have HF : Hid (D = ((tb.extract 1 (n + 1), false), true)) := by unfold Hid; rw [HE2.out, ho]; rfl
            rw [ho] at hR
            clear HE2 ho
            rw [HF.out]
            go_enter Tryz.func25, Tryz.ntmps25
            go_wp2_with (first
              | (go_at_call 57; with_reducible refine (htr _).mono ?_; rintro e w1 ⟨rfl, rfl⟩)
              | (go_at_call 40; with_reducible refine (hR _).mono ?_; rintro e w4 ⟨rfl, hb4⟩; obtain ⟨k0, k1, k2, k3, l1, l2, B1⟩ := cells2 hb4; obtain ⟨f0, f1, f2, f3⟩ := cells2f hb4))
            exact bodyPost_ret (v := .tuple #[.agg #[.string (tb.extract 1 (n + 1)), .bool false], .int .i64 0]) (by simp [results, Tryz.results25, go_sem, k0, k1]) rfl ⟨rfl, by go_grown⟩
        · have HF : Hid (D = ((⟨#[]⟩, false), false)) := by unfold Hid; rw [HE.out, if_neg (fun h => g1 (hqu.1 h.1).2)]
          have b0 : ((tb[0].toNat : Int) != 34) = false := by rw [bne_eq_false_iff_eq]; omega
          have b1 : (((tb[n + 1]'hl1).toNat : Int) != 34) = true := by rw [bne_iff_ne]; omega
          clear HE hqu
          rw [HF.out]
          go_enter Tryz.func25, Tryz.ntmps25
          go_wp2_with (go_at_call 57; with_reducible refine (htr _).mono ?_; rintro e w1 ⟨rfl, rfl⟩)
          exact bodyPost_ret (v := .tuple #[.agg #[.string ⟨#[]⟩, .bool false], .int .i64 2]) (by simp [results, Tryz.results25, go_sem]) rfl ⟨rfl, by go_grown⟩
      · have HF : Hid (D = ((⟨#[]⟩, false), false)) := by unfold Hid; rw [HE.out, if_neg (fun h => g0 (hqu.1 h.1).1)]
        have b0 : ((tb[0].toNat : Int) != 34) = true := by rw [bne_iff_ne]; omega
        clear HE hqu
        rw [HF.out]
        go_enter Tryz.func25, Tryz.ntmps25
        go_wp2_with (go_at_call 57; with_reducible refine (htr _).mono ?_; rintro e w1 ⟨rfl, rfl⟩)
        exact bodyPost_ret (v := .tuple #[.agg #[.string ⟨#[]⟩, .bool false], .int .i64 2]) (by simp [results, Tryz.results25, go_sem]) rfl ⟨rfl, by go_grown⟩
    | true =>
      rw [hpre] at hraw
      obtain ⟨qb, hqb⟩ : ∃ qb, tb.extract 2 tb.size = qb := ⟨_, rfl⟩
      have hqs : qb.size = tb.size - 2 := by rw [← hqb, ByteArray.size_extract]; omega
      have hyes : Lib.trimPrefix tb.data.toList [87, 47] = qb.data.toList := by
        have h := hhit hge hpre
        rw [← ba_list (Lib.trimPrefix _ _), h, hqb]
      have HE : Hid (D = if quL qb.data.toList = true ∧ okT (midL qb.data.toList) = true then ((⟨(midL qb.data.toList).toArray⟩, true), true) else ((⟨#[]⟩, false), false)) := by
        unfold Hid; rw [HE0.out, hyes, ← hraw]
      have hqle : qb.size ≤ 1000000 := by omega
      clear hraw hmiss hhit HE0 hyes hdt hqs
      by_cases h3 : qb.size < 2
      · have HF : Hid (D = ((⟨#[]⟩, false), false)) := by unfold Hid; rw [HE.out, if_neg (fun h => qu_small h3 h.1)]
        clear HE
        rw [HF.out]
        go_enter Tryz.func25, Tryz.ntmps25
        go_wp2_with (go_at_call 57; with_reducible refine (htr _).mono ?_; rintro e w1 ⟨rfl, rfl⟩)
        exact bodyPost_ret (v := .tuple #[.agg #[.string ⟨#[]⟩, .bool false], .int .i64 2]) (by simp [results, Tryz.results25, go_sem]) rfl ⟨rfl, by go_grown⟩
      · obtain ⟨n, hn⟩ : ∃ n : Nat, qb.size = n + 2 := ⟨qb.size - 2, by omega⟩
        have hl0 : 0 < qb.size := by omega
        have hl1 : n + 1 < qb.size := by omega
        have d1 : IntKind.i64.wrap ((qb.size : Int) - 1) = ((n + 1 : Nat) : Int) := by rw [IntWalk.i64_in _ (by omega)]; omega
        have hqu := qu_iff hn
        by_cases g0 : qb[0].toNat = 34
        · by_cases g1 : (qb[n + 1]'hl1).toNat = 34
          · have hm := mid_list hn
            have HE2 : Hid (D = if okT (midL qb.data.toList) = true then ((qb.extract 1 (n + 1), true), true) else ((⟨#[]⟩, false), false)) := by
              unfold Hid; rw [HE.out, ← hm, ba_eta]
              by_cases ho : okT (qb.extract 1 (n + 1)).data.toList = true
              · rw [if_pos ⟨hqu.2 ⟨g0, g1⟩, ho⟩, if_pos ho]
              · rw [if_neg (fun h => ho h.2), if_neg ho]
            have b0 : ((qb[0].toNat : Int) != 34) = false := by rw [bne_eq_false_iff_eq]; omega
            have b1 : (((qb[n + 1]'hl1).toNat : Int) != 34) = false := by rw [bne_eq_false_iff_eq]; omega
            have c0 : ((1 : Nat) : Int) ≤ ((n + 1 : Nat) : Int) := by omega
            have c1 : ((n + 1 : Nat) : Int) ≤ (qb.size : Int) := by omega
            have hR := fun W => rright_any (qb.extract 1 (n + 1)) true W (szM_max (by rw [ByteArray.size_extract]; unfold szM; omega))
            unfold okS at hR
            rw [hm] at hR
            clear HE hqu hm g0 g1
            cases ho : okT (midL qb.data.toList) with
            | false =>
              have HF : Hid (D = ((⟨#[]⟩, false), false)) := by unfold Hid; rw [HE2.out, ho]; rfl
              rw [ho] at hR
              clear HE2 ho
              rw [HF.out]
              go_enter Tryz.func25, Tryz.ntmps25
              go_wp2_with (first
                | (go_at_call 57; with_reducible refine (htr _).mono ?_; rintro e w1 ⟨rfl, rfl⟩)
                | (go_at_call 40; with_reducible refine (hR _).mono ?_; rintro e w4 ⟨rfl, hb4⟩; obtain ⟨k0, k1, k2, k3, l1, l2, B1⟩ := cells2 hb4; obtain ⟨f0, f1, f2, f3⟩ := cells2f hb4))
              exact bodyPost_ret (v := .tuple #[.agg #[.string ⟨#[]⟩, .bool false], .int .i64 2]) (by simp [results, Tryz.results25, go_sem, k0, k1]) rfl ⟨rfl, by go_grown⟩
            | true =>
              have HF : Hid (D = ((qb.extract 1 (n + 1), true), true)) := by unfold Hid; rw [HE2.out, ho]; rfl
              rw [ho] at hR
              clear HE2 ho
              rw [HF.out]
              go_enter Tryz.func25, Tryz.ntmps25
              go_wp2_with (first
                | (go_at_call 57; with_reducible refine (htr _).mono ?_; rintro e w1 ⟨rfl, rfl⟩)
                | (go_at_call 40; with_reducible refine (hR _).mono ?_; rintro e w4 ⟨rfl, hb4⟩; obtain ⟨k0, k1, k2, k3, l1, l2, B1⟩ := cells2 hb4; obtain ⟨f0, f1, f2, f3⟩ := cells2f hb4))
              exact bodyPost_ret (v := .tuple #[.agg #[.string (qb.extract 1 (n + 1)), .bool true], .int .i64 0]) (by simp [results, Tryz.results25, go_sem, k0, k1]) rfl ⟨rfl, by go_grown⟩
          · have HF : Hid (D = ((⟨#[]⟩, false), false)) := by unfold Hid; rw [HE.out, if_neg (fun h => g1 (hqu.1 h.1).2)]
            have b0 : ((qb[0].toNat : Int) != 34) = false := by rw [bne_eq_false_iff_eq]; omega
            have b1 : (((qb[n + 1]'hl1).toNat : Int) != 34) = true := by rw [bne_iff_ne]; omega
            clear HE hqu
            rw [HF.out]
            go_enter Tryz.func25, Tryz.ntmps25
            go_wp2_with (go_at_call 57; with_reducible refine (htr _).mono ?_; rintro e w1 ⟨rfl, rfl⟩)
            exact bodyPost_ret (v := .tuple #[.agg #[.string ⟨#[]⟩, .bool false], .int .i64 2]) (by simp [results, Tryz.results25, go_sem]) rfl ⟨rfl, by go_grown⟩
        · have HF : Hid (D = ((⟨#[]⟩, false), false)) := by unfold Hid; rw [HE.out, if_neg (fun h => g0 (hqu.1 h.1).1)]
          have b0 : ((qb[0].toNat : Int) != 34) = true := by rw [bne_iff_ne]; omega
          clear HE hqu
          rw [HF.out]
          go_enter Tryz.func25, Tryz.ntmps25
          go_wp2_with (go_at_call 57; with_reducible refine (htr _).mono ?_; rintro e w1 ⟨rfl, rfl⟩)
          exact bodyPost_ret (v := .tuple #[.agg #[.string ⟨#[]⟩, .bool false], .int .i64 2]) (by simp [results, Tryz.results25, go_sem]) rfl ⟨rfl, by go_grown⟩
end Go.Proofs.YtomcoacndppkcaaGreatDoor.T
