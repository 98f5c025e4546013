/-
  The tag of a text, by the program and by the reference.
-/
import Derived.Test.YtomcoacndppkcaaGreatDoorTF
import Derived.Test.YtomcoacndppkcaaGreatDoorTG
namespace Go.Proofs.YtomcoacndppkcaaGreatDoor.T
open Go Go.RowKit

theorem mid_list {b : ByteArray} {n : Nat} (hn : b.size = n + 2) : (b.extract 1 (n + 1)).data.toList = midL b.data.toList := by
  rw [ByteArray.data_extract, Array.toList_extract]
  unfold midL
  rw [List.dropLast_eq_take, List.length_drop, ← Lib.size_eq, hn]
  simp
  try rfl
theorem qu_iff {b : ByteArray} {n : Nat} (hn : b.size = n + 2) : quL b.data.toList = true ↔ b[0].toNat = 34 ∧ (b[n + 1]'(by omega)).toNat = 34 := by
  have e0 : b.data.toList.head? = some b[0] := by
    rw [← List.drop_zero (l := b.data.toList), drop_at4 b 0 (by omega)]; rfl
  have e1 : b.data.toList.getLast? = some (b[n + 1]'(by omega)) := by
    rw [List.getLast?_eq_getElem?, ← Lib.size_eq, show b.size - 1 = n + 1 by omega, ← List.head?_drop, drop_at4 b (n + 1) (by omega)]; rfl
  have h34 : ∀ x : UInt8, x = 34 ↔ x.toNat = 34 := fun x => by rw [← UInt8.toNat_inj]; exact Iff.rfl
  unfold quL
  rw [e0, e1, ← Lib.size_eq]
  simp only [Bool.and_eq_true, decide_eq_true_eq, beq_iff_eq, Option.some.injEq, h34]
  exact ⟨fun h => ⟨h.1.2, h.2⟩, fun h => ⟨⟨by omega, h.1⟩, h.2⟩⟩
theorem qu_small {b : ByteArray} (h : b.size < 2) : ¬ quL b.data.toList = true := by
  unfold quL
  rw [← Lib.size_eq]
  simp only [Bool.and_eq_true, decide_eq_true_eq]
  intro h'
  omega
/-- two blocks of a call, and what came behind: cells, and none of them frozen -/
theorem cells2f {w W : World} {s t : ByteArray} {p q : Bool} (h : Below ((w.alloc (.cells #[.string s, .bool p] 27)).alloc (.cells #[.string t, .bool q] 27)).heap.size ((w.alloc (.cells #[.string s, .bool p] 27)).alloc (.cells #[.string t, .bool q] 27)) W) :
    W.frozen? ⟨w.heap.size, 0, none⟩ = false ∧ W.frozen? ⟨w.heap.size, 1, none⟩ = false ∧ W.frozen? ⟨w.heap.size + 1, 0, none⟩ = false ∧ W.frozen? ⟨w.heap.size + 1, 1, none⟩ = false := by
  refine ⟨?_, ?_, ?_, ?_⟩
  · rw [h.frozen (p := ⟨w.heap.size, 0, none⟩) (by simp; omega)]; simp
  · rw [h.frozen (p := ⟨w.heap.size, 1, none⟩) (by simp; omega)]; simp
  · rw [h.frozen (p := ⟨w.heap.size + 1, 0, none⟩) (by simp)]; simp
  · rw [h.frozen (p := ⟨w.heap.size + 1, 1, none⟩) (by simp)]; simp

set_option maxHeartbeats 4000000 in
theorem read_any (s : ByteArray) (w : World) (hs : s.size ≤ szM) :
    Calls Tryz.prog 72 #[.string s] w fun e w' => e = .returned (.tuple #[.agg #[.string (readL s.data.toList).1.1, .bool (readL s.data.toList).1.2], .bool (readL s.data.toList).2]) ∧ Below w.heap.size w w' := by
  have hcp := fun W => Tryz.strings_CutPrefix s ⟨#[87, 47]⟩ W
  have hql := Lib.trimPrefix_le s.data.toList [87, 47]
  rw [← Lib.size_eq] at hql
  obtain ⟨D, HD⟩ : ∃ D, Hid (readL s.data.toList = D) := ⟨readL s.data.toList, rfl⟩
  have HE : Hid (D = if quL (Lib.trimPrefix s.data.toList [87, 47]) = true ∧ okT (midL (Lib.trimPrefix s.data.toList [87, 47])) = true then ((⟨(midL (Lib.trimPrefix s.data.toList [87, 47])).toArray⟩, Lib.hasPrefix s.data.toList [87, 47]), true) else ((⟨#[]⟩, false), false)) := by
    unfold Hid; rw [← HD.out]; rfl
  rw [HD.out]
  clear HD
  simp only at hcp
  generalize Lib.hasPrefix s.data.toList [87, 47] = k at *
  generalize Lib.trimPrefix s.data.toList [87, 47] = ql at *
  have hqs : (⟨ql.toArray⟩ : ByteArray).size ≤ szM := by rw [ba_size]; omega
  obtain ⟨qb, hqb⟩ : ∃ qb : ByteArray, Hid ((⟨ql.toArray⟩ : ByteArray) = qb) := ⟨⟨ql.toArray⟩, rfl⟩
  have hql2 : ql = qb.data.toList := by rw [← hqb.out]
  rw [hqb.out] at hcp hqs
  subst hql2
  clear hqb hql
  unfold szM at hqs
  by_cases h2 : qb.size < 2
  · have HF : Hid (D = ((⟨#[]⟩, false), false)) := by unfold Hid; rw [HE.out, if_neg (fun h => qu_small h2 h.1)]
    clear HE
    rw [HF.out]
    go_enter Tryz.func72, Tryz.ntmps72
    go_wp2_with (go_at_call 100; with_reducible refine (hcp _).mono ?_; rintro e w1 ⟨rfl, rfl⟩)
    exact bodyPost_ret (v := .tuple #[.agg #[.string ⟨#[]⟩, .bool false], .bool false]) (by simp [results, Tryz.results72, go_sem]) rfl ⟨rfl, by go_grown⟩
  · obtain ⟨n, hn⟩ : ∃ n : Nat, qb.size = n + 2 := ⟨qb.size - 2, by omega⟩
    have hl0 : 0 < qb.size := by omega
    have hl1 : n + 1 < qb.size := by omega
    have d1 : IntKind.i64.wrap ((qb.size : Int) - 1) = ((n + 1 : Nat) : Int) := by rw [IntWalk.i64_in _ (by omega)]; omega
    have hqu := qu_iff hn
    by_cases g0 : qb[0].toNat = 34
    · by_cases g1 : (qb[n + 1]'hl1).toNat = 34
      · have hm := mid_list hn
        have HE2 : Hid (D = if okT (midL qb.data.toList) = true then ((qb.extract 1 (n + 1), k), true) else ((⟨#[]⟩, false), false)) := by
          unfold Hid; rw [HE.out, ← hm, ba_eta]
          by_cases ho : okT (qb.extract 1 (n + 1)).data.toList = true
          · rw [if_pos ⟨hqu.2 ⟨g0, g1⟩, ho⟩, if_pos ho]
          · rw [if_neg (fun h => ho h.2), if_neg ho]
        have b0 : ((qb[0].toNat : Int) != 34) = false := by rw [bne_eq_false_iff_eq]; omega
        have b1 : (((qb[n + 1]'hl1).toNat : Int) != 34) = false := by rw [bne_eq_false_iff_eq]; omega
        have c0 : ((1 : Nat) : Int) ≤ ((n + 1 : Nat) : Int) := by omega
        have c1 : ((n + 1 : Nat) : Int) ≤ (qb.size : Int) := by omega
        have hR := fun W => right_any (qb.extract 1 (n + 1)) k W (szM_max (by rw [ByteArray.size_extract]; unfold szM; omega))
        have hme : (qb.extract 1 (n + 1)).size ≤ szM := by rw [ByteArray.size_extract]; unfold szM; omega
        unfold okS at hR
        rw [hm] at hR
        clear HE hqu hm g0 g1
        cases ho : okT (midL qb.data.toList) with
        | false =>
          have HF : Hid (D = ((⟨#[]⟩, false), false)) := by unfold Hid; rw [HE2.out, ho]; rfl
          rw [ho] at hR
          clear HE2 ho
          rw [HF.out]
          go_enter Tryz.func72, Tryz.ntmps72
          go_wp2_with (first
            | (go_at_call 100; with_reducible refine (hcp _).mono ?_; rintro e w1 ⟨rfl, rfl⟩)
            | (go_at_call 36; with_reducible refine (hR _).mono ?_; rintro e w4 ⟨rfl, hb4⟩; obtain ⟨k0, k1, k2, k3, l1, l2, B1⟩ := cells2 hb4; obtain ⟨f0, f1, f2, f3⟩ := cells2f hb4))
          exact bodyPost_ret (v := .tuple #[.agg #[.string ⟨#[]⟩, .bool false], .bool false]) (by simp [results, Tryz.results72, go_sem, k0, k1]) rfl ⟨rfl, by go_grown⟩
        | true =>
          have HF : Hid (D = ((qb.extract 1 (n + 1), k), true)) := by unfold Hid; rw [HE2.out, ho]; rfl
          rw [ho] at hR
          clear HE2 ho
          rw [HF.out]
          have hC := fun W => clone_any (qb.extract 1 (n + 1)) W (by unfold szM at hme; omega)
          go_enter Tryz.func72, Tryz.ntmps72
          go_wp2_with (first
            | (go_at_call 100; with_reducible refine (hcp _).mono ?_; rintro e w1 ⟨rfl, rfl⟩)
            | (go_at_call 36; with_reducible refine (hR _).mono ?_; rintro e w4 ⟨rfl, hb4⟩; obtain ⟨k0, k1, k2, k3, l1, l2, B1⟩ := cells2 hb4; obtain ⟨f0, f1, f2, f3⟩ := cells2f hb4)
            | (go_at_call 69; with_reducible refine (hC _).mono ?_; rintro e w5 ⟨rfl, hb5⟩; obtain ⟨m0, m1, m2, m3, n1, n2, B2⟩ := cells2 (hb4.trans (hb5.mono hb4.size)); obtain ⟨e0, e1, e2, e3⟩ := cells2f (hb4.trans (hb5.mono hb4.size))))
          exact bodyPost_ret (v := .tuple #[.agg #[.string (qb.extract 1 (n + 1)), .bool k], .bool true]) (by simp [results, Tryz.results72, go_sem, m0, m1]) rfl ⟨rfl, by go_grown⟩
      · have HF : Hid (D = ((⟨#[]⟩, false), false)) := by unfold Hid; rw [HE.out, if_neg (fun h => g1 (hqu.1 h.1).2)]
        have b0 : ((qb[0].toNat : Int) != 34) = false := by rw [bne_eq_false_iff_eq]; omega
        have b1 : (((qb[n + 1]'hl1).toNat : Int) != 34) = true := by rw [bne_iff_ne]; omega
        clear HE hqu
        rw [HF.out]
        go_enter Tryz.func72, Tryz.ntmps72
        go_wp2_with (go_at_call 100; with_reducible refine (hcp _).mono ?_; rintro e w1 ⟨rfl, rfl⟩)
        exact bodyPost_ret (v := .tuple #[.agg #[.string ⟨#[]⟩, .bool false], .bool false]) (by simp [results, Tryz.results72, go_sem]) rfl ⟨rfl, by go_grown⟩
    · have HF : Hid (D = ((⟨#[]⟩, false), false)) := by unfold Hid; rw [HE.out, if_neg (fun h => g0 (hqu.1 h.1).1)]
      have b0 : ((qb[0].toNat : Int) != 34) = true := by rw [bne_iff_ne]; omega
      clear HE hqu
      rw [HF.out]
      go_enter Tryz.func72, Tryz.ntmps72
      go_wp2_with (go_at_call 100; with_reducible refine (hcp _).mono ?_; rintro e w1 ⟨rfl, rfl⟩)
      exact bodyPost_ret (v := .tuple #[.agg #[.string ⟨#[]⟩, .bool false], .bool false]) (by simp [results, Tryz.results72, go_sem]) rfl ⟨rfl, by go_grown⟩
end Go.Proofs.YtomcoacndppkcaaGreatDoor.T
