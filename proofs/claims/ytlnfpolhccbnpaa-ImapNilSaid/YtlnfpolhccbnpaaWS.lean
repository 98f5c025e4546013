/-
  ImapSets: the walk.
-/
import Derived.Test.YtlnfpolhccbnpaaWW
import Derived.Test.YtlnfpolhccbnpaaS2
import Derived.Test.YtlnfpolhccbnpaaS3
namespace Go.Proofs.Ytlnfpolhccbnpaa
open Go Go.RowKit

/-- the spans of runs that stand well, made one where they touch, are the set's own -/
theorem norm_spS (all : Bool) (v : Int) {D : List Rn} (hg : Good 0 Option.none D) : closeL 0 (spS all v D) = Rg.normL (spS all v D) := by
  refine Rg.Norm.is (closeL_canon (fun s hs => ?_) ?_)
  · obtain ⟨r, hr, rfl⟩ := List.mem_map.1 hs
    have h := good_mem hg r (List.mem_filter.1 hr).1
    have ho : (opnI : Int) = 4611686018427387904 := rfl
    unfold Solid; simp only; omega
  · unfold spS spK
    rw [List.pairwise_map]
    exact ((good_pair hg).filter _).imp (fun h => by simp only; omega)
theorem of_is {base mb : Nat} {A : Option Addr} {n c : Nat} {D : List Rn} {v : Int} {L : List Sp} {W : World} (h : MapAt W base mb A n c D) (hb : D.length ≤ 1000) (he : Rg.normL (spV v D) = L) :
    Calls Try.prog 22 #[.pointer (some ⟨mb, 0, none⟩), .int .i64 v] W fun e w' => ∃ u, e = .returned u ∧ Rg.IsSet w' u L ∧ Below W.heap.size W w' := by
  subst he
  exact OfM_any _ A n c D v W (Lists.map h.box.cell h.box.lt) h.len (by have := h.len; omega) h.at_
theorem known_is {base mb : Nat} {A : Option Addr} {n c : Nat} {D : List Rn} {L : List Sp} {W : World} (h : MapAt W base mb A n c D) (hb : D.length ≤ 1000) (he : Rg.normL (spK D) = L) :
    Calls Try.prog 25 #[.pointer (some ⟨mb, 0, none⟩)] W fun e w' => ∃ u, e = .returned u ∧ Rg.IsSet w' u L ∧ Below W.heap.size W w' := by
  subst he
  exact KnownM_any _ A n c D W (Lists.map h.box.cell h.box.lt) h.len (by have := h.len; omega) h.at_
theorem rof_is {A : Option Addr} {n c : Nat} {l : List Ac} {D : List Rn} {v : Int} {all : Bool} {L : List Sp} {W : World} (hn : l.length = n) (hm : n ≤ 40) (hs : AcAt W W.heap.size A l) (hD : actsI [] l = D) (he : closeL 0 (spS all v D) = L) :
    Calls Try.prog 24 #[.slice A n c, .int .i64 v, .bool all] W fun e w' => ∃ u, e = .returned u ∧ Rg.IsSp w' u L ∧ Below W.heap.size W w' := by
  subst hD
  subst he
  exact rOf_any A n c l v all W hn (by omega) hs
theorem spans_is {L : List Sp} {x u : Value} {W : World} (h : Rg.IsSp W x L) (k : Rg.IsSp W u L) (hb : L.length ≤ 1000000) :
    Calls Try.prog 21 #[x, u] W fun e w' => e = .returned (.bool true) ∧ Below W.heap.size W w' := by
  obtain ⟨A, c, rfl, _, hat⟩ := h
  obtain ⟨A', c', rfl, _, hat'⟩ := k
  exact (Rg.spans_same A A' c c' L L W hb hat hat').mono fun _ _ ⟨he, hE⟩ => ⟨by rw [he]; simp, hE⟩

set_option maxHeartbeats 16000000 in
set_option maxRecDepth 100000 in
theorem walk_ImapSets (A : Option Addr) (n c : Nat) (l : List Ac) (v : Int) (w : World) (hn : l.length = n) (hmx : n ≤ maxLen) (hs : AcAt w w.heap.size A l) :
    Calls Try.prog 6 #[.slice A n c, .int .i64 v] w fun e w' => e = .returned (.bool true) ∧ Below w.heap.size w w' := by
  have HS := Lib.hid hs
  have HN := Lib.hid hn
  clear hs hn
  unfold maxLen at hmx
  by_cases h1 : (40 : Int) < (n : Int)
  · go_enter Try.func6, Try.ntmps6
    go_wp2_with fail
    with_reducible refine (alive_any _).mono ?_
    rintro e w1 ⟨rfl, E2⟩
    go_wp2
    go_ret
    exact ⟨rfl, E2⟩
  · have HN40 : Hid (n ≤ 40) := by unfold Hid; omega
    go_enter Try.func6, Try.ntmps6
    go_wp2_with fail
    with_reducible refine (alive_any _).mono ?_
    rintro e w1 ⟨rfl, E1⟩
    go_wp2_with fail
    have hmd := made_any A n c l w1 HN.out (by omega) (HS.out.ext E1)
    with_reducible refine hmd.mono ?_
    rintro e w2 ⟨rfl, ⟨A2, n2, c2, hm2⟩, F2⟩
    clear hmd
    have hg0 := actsI_good l (D := []) trivial
    have hle := actsI_len l (D := []) trivial
    obtain ⟨D0, hD0⟩ : ∃ D, actsI [] l = D := ⟨_, rfl⟩
    rw [hD0] at hm2 hg0 hle
    have E_D0 := Lib.hid hD0
    have LD : Hid (D0.length ≤ 1000) := by have := HN40.out; have := HN.out; simp at hle; unfold Hid; omega
    have g1 := norm_spS false v hg0
    have g2 := norm_spS true 0 hg0
    have k1 := closeL_len 0 (spS false v D0)
    have k2 := closeL_len 0 (spS true 0 D0)
    have k3 := spS_len false v D0
    have k4 := spS_len true 0 D0
    obtain ⟨L1, hL1⟩ : ∃ L, closeL 0 (spS false v D0) = L := ⟨_, rfl⟩
    obtain ⟨L2, hL2⟩ : ∃ L, closeL 0 (spS true 0 D0) = L := ⟨_, rfl⟩
    have LB1 : Hid (L1.length ≤ 1000000) := by have := LD.out; rw [hL1] at k1; unfold Hid; omega
    have LB2 : Hid (L2.length ≤ 1000000) := by have := LD.out; rw [hL2] at k2; unfold Hid; omega
    have F1 := Lib.hid hL1
    have F2' := Lib.hid hL2
    have E1' : Hid (Rg.normL (spV v D0) = L1) := by unfold Hid; rw [← spS_one, ← g1]; exact hL1
    have E2' : Hid (Rg.normL (spK D0) = L2) := by unfold Hid; rw [← spS_all 0, ← g2]; exact hL2
    have E2 := Ext.tr E1 F2
    have HS2 := Lib.hid (HS.out.ext E2)
    have HM2 := Lib.hid hm2
    clear hm2 hg0 hle hD0 hL1 hL2 g1 g2 k1 k2 k3 k4 E1 F2
    go_wp2_with fail
    with_reducible refine (of_is HM2.out LD.out E1'.out).mono ?_
    rintro e w3 ⟨u3, rfl, h3, B3⟩
    go_wp2_with fail
    with_reducible refine (Rg.Spans_set h3 LB1.out).mono ?_
    rintro e w4 ⟨u4, rfl, h4, B4⟩
    have X4 := Ext.tr B3 B4
    go_wp2_with fail
    with_reducible refine (rof_is HN.out HN40.out (HS2.out.ext X4) E_D0.out F1.out).mono ?_
    rintro e w5 ⟨u5, rfl, h5, B5⟩
    have X5 := Ext.tr X4 B5
    have h4' := Rg.IsSp.st _ _ _ h4 B5
    go_wp2_with fail
    with_reducible refine (spans_is h4' h5 LB1.out).mono ?_
    rintro e w6 ⟨rfl, B6⟩
    have X6 := Ext.tr X5 B6
    go_wp2_with fail
    with_reducible refine (known_is (HM2.out.ext X6) LD.out E2'.out).mono ?_
    rintro e w7 ⟨u7, rfl, h7, B7⟩
    have X7 := Ext.tr X6 B7
    go_wp2_with fail
    with_reducible refine (Rg.Spans_set h7 LB2.out).mono ?_
    rintro e w8 ⟨u8, rfl, h8, B8⟩
    have X8 := Ext.tr X7 B8
    go_wp2_with fail
    with_reducible refine (rof_is HN.out HN40.out (HS2.out.ext X8) E_D0.out F2'.out).mono ?_
    rintro e w9 ⟨u9, rfl, h9, B9⟩
    have X9 := Ext.tr X8 B9
    have h8' := Rg.IsSp.st _ _ _ h8 B9
    go_wp2_with fail
    with_reducible refine (spans_is h8' h9 LB2.out).mono ?_
    rintro e w10 ⟨rfl, B10⟩
    have X10 := Ext.tr X9 B10
    have BF : Below w.heap.size w w10 := E2.trans (X10.mono E2.size)
    go_wp2
    go_ret
    exact ⟨rfl, BF⟩
end Go.Proofs.Ytlnfpolhccbnpaa
