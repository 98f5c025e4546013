/-
  ImapWithin: the walk.
-/
import Derived.Test.YtlnfpolhccbnpaaWW
import Derived.Test.YtlnfpolhccbnpaaR3
import Derived.Test.YtlnfpolhccbnpaaR4
namespace Go.Proofs.Ytlnfpolhccbnpaa
open Go Go.RowKit

theorem in_is {base mb : Nat} {A : Option Addr} {n c : Nat} {D D1 : List Rn} {a b : Int} {W : World} (h : MapAt W base mb A n c D) (hg : Good 0 Option.none D) (hb : D.length ≤ 1000) (he : inI D a b = D1) :
    Calls Try.prog 19 #[.pointer (some ⟨mb, 0, none⟩), .agg #[.int .i64 a, .int .i64 b]] W fun e w' => ∃ v, e = .returned v ∧ IsRn D1 v w' ∧ Below W.heap.size W w' := by
  subst he
  exact (inl_any _ A n c D a b W (Lists.map h.box.cell h.box.lt) h.len (RnAt.own h.own).2.1 (by have := h.len; omega) hg h.at_).mono fun _ _ ⟨A', n', c', he, hl, hr, hE⟩ => ⟨_, he, ⟨A', n', c', rfl, hl, hr⟩, hE⟩
theorem rin_is {A : Option Addr} {n c : Nat} {l : List Ac} {D D1 : List Rn} {a b : Int} {W : World} (hn : l.length = n) (hm : n ≤ 40) (hs : AcAt W W.heap.size A l) (hD : actsI [] l = D) (he : inI D a b = D1) :
    Calls Try.prog 20 #[.slice A n c, .agg #[.int .i64 a, .int .i64 b]] W fun e w' => ∃ v, e = .returned v ∧ IsRn D1 v w' ∧ Below W.heap.size W w' := by
  subst hD
  subst he
  exact (rIn_any A n c l a b W hn (by omega) hs).mono fun _ _ ⟨A', n', c', he, hl, hr, hE⟩ => ⟨_, he, ⟨A', n', c', rfl, hl, hr⟩, hE⟩

set_option maxHeartbeats 8000000 in
set_option maxRecDepth 100000 in
theorem walk_ImapWithin (A : Option Addr) (n c : Nat) (l : List Ac) (a b : Int) (w : World) (hn : l.length = n) (hmx : n ≤ maxLen) (hs : AcAt w w.heap.size A l) (_ : (Lit.int .i64 a).wf = true) (_ : (Lit.int .i64 b).wf = true) :
    Calls Try.prog 5 #[.slice A n c, .agg #[.int .i64 a, .int .i64 b]] w fun e w' => e = .returned (.bool true) ∧ Below w.heap.size w w' := by
  have HS := Lib.hid hs
  have HN := Lib.hid hn
  clear hs hn
  unfold maxLen at hmx
  have e0 : Ext w (w.alloc (.cells #[.int .i64 a, .int .i64 b] 35)) := (Below.refl _ _).alloc (Nat.le_refl _) _
  by_cases h1 : (40 : Int) < (n : Int)
  · go_enter Try.func5, Try.ntmps5
    go_wp2_with fail
    with_reducible refine (alive_any _).mono ?_
    rintro e w1 ⟨rfl, E1⟩
    have E2 := Ext.tr e0 E1
    go_wp2
    go_ret
    exact ⟨rfl, E2⟩
  · have HN40 : Hid (n ≤ 40) := by unfold Hid; omega
    go_enter Try.func5, Try.ntmps5
    go_wp2_with fail
    with_reducible refine (alive_any _).mono ?_
    rintro e w1 ⟨rfl, E1⟩
    have HB1 := (Twin.new w 35 (.int .i64 a) (.int .i64 b)).ext E1
    have kz := HB1.lt
    have E1 := Ext.tr e0 E1
    go_wp2_with fail
    have hmd := made_any A n c l w1 HN.out (by omega) (HS.out.ext E1)
    with_reducible refine hmd.mono ?_
    rintro e w2 ⟨rfl, ⟨A2, n2, c2, hm2⟩, F2⟩
    clear hmd
    have hg0 := actsI_good l (D := []) trivial
    have hle := actsI_len l (D := []) trivial
    obtain ⟨D0, hD0⟩ : ∃ D, actsI [] l = D := ⟨_, rfl⟩
    rw [hD0] at hm2 hg0 hle
    have E_D0 := Lib.hid hD0
    have GD := Lib.hid hg0
    have LD : Hid (D0.length ≤ 1000) := by have := HN40.out; have := HN.out; simp at hle; unfold Hid; omega
    obtain ⟨D1, hD1⟩ : ∃ D, inI D0 a b = D := ⟨_, rfl⟩
    have LB : Hid (D1.length ≤ 9000) := by have := inI_len D0 a b; have := LD.out; rw [hD1] at *; unfold Hid; omega
    have E_D1 := Lib.hid hD1
    have HB2 := HB1.ext F2
    have E2 := Ext.tr E1 F2
    have HS2 := Lib.hid (HS.out.ext E2)
    have HM2 := Lib.hid hm2
    have ka0 := HB2.c0
    have kb0 := HB2.c1
    have klz := HB2.lt
    have kA : ∀ W, Ext w2 W → W.cell? ⟨w.heap.size, 0, none⟩ = some (.int .i64 a) := fun W h => by rw [h.cell (p := ⟨w.heap.size, 0, none⟩) klz]; exact ka0
    have kB : ∀ W, Ext w2 W → W.cell? ⟨w.heap.size, 1, none⟩ = some (.int .i64 b) := fun W h => by rw [h.cell (p := ⟨w.heap.size, 1, none⟩) klz]; exact kb0
    clear hm2 hg0 hle hD0 hD1 E1 F2 HB1 HB2 ka0 kb0
    go_wp2_with fail
    refine' wp_region_made (rels := relsOf ((.val _) :: (.val _) :: (.val _) :: (.val _) :: (.rel (IsRn D1)) :: (.val _) :: (.val _) :: (.rel (IsRn D1)) :: (.val _) :: (.val _) :: (.val _) :: [])) (w := w2) 27 (by kernel_rfl) (by kernel_rfl) (by rfl) (relsOf_stable ?stt) ?wkt
    case stt => exact stable_val (stable_val (stable_val (stable_val (stable_rel IsRn.st (stable_val (stable_val (stable_rel IsRn.st (stable_val (stable_val (stable_val (stable_nil)))))))))))
    case wkt =>
      refine' walk_val (by rfl) ?at0 (fun K hK => ?bt0); (case at0 => (intro W hW hd; clear hd; go_simp; first | exact ⟨Ext.rf _, rfl⟩ | rfl)); (go_simp; refine hK _ ?_; clear hK K)
      refine' walk_val (by rfl) ?at1 (fun K hK => ?bt1); (case at1 => (intro W hW hd; clear hd; go_simp; first | exact ⟨Ext.rf _, rfl⟩ | rfl)); (go_simp; refine hK _ ?_; clear hK K)
      refine' walk_val (by rfl) ?at2 (fun K hK => ?bt2); (case at2 => (intro W hW hd; clear hd; go_simp; first | exact ⟨Ext.rf _, rfl⟩ | rfl)); (go_simp; refine hK _ ?_; clear hK K)
      refine' walk_val (by rfl) ?at3 (fun K hK => ?bt3); (case at3 => (intro W hW hd; clear hd; go_simp; first | exact ⟨Ext.rf _, rfl⟩ | rfl)); (go_simp; refine hK _ ?_; clear hK K)
      refine' walk_rel (by rfl) ?at4 (fun vt4 K hK => ?bt4); (case at4 => (intro W hW hd; go_simp; (clear hd; exact makes_rel (in_is (HM2.out.ext hW) GD.out LD.out E_D1.out)))); (go_simp; refine hK _ ?_; clear hK K)
      refine' walk_val (by rfl) ?at5 (fun K hK => ?bt5); (case at5 => (intro W hW hd; clear hd; go_simp; first | exact ⟨Ext.rf _, rfl⟩ | rfl)); (go_simp; refine hK _ ?_; clear hK K)
      refine' walk_val (by rfl) ?at6 (fun K hK => ?bt6); (case at6 => (intro W hW hd; clear hd; go_simp; first | exact ⟨Ext.rf _, rfl⟩ | rfl)); (go_simp; refine hK _ ?_; clear hK K)
      refine' walk_rel (by rfl) ?at7 (fun vt7 K hK => ?bt7); (case at7 => (intro W hW hd; go_simp; (clear hd; exact makes_rel (rin_is HN.out HN40.out (HS2.out.ext hW) E_D0.out E_D1.out)))); (go_simp; refine hK _ ?_; clear hK K)
      refine' walk_val (by rfl) ?at8 (fun K hK => ?bt8); (case at8 => (intro W hW hd; go_simp; (have hm := dep_rel hd ⟨4, .data⟩ 21 vt4 (by simp) (by rfl) (by rfl) (by rfl) (by rfl); have hm2 := dep_rel hd ⟨7, .data⟩ 24 vt7 (by simp) (by rfl) (by rfl) (by rfl) (by rfl); clear hd; exact makes_val (same_is hm hm2 LB.out)))); (go_simp; refine hK _ ?_; clear hK K)
      refine' walk_val (by rfl) ?at9 (fun K hK => ?bt9); (case at9 => (intro W hW hd; clear hd; go_simp; first | exact ⟨Ext.rf _, rfl⟩ | rfl)); (go_simp; refine hK _ ?_; clear hK K)
      refine' walk_val (by rfl) ?at10 (fun K hK => ?bt10); (case at10 => (intro W hW hd; clear hd; go_simp; first | exact ⟨Ext.rf _, rfl⟩ | rfl)); (go_simp; refine hK _ ?_; clear hK K)
      refine walk_end (fun W hW hfin => ?_)
      have B9 : Below w.heap.size w W := E2.trans (hW.mono E2.size)
      clear hfin
      go_wp2
      go_ret
      exact ⟨rfl, B9⟩
end Go.Proofs.Ytlnfpolhccbnpaa
