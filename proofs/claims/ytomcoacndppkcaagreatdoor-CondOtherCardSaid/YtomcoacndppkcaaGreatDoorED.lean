/-
  What is found, set and left out, by the program and by the reference.
-/
import Derived.Test.YtomcoacndppkcaaGreatDoorEC
namespace Go.Proofs.YtomcoacndppkcaaGreatDoor.F
open Go Go.RowKit

/-- no text is greater than texts can be -/
def Mx (l : List Fd) : Prop := ∀ x ∈ l, x.1.size ≤ szM ∧ x.2.size ≤ szM
theorem Mx.at0 {l : List Fd} (h : Mx l) {k : Nat} (hk : k < l.length) : l[k].1.size ≤ szM ∧ l[k].2.size ≤ szM := h _ (List.getElem_mem hk)

set_option maxHeartbeats 4000000 in
theorem of_any (A : Option Addr) (n c : Nat) (l : List Fd) (name : ByteArray) (w : World) (hn : l.length = n) (hm : n ≤ 1000000) (hM : Mx l) (hname : name.size ≤ szM) (hs : FdAt w w.heap.size A l) :
    Calls Tryz.prog 47 #[.slice A n c, .string name] w fun e w' => ∃ v, e = .returned v ∧ OwnX w' w.heap.size v (ofD l name) ∧ Below w.heap.size w w' := by
  have HS := Lib.hid hs
  have HL := Lib.hid hn
  have HM := Lib.hid hM
  clear hs hn hM
  go_enter Tryz.func47, Tryz.ntmps47
  go_wp2
  go_loopw [5, 10] (fun vl i wr => ∃ k : Nat, k ≤ n ∧ i = .int .i64 k ∧ OwnX wr w.heap.size vl (ofD (l.take k) name) ∧ Below w.heap.size w wr) (fun _ i _ => n - (intOf i).toNat)
  case atStart => exact ⟨0, Nat.zero_le _, rfl, by rw [List.take_zero]; exact World.ownsRow_nil _ _ _ _, Below.refl _ _⟩
  case round =>
    obtain ⟨k, hk, rfl, hown, hbel⟩ := hrel
    by_cases hlt : k < n
    · have hal : (ofD (l.take k) name).length ≤ 1000000 := by have := ofD_len (l.take k) name; have := HL.out; rw [List.length_take] at *; omega
      have hkl : k < l.length := by have := HL.out; omega
      obtain ⟨b, o, rfl, hb, hc⟩ := (HS.out.below hbel (Nat.le_refl _)) (by omega)
      obtain ⟨c0, c1⟩ := hc k hkl
      clear hc
      obtain ⟨hx, hy⟩ := HM.out.at0 hkl
      have HT := Lib.hid (ofD_snoc name hkl)
      obtain ⟨X, hX⟩ : ∃ X, Hid (l[k] = X) := ⟨l[k], rfl⟩
      rw [hX.out] at HT c0 c1 hx hy
      clear hX
      obtain ⟨x, y⟩ := X
      simp only at c0 c1 hx hy HT
      have hbz : b < wr.heap.size := by have := hbel.size; omega
      have hA := fun W => alike_any x name W hx hname
      have hwz := hbel.size
      have hC := fun W => clone_any y W (by unfold szM at hy; omega)
      obtain ⟨acc, hac⟩ : ∃ acc, Hid (ofD (l.take k) name = acc) := ⟨_, rfl⟩
      rw [hac.out] at hown HT hal
      cases hq : alikeD x name with
      | true =>
        have HF : Hid (ofD (l.take (k + 1)) name = acc ++ [y]) := by unfold Hid; rw [HT.out, if_pos hq]
        rw [hq] at hA
        clear HT hac hq
        go_wp2_with (first
          | (go_at_call 68; with_reducible refine (hA _).mono ?_; rintro e w1 ⟨rfl, hb1⟩; obtain ⟨k0, k1, f0, f1, lz, E1⟩ := one_cells hb1; have B1 := hbel.trans (E1.mono hwz); have own1 := Below.ownF hown E1; clear hb1 E1 hown)
          | (go_at_call 69; with_reducible refine (hC _).mono ?_; rintro e w2 ⟨rfl, hb2⟩; have B2 := B1.trans (hb2.mono B1.size); have own2 := Below.ownF own1 hb2; clear hb2 own1; have tok : True := trivial)
          | (at_builtin; have _t := tok; refine app_tx_at w2 w2.heap.size rfl (by rfl) _ _ (by rfl) w.heap.size _ acc y (by rfl) own2 (by rfl) (by omega) B2.size ?_; intro v6 w6 hown6 hgrow; have B6 : Below w.heap.size w w6 := below_app B2 B2.size own2 hgrow; clear hgrow own2 tok))
        go_roundw
        case rel => exact ⟨k + 1, by omega, by go_num, by rw [HF.out]; exact hown6, B6⟩
        case measure => simp [intOf]; omega
      | false =>
        have HF : Hid (ofD (l.take (k + 1)) name = acc) := by unfold Hid; rw [HT.out, if_neg (by rw [hq]; exact Bool.false_ne_true)]
        rw [hq] at hA
        clear HT hac hq
        go_wp2_with (go_at_call 68; with_reducible refine (hA _).mono ?_; rintro e w1 ⟨rfl, hb1⟩; obtain ⟨k0, k1, f0, f1, lz, E1⟩ := one_cells hb1; have B1 := hbel.trans (E1.mono hwz); have own1 := Below.ownF hown E1; clear hb1 E1 hown)
        go_roundw
        case rel => exact ⟨k + 1, by omega, by go_num, by rw [HF.out]; exact own1, B1⟩
        case measure => simp [intOf]; omega
    · obtain rfl : k = n := by omega
      have HF : Hid (l.take k = l) := List.take_of_length_le (by have := HL.out; omega)
      rw [HF.out] at hown
      go_wp2
      go_ret
      exact ⟨_, rfl, hown, hbel⟩

set_option maxHeartbeats 4000000 in
theorem rof_any (A : Option Addr) (n c : Nat) (l : List Fd) (name : ByteArray) (w : World) (hn : l.length = n) (hm : n ≤ 1000000) (hM : Mx l) (hname : name.size ≤ szM) (hs : FdAt w w.heap.size A l) :
    Calls Tryz.prog 24 #[.slice A n c, .string name] w fun e w' => ∃ v, e = .returned v ∧ OwnX w' w.heap.size v (ofD l name) ∧ Below w.heap.size w w' := by
  have HS := Lib.hid hs
  have HL := Lib.hid hn
  have HM := Lib.hid hM
  clear hs hn hM
  go_enter Tryz.func24, Tryz.ntmps24
  go_wp2
  go_loopw [5, 10] (fun vl i wr => ∃ k : Nat, k ≤ n ∧ i = .int .i64 k ∧ OwnX wr w.heap.size vl (ofD (l.take k) name) ∧ Below w.heap.size w wr) (fun _ i _ => n - (intOf i).toNat)
  case atStart => exact ⟨0, Nat.zero_le _, rfl, by rw [List.take_zero]; exact World.ownsRow_nil _ _ _ _, Below.refl _ _⟩
  case round =>
    obtain ⟨k, hk, rfl, hown, hbel⟩ := hrel
    by_cases hlt : k < n
    · have hal : (ofD (l.take k) name).length ≤ 1000000 := by have := ofD_len (l.take k) name; have := HL.out; rw [List.length_take] at *; omega
      have hkl : k < l.length := by have := HL.out; omega
      obtain ⟨b, o, rfl, hb, hc⟩ := (HS.out.below hbel (Nat.le_refl _)) (by omega)
      obtain ⟨c0, c1⟩ := hc k hkl
      clear hc
      obtain ⟨hx, hy⟩ := HM.out.at0 hkl
      have HT := Lib.hid (ofD_snoc name hkl)
      obtain ⟨X, hX⟩ : ∃ X, Hid (l[k] = X) := ⟨l[k], rfl⟩
      rw [hX.out] at HT c0 c1 hx hy
      clear hX
      obtain ⟨x, y⟩ := X
      simp only at c0 c1 hx hy HT
      have hbz : b < wr.heap.size := by have := hbel.size; omega
      have hA := fun W => ralike_any x name W hx hname
      have hwz := hbel.size
      have hC := fun W => clone_any y W (by unfold szM at hy; omega)
      obtain ⟨acc, hac⟩ : ∃ acc, Hid (ofD (l.take k) name = acc) := ⟨_, rfl⟩
      rw [hac.out] at hown HT hal
      cases hq : alikeD x name with
      | true =>
        have HF : Hid (ofD (l.take (k + 1)) name = acc ++ [y]) := by unfold Hid; rw [HT.out, if_pos hq]
        rw [hq] at hA
        clear HT hac hq
        go_wp2_with (first
          | (go_at_call 56; with_reducible refine (hA _).mono ?_; rintro e w1 ⟨rfl, hb1⟩; obtain ⟨k0, k1, f0, f1, lz, E1⟩ := one_cells hb1; have B1 := hbel.trans (E1.mono hwz); have own1 := Below.ownF hown E1; clear hb1 E1 hown; have tok : True := trivial)
          | (at_builtin; have _t := tok; refine app_tx_at w1 w1.heap.size rfl (by rfl) _ _ (by rfl) w.heap.size _ acc y (by rfl) own1 (by rfl) (by omega) B1.size ?_; intro v6 w6 hown6 hgrow; have B6 : Below w.heap.size w w6 := below_app B1 B1.size own1 hgrow; clear hgrow own1 tok))
        go_roundw
        case rel => exact ⟨k + 1, by omega, by go_num, by rw [HF.out]; exact hown6, B6⟩
        case measure => simp [intOf]; omega
      | false =>
        have HF : Hid (ofD (l.take (k + 1)) name = acc) := by unfold Hid; rw [HT.out, if_neg (by rw [hq]; exact Bool.false_ne_true)]
        rw [hq] at hA
        clear HT hac hq
        go_wp2_with (go_at_call 56; with_reducible refine (hA _).mono ?_; rintro e w1 ⟨rfl, hb1⟩; obtain ⟨k0, k1, f0, f1, lz, E1⟩ := one_cells hb1; have B1 := hbel.trans (E1.mono hwz); have own1 := Below.ownF hown E1; clear hb1 E1 hown)
        go_roundw
        case rel => exact ⟨k + 1, by omega, by go_num, by rw [HF.out]; exact own1, B1⟩
        case measure => simp [intOf]; omega
    · obtain rfl : k = n := by omega
      have HF : Hid (l.take k = l) := List.take_of_length_le (by have := HL.out; omega)
      rw [HF.out] at hown
      go_wp2
      go_ret
      exact ⟨_, rfl, hown, hbel⟩

set_option maxHeartbeats 4000000 in
theorem get_any (A : Option Addr) (n c : Nat) (l : List Fd) (name : ByteArray) (w : World) (hn : l.length = n) (hm : n ≤ 1000000) (hM : Mx l) (hname : name.size ≤ szM) (hs : FdAt w w.heap.size A l) :
    Calls Tryz.prog 50 #[.slice A n c, .string name] w fun e w' => e = .returned (.tuple #[.string (getD l name).1, .bool (getD l name).2]) ∧ Below w.heap.size w w' := by
  have HS := Lib.hid hs
  have HL := Lib.hid hn
  have HM := Lib.hid hM
  clear hs hn hM
  go_enter Tryz.func50, Tryz.ntmps50
  go_wp2
  go_loopw [10] (fun i wr => ∃ k : Nat, k ≤ n ∧ i = .int .i64 k ∧ Hid (ofD (l.take k) name = []) ∧ Below w.heap.size w wr) (fun i _ => n - (intOf i).toNat)
  case atStart => exact ⟨0, Nat.zero_le _, rfl, rfl, Below.refl _ _⟩
  case round =>
    obtain ⟨k, hk, rfl, HG, hbel⟩ := hrel
    by_cases hlt : k < n
    · have hkl : k < l.length := by have := HL.out; omega
      obtain ⟨b, o, rfl, hb, hc⟩ := (HS.out.below hbel (Nat.le_refl _)) (by omega)
      obtain ⟨c0, c1⟩ := hc k hkl
      clear hc
      obtain ⟨hx, hy⟩ := HM.out.at0 hkl
      have HT := Lib.hid (And.intro (ofD_snoc name hkl) (getD_at hkl HG.out))
      obtain ⟨X, hX⟩ : ∃ X, Hid (l[k] = X) := ⟨l[k], rfl⟩
      rw [hX.out] at HT c0 c1 hx hy
      clear hX
      obtain ⟨x, y⟩ := X
      simp only at c0 c1 hx hy HT
      have hbz : b < wr.heap.size := by have := hbel.size; omega
      have hA := fun W => alike_any x name W hx hname
      have hwz := hbel.size
      have hC := fun W => clone_any y W (by unfold szM at hy; omega)
      cases hq : alikeD x name with
      | true =>
        have HF : Hid (getD l name = (y, true)) := HT.out.2 hq
        rw [hq] at hA
        clear HT hq HG
        go_wp2_with (first
          | (go_at_call 68; with_reducible refine (hA _).mono ?_; rintro e w1 ⟨rfl, hb1⟩; obtain ⟨k0, k1, f0, f1, lz, E1⟩ := one_cells hb1; have B1 := hbel.trans (E1.mono hwz); clear hb1 E1)
          | (go_at_call 69; with_reducible refine (hC _).mono ?_; rintro e w2 ⟨rfl, hb2⟩; have B2 := B1.trans (hb2.mono B1.size); clear hb2))
        exact bodyPost_ret (v := .tuple #[.string y, .bool true]) (by simp [results, Tryz.results50, go_sem]) rfl ⟨by rw [HF.out], B2⟩
      | false =>
        have HF : Hid (ofD (l.take (k + 1)) name = []) := by unfold Hid; rw [HT.out.1, if_neg (by rw [hq]; exact Bool.false_ne_true)]; exact HG.out
        rw [hq] at hA
        clear HT hq HG
        go_wp2_with (go_at_call 68; with_reducible refine (hA _).mono ?_; rintro e w1 ⟨rfl, hb1⟩; obtain ⟨k0, k1, f0, f1, lz, E1⟩ := one_cells hb1; have B1 := hbel.trans (E1.mono hwz); clear hb1 E1)
        go_roundw
        case rel => exact ⟨k + 1, by omega, by go_num, HF, B1⟩
        case measure => simp [intOf]; omega
    · obtain rfl : k = n := by omega
      have HF : Hid (getD l name = (⟨#[]⟩, false)) := getD_none (by have h := HG.out; rwa [List.take_of_length_le (by have := HL.out; omega)] at h)
      clear HG
      go_wp2_with fail
      exact bodyPost_ret (v := .tuple #[.string ⟨#[]⟩, .bool false]) (by simp [results, Tryz.results50, go_sem]) rfl ⟨by rw [HF.out], hbel⟩

end Go.Proofs.YtomcoacndppkcaaGreatDoor.F
