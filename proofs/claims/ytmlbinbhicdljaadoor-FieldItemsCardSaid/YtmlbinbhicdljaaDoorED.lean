/-
  What is found, set and left out, by the program and by the reference.
-/
import Derived.Test.YtmlbinbhicdljaaDoorEC
namespace Go.Proofs.YtmlbinbhicdljaaDoor
open Go Go.RowKit

/-- no text is greater than texts can be -/
def Mx (l : List Fd) : Prop := ∀ x ∈ l, x.1.size ≤ szM ∧ x.2.size ≤ szM
theorem Mx.at0 {l : List Fd} (h : Mx l) {k : Nat} (hk : k < l.length) : l[k].1.size ≤ szM ∧ l[k].2.size ≤ szM := h _ (List.getElem_mem hk)

set_option maxHeartbeats 4000000 in
theorem of_any (A : Option Addr) (n c : Nat) (l : List Fd) (name : ByteArray) (w : World) (hn : l.length = n) (hm : n ≤ 1000000) (hM : Mx l) (hname : name.size ≤ szM) (hs : FdAt w w.heap.size A l) :
    Calls Tryd.prog 17 #[.slice A n c, .string name] w fun e w' => ∃ v, e = .returned v ∧ OwnX w' w.heap.size v (ofD l name) ∧ Below w.heap.size w w' := by
  have HS := Lib.hid hs
  have HL := Lib.hid hn
  have HM := Lib.hid hM
  clear hs hn hM
  go_enter Tryd.func17, Tryd.ntmps17
  go_wp2
  go_loopw [5, 10] (fun vl i wr => ∃ k : Nat, k ≤ n ∧ i = .int .i64 k ∧ OwnX wr w.heap.size vl (ofD (l.take k) name) ∧ Below w.heap.size w wr) (fun _ i _ => n - (intOf i).toNat)
  case atStart => exact ⟨0, Nat.zero_le _, rfl, by rw [List.take_zero]; exact World.ownsRow_nil _ _ _ _, Below.refl _ _⟩
  case round =>
    obtain ⟨k, hk, rfl, hown, hbel⟩ := hrel
    by_cases hlt : k < n
    · have hal : (ofD (l.take k) name).length ≤ 1000000 := by have := ofD_len (l.take k) name; have := HL.out; rw [List.length_take] at *; omega
      have hkl : k < l.length := by have := HL.out; omega
      obtain ⟨b, o, rfl, hb, hc⟩ := (HS.out.below hbel (Nat.le_refl _)) (by omega)
      obtain ⟨c0, c1⟩ := hc k hkl
      clear hc
      obtain ⟨hx, hy⟩ := HM.out.at0 hkl
      have HT := Lib.hid (ofD_snoc name hkl)
      obtain ⟨X, hX⟩ : ∃ X, Hid (l[k] = X) := ⟨l[k], rfl⟩
      rw [hX.out] at HT c0 c1 hx hy
      clear hX
      obtain ⟨x, y⟩ := X
      simp only at c0 c1 hx hy HT
      have hbz : b < wr.heap.size := by have := hbel.size; omega
      have hA := fun W => alike_any x name W hx hname
      have hwz := hbel.size
      have hC := fun W => clone_any y W (by unfold szM at hy; omega)
      obtain ⟨acc, hac⟩ : ∃ acc, Hid (ofD (l.take k) name = acc) := ⟨_, rfl⟩
      rw [hac.out] at hown HT hal
      cases hq : alikeD x name with
      | true =>
        have HF : Hid (ofD (l.take (k + 1)) name = acc ++ [y]) := by unfold Hid; rw [HT.out, if_pos hq]
        rw [hq] at hA
        clear HT hac hq
        go_wp2_with (first
          | (go_at_call 35; with_reducible refine (hA _).mono ?_; rintro e w1 ⟨rfl, hb1⟩; obtain ⟨k0, k1, f0, f1, lz, E1⟩ := one_cells hb1; have B1 := hbel.trans (E1.mono hwz); have own1 := Below.ownF hown E1; clear hb1 E1 hown)
          | (go_at_call 36; with_reducible refine (hC _).mono ?_; rintro e w2 ⟨rfl, hb2⟩; have B2 := B1.trans (hb2.mono B1.size); have own2 := Below.ownF own1 hb2; clear hb2 own1; have tok : True := trivial)
          | (at_builtin; have _t := tok; refine app_tx_at w2 w2.heap.size rfl (by rfl) _ _ (by rfl) w.heap.size _ acc y (by rfl) own2 (by rfl) (by omega) B2.size ?_; intro v6 w6 hown6 hgrow; have B6 : Below w.heap.size w w6 := below_app B2 B2.size own2 hgrow; clear hgrow own2 tok))
        go_roundw
        case rel => exact ⟨k + 1, by omega, by go_num, by rw [HF.out]; exact hown6, B6⟩
        case measure => simp [intOf]; omega
      | false =>
        have HF : Hid (ofD (l.take (k + 1)) name = acc) := by unfold Hid; rw [HT.out, if_neg (by rw [hq]; exact Bool.false_ne_true)]
        rw [hq] at hA
        clear HT hac hq
        go_wp2_with (go_at_call 35; with_reducible refine (hA _).mono ?_; rintro e w1 ⟨rfl, hb1⟩; obtain ⟨k0, k1, f0, f1, lz, E1⟩ := one_cells hb1; have B1 := hbel.trans (E1.mono hwz); have own1 := Below.ownF hown E1; clear hb1 E1 hown)
        go_roundw
        case rel => exact ⟨k + 1, by omega, by go_num, by rw [HF.out]; exact own1, B1⟩
        case measure => simp [intOf]; omega
    · obtain rfl : k = n := by omega
      have HF : Hid (l.take k = l) := List.take_of_length_le (by have := HL.out; omega)
      rw [HF.out] at hown
      go_wp2
      go_ret
      exact ⟨_, rfl, hown, hbel⟩

set_option maxHeartbeats 4000000 in
theorem rof_any (A : Option Addr) (n c : Nat) (l : List Fd) (name : ByteArray) (w : World) (hn : l.length = n) (hm : n ≤ 1000000) (hM : Mx l) (hname : name.size ≤ szM) (hs : FdAt w w.heap.size A l) :
    Calls Tryd.prog 18 #[.slice A n c, .string name] w fun e w' => ∃ v, e = .returned v ∧ OwnX w' w.heap.size v (ofD l name) ∧ Below w.heap.size w w' := by
  have HS := Lib.hid hs
  have HL := Lib.hid hn
  have HM := Lib.hid hM
  clear hs hn hM
  go_enter Tryd.func18, Tryd.ntmps18
  go_wp2
  go_loopw [5, 10] (fun vl i wr => ∃ k : Nat, k ≤ n ∧ i = .int .i64 k ∧ OwnX wr w.heap.size vl (ofD (l.take k) name) ∧ Below w.heap.size w wr) (fun _ i _ => n - (intOf i).toNat)
  case atStart => exact ⟨0, Nat.zero_le _, rfl, by rw [List.take_zero]; exact World.ownsRow_nil _ _ _ _, Below.refl _ _⟩
  case round =>
    obtain ⟨k, hk, rfl, hown, hbel⟩ := hrel
    by_cases hlt : k < n
    · have hal : (ofD (l.take k) name).length ≤ 1000000 := by have := ofD_len (l.take k) name; have := HL.out; rw [List.length_take] at *; omega
      have hkl : k < l.length := by have := HL.out; omega
      obtain ⟨b, o, rfl, hb, hc⟩ := (HS.out.below hbel (Nat.le_refl _)) (by omega)
      obtain ⟨c0, c1⟩ := hc k hkl
      clear hc
      obtain ⟨hx, hy⟩ := HM.out.at0 hkl
      have HT := Lib.hid (ofD_snoc name hkl)
      obtain ⟨X, hX⟩ : ∃ X, Hid (l[k] = X) := ⟨l[k], rfl⟩
      rw [hX.out] at HT c0 c1 hx hy
      clear hX
      obtain ⟨x, y⟩ := X
      simp only at c0 c1 hx hy HT
      have hbz : b < wr.heap.size := by have := hbel.size; omega
      have hA := fun W => ralike_any x name W hx hname
      have hwz := hbel.size
      have hC := fun W => clone_any y W (by unfold szM at hy; omega)
      obtain ⟨acc, hac⟩ : ∃ acc, Hid (ofD (l.take k) name = acc) := ⟨_, rfl⟩
      rw [hac.out] at hown HT hal
      cases hq : alikeD x name with
      | true =>
        have HF : Hid (ofD (l.take (k + 1)) name = acc ++ [y]) := by unfold Hid; rw [HT.out, if_pos hq]
        rw [hq] at hA
        clear HT hac hq
        go_wp2_with (first
          | (go_at_call 37; with_reducible refine (hA _).mono ?_; rintro e w1 ⟨rfl, hb1⟩; obtain ⟨k0, k1, f0, f1, lz, E1⟩ := one_cells hb1; have B1 := hbel.trans (E1.mono hwz); have own1 := Below.ownF hown E1; clear hb1 E1 hown; have tok : True := trivial)
          | (at_builtin; have _t := tok; refine app_tx_at w1 w1.heap.size rfl (by rfl) _ _ (by rfl) w.heap.size _ acc y (by rfl) own1 (by rfl) (by omega) B1.size ?_; intro v6 w6 hown6 hgrow; have B6 : Below w.heap.size w w6 := below_app B1 B1.size own1 hgrow; clear hgrow own1 tok))
        go_roundw
        case rel => exact ⟨k + 1, by omega, by go_num, by rw [HF.out]; exact hown6, B6⟩
        case measure => simp [intOf]; omega
      | false =>
        have HF : Hid (ofD (l.take (k + 1)) name = acc) := by unfold Hid; rw [HT.out, if_neg (by rw [hq]; exact Bool.false_ne_true)]
        rw [hq] at hA
        clear HT hac hq
        go_wp2_with (go_at_call 37; with_reducible refine (hA _).mono ?_; rintro e w1 ⟨rfl, hb1⟩; obtain ⟨k0, k1, f0, f1, lz, E1⟩ := one_cells hb1; have B1 := hbel.trans (E1.mono hwz); have own1 := Below.ownF hown E1; clear hb1 E1 hown)
        go_roundw
        case rel => exact ⟨k + 1, by omega, by go_num, by rw [HF.out]; exact own1, B1⟩
        case measure => simp [intOf]; omega
    · obtain rfl : k = n := by omega
      have HF : Hid (l.take k = l) := List.take_of_length_le (by have := HL.out; omega)
      rw [HF.out] at hown
      go_wp2
      go_ret
      exact ⟨_, rfl, hown, hbel⟩

set_option maxHeartbeats 4000000 in
theorem wo_any (A : Option Addr) (n c : Nat) (l : List Fd) (name : ByteArray) (w : World) (hn : l.length = n) (hm : n ≤ 1000000) (hM : Mx l) (hname : name.size ≤ szM) (hs : FdAt w w.heap.size A l) :
    Calls Tryd.prog 22 #[.slice A n c, .string name] w fun e w' => ∃ v, e = .returned v ∧ OwnF w' w.heap.size v (woD l name) ∧ Below w.heap.size w w' := by
  have HS := Lib.hid hs
  have HL := Lib.hid hn
  have HM := Lib.hid hM
  clear hs hn hM
  go_enter Tryd.func22, Tryd.ntmps22
  go_wp2
  go_loopw [5, 10] (fun vl i wr => ∃ k : Nat, k ≤ n ∧ i = .int .i64 k ∧ OwnF wr w.heap.size vl (woD (l.take k) name) ∧ Below w.heap.size w wr) (fun _ i _ => n - (intOf i).toNat)
  case atStart => exact ⟨0, Nat.zero_le _, rfl, by rw [List.take_zero]; exact World.ownsRow_nil _ _ _ _, Below.refl _ _⟩
  case round =>
    obtain ⟨k, hk, rfl, hown, hbel⟩ := hrel
    by_cases hlt : k < n
    · have hal : (woD (l.take k) name).length ≤ 1000000 := by have := woD_len (l.take k) name; have := HL.out; rw [List.length_take] at *; omega
      have hkl : k < l.length := by have := HL.out; omega
      obtain ⟨b, o, rfl, hb, hc⟩ := (HS.out.below hbel (Nat.le_refl _)) (by omega)
      obtain ⟨c0, c1⟩ := hc k hkl
      clear hc
      obtain ⟨hx, hy⟩ := HM.out.at0 hkl
      have HT := Lib.hid (woD_snoc name hkl)
      obtain ⟨X, hX⟩ : ∃ X, Hid (l[k] = X) := ⟨l[k], rfl⟩
      rw [hX.out] at HT c0 c1 hx hy
      clear hX
      obtain ⟨x, y⟩ := X
      simp only at c0 c1 hx hy HT
      have hbz : b < wr.heap.size := by have := hbel.size; omega
      have hA := fun W => alike_any x name W hx hname
      have hwz := hbel.size
      have hC := fun W => newField_any x y W hx hy
      obtain ⟨acc, hac⟩ : ∃ acc, Hid (woD (l.take k) name = acc) := ⟨_, rfl⟩
      rw [hac.out] at hown HT hal
      cases hq : alikeD x name with
      | false =>
        have HF : Hid (woD (l.take (k + 1)) name = acc ++ [(x, y)]) := by unfold Hid; rw [HT.out, if_neg (by rw [hq]; exact Bool.false_ne_true)]
        rw [hq] at hA
        clear HT hac hq
        go_wp2_with (first
          | (go_at_call 35; with_reducible refine (hA _).mono ?_; rintro e w1 ⟨rfl, hb1⟩; obtain ⟨k0, k1, f0, f1, lz, E1⟩ := one_cells hb1; have B1 := hbel.trans (E1.mono hwz); have own1 := Below.ownF hown E1; clear hb1 E1 hown)
          | (go_at_call 38; with_reducible refine (hC _).mono ?_; rintro e w2 ⟨rfl, hb2⟩; have B2 := B1.trans (hb2.mono B1.size); have own2 := Below.ownF own1 hb2; clear hb2 own1; have tok : True := trivial)
          | (at_builtin; have _t := tok; refine app_fd_at w2 w2.heap.size rfl (by rfl) _ _ (by rfl) w.heap.size _ acc x y (by rfl) own2 (by rfl) (by omega) B2.size ?_; intro v6 w6 hown6 hgrow; have B6 : Below w.heap.size w w6 := below_app B2 B2.size own2 hgrow; clear hgrow own2 tok))
        go_roundw
        case rel => exact ⟨k + 1, by omega, by go_num, by rw [HF.out]; exact hown6, B6⟩
        case measure => simp [intOf]; omega
      | true =>
        have HF : Hid (woD (l.take (k + 1)) name = acc) := by unfold Hid; rw [HT.out, if_pos hq]
        rw [hq] at hA
        clear HT hac hq
        go_wp2_with (go_at_call 35; with_reducible refine (hA _).mono ?_; rintro e w1 ⟨rfl, hb1⟩; obtain ⟨k0, k1, f0, f1, lz, E1⟩ := one_cells hb1; have B1 := hbel.trans (E1.mono hwz); have own1 := Below.ownF hown E1; clear hb1 E1 hown)
        go_roundw
        case rel => exact ⟨k + 1, by omega, by go_num, by rw [HF.out]; exact own1, B1⟩
        case measure => simp [intOf]; omega
    · obtain rfl : k = n := by omega
      have HF : Hid (l.take k = l) := List.take_of_length_le (by have := HL.out; omega)
      rw [HF.out] at hown
      go_wp2
      go_ret
      exact ⟨_, rfl, hown, hbel⟩

set_option maxHeartbeats 4000000 in
theorem rwo_any (A : Option Addr) (n c : Nat) (l : List Fd) (name : ByteArray) (w : World) (hn : l.length = n) (hm : n ≤ 1000000) (hM : Mx l) (hname : name.size ≤ szM) (hs : FdAt w w.heap.size A l) :
    Calls Tryd.prog 23 #[.slice A n c, .string name] w fun e w' => ∃ v, e = .returned v ∧ OwnF w' w.heap.size v (woD l name) ∧ Below w.heap.size w w' := by
  have HS := Lib.hid hs
  have HL := Lib.hid hn
  have HM := Lib.hid hM
  clear hs hn hM
  go_enter Tryd.func23, Tryd.ntmps23
  go_wp2
  go_loopw [5, 10] (fun vl i wr => ∃ k : Nat, k ≤ n ∧ i = .int .i64 k ∧ OwnF wr w.heap.size vl (woD (l.take k) name) ∧ Below w.heap.size w wr) (fun _ i _ => n - (intOf i).toNat)
  case atStart => exact ⟨0, Nat.zero_le _, rfl, by rw [List.take_zero]; exact World.ownsRow_nil _ _ _ _, Below.refl _ _⟩
  case round =>
    obtain ⟨k, hk, rfl, hown, hbel⟩ := hrel
    by_cases hlt : k < n
    · have hal : (woD (l.take k) name).length ≤ 1000000 := by have := woD_len (l.take k) name; have := HL.out; rw [List.length_take] at *; omega
      have hkl : k < l.length := by have := HL.out; omega
      obtain ⟨b, o, rfl, hb, hc⟩ := (HS.out.below hbel (Nat.le_refl _)) (by omega)
      obtain ⟨c0, c1⟩ := hc k hkl
      clear hc
      obtain ⟨hx, hy⟩ := HM.out.at0 hkl
      have HT := Lib.hid (woD_snoc name hkl)
      obtain ⟨X, hX⟩ : ∃ X, Hid (l[k] = X) := ⟨l[k], rfl⟩
      rw [hX.out] at HT c0 c1 hx hy
      clear hX
      obtain ⟨x, y⟩ := X
      simp only at c0 c1 hx hy HT
      have hbz : b < wr.heap.size := by have := hbel.size; omega
      have hA := fun W => ralike_any x name W hx hname
      have hwz := hbel.size
      have hC := fun W => newField_any x y W hx hy
      obtain ⟨acc, hac⟩ : ∃ acc, Hid (woD (l.take k) name = acc) := ⟨_, rfl⟩
      rw [hac.out] at hown HT hal
      cases hq : alikeD x name with
      | false =>
        have HF : Hid (woD (l.take (k + 1)) name = acc ++ [(x, y)]) := by unfold Hid; rw [HT.out, if_neg (by rw [hq]; exact Bool.false_ne_true)]
        rw [hq] at hA
        clear HT hac hq
        go_wp2_with (first
          | (go_at_call 37; with_reducible refine (hA _).mono ?_; rintro e w1 ⟨rfl, hb1⟩; obtain ⟨k0, k1, f0, f1, lz, E1⟩ := one_cells hb1; have B1 := hbel.trans (E1.mono hwz); have own1 := Below.ownF hown E1; clear hb1 E1 hown; have tok : True := trivial)
          | (at_builtin; have _t := tok; refine app_fd_at w1 w1.heap.size rfl (by rfl) _ _ (by rfl) w.heap.size _ acc x y (by rfl) own1 (by rfl) (by omega) B1.size ?_; intro v6 w6 hown6 hgrow; have B6 : Below w.heap.size w w6 := below_app B1 B1.size own1 hgrow; clear hgrow own1 tok))
        go_roundw
        case rel => exact ⟨k + 1, by omega, by go_num, by rw [HF.out]; exact hown6, B6⟩
        case measure => simp [intOf]; omega
      | true =>
        have HF : Hid (woD (l.take (k + 1)) name = acc) := by unfold Hid; rw [HT.out, if_pos hq]
        rw [hq] at hA
        clear HT hac hq
        go_wp2_with (go_at_call 37; with_reducible refine (hA _).mono ?_; rintro e w1 ⟨rfl, hb1⟩; obtain ⟨k0, k1, f0, f1, lz, E1⟩ := one_cells hb1; have B1 := hbel.trans (E1.mono hwz); have own1 := Below.ownF hown E1; clear hb1 E1 hown)
        go_roundw
        case rel => exact ⟨k + 1, by omega, by go_num, by rw [HF.out]; exact own1, B1⟩
        case measure => simp [intOf]; omega
    · obtain rfl : k = n := by omega
      have HF : Hid (l.take k = l) := List.take_of_length_le (by have := HL.out; omega)
      rw [HF.out] at hown
      go_wp2
      go_ret
      exact ⟨_, rfl, hown, hbel⟩

set_option maxHeartbeats 8000000 in
theorem set_any (A : Option Addr) (n c : Nat) (l : List Fd) (name value : ByteArray) (w : World) (hn : l.length = n) (hm : n ≤ 1000000) (hM : Mx l) (hname : name.size ≤ szM) (hvalue : value.size ≤ szM) (hs : FdAt w w.heap.size A l) :
    Calls Tryd.prog 20 #[.slice A n c, .string name, .string value] w fun e w' => ∃ v, e = .returned v ∧ OwnF w' w.heap.size v (setD l name value) ∧ Below w.heap.size w w' := by
  have hD := fun W => newField_any name value W hname hvalue
  have HS := Lib.hid hs
  have HL := Lib.hid hn
  have HM := Lib.hid hM
  clear hs hn hM
  go_enter Tryd.func20, Tryd.ntmps20
  go_wp2
  go_loopw [7, 8, 13] (fun vl vp i wr => ∃ (k : Nat) (p : Bool) (acc : List Fd), k ≤ n ∧ i = .int .i64 k ∧ vp = .bool p ∧ acc.length ≤ k ∧ OwnF wr w.heap.size vl acc ∧ Hid (SetAt l name value k p acc) ∧ Below w.heap.size w wr) (fun _ _ i _ => n - (intOf i).toNat)
  case atStart => exact ⟨0, false, [], Nat.zero_le _, rfl, rfl, Nat.le_refl _, World.ownsRow_nil _ _ _ _, by unfold Hid SetAt; simp [setD], Below.refl _ _⟩
  case round =>
    obtain ⟨k, p, acc, hk, rfl, rfl, hal, hown, HG, hbel⟩ := hrel
    by_cases hlt : k < n
    · have hkl : k < l.length := by have := HL.out; omega
      obtain ⟨b, o, rfl, hb, hc⟩ := (HS.out.below hbel (Nat.le_refl _)) (by omega)
      obtain ⟨c0, c1⟩ := hc k hkl
      clear hc
      obtain ⟨hx, hy⟩ := HM.out.at0 hkl
      have HT := Lib.hid (HG.out.more hkl)
      obtain ⟨X, hX⟩ : ∃ X, Hid (l[k] = X) := ⟨l[k], rfl⟩
      rw [hX.out] at HT c0 c1 hx hy
      clear hX
      obtain ⟨x, y⟩ := X
      simp only at c0 c1 hx hy HT
      have hbz : b < wr.heap.size := by have := hbel.size; omega
      have hA := fun W => alike_any x name W hx hname
      have hwz := hbel.size
      have hC := fun W => newField_any x y W hx hy
      clear HG
      cases hq : alikeD x name with
      | false =>
        have HF : Hid (SetAt l name value (k + 1) p (acc ++ [(x, y)])) := by have h := HT.out; rw [if_neg (by rw [hq]; exact Bool.false_ne_true)] at h; exact h
        rw [hq] at hA
        clear HT hq
        go_wp2_with (first
          | (go_at_call 35; with_reducible refine (hA _).mono ?_; rintro e w1 ⟨rfl, hb1⟩; obtain ⟨k0, k1, f0, f1, lz, E1⟩ := one_cells hb1; have B1 := hbel.trans (E1.mono hwz); have own1 := Below.ownF hown E1; clear hb1 E1 hown)
          | (go_at_call 38; with_reducible refine (hC _).mono ?_; rintro e w2 ⟨rfl, hb2⟩; have B2 := B1.trans (hb2.mono B1.size); have own2 := Below.ownF own1 hb2; clear hb2 own1; have tok : True := trivial)
          | (at_builtin; have _t := tok; refine app_fd_at w2 w2.heap.size rfl (by rfl) _ _ (by rfl) w.heap.size _ acc x y (by rfl) own2 (by rfl) (by omega) B2.size ?_; intro v6 w6 hown6 hgrow; have B6 : Below w.heap.size w w6 := below_app B2 B2.size own2 hgrow; clear hgrow own2 tok))
        go_roundw
        case rel => exact ⟨k + 1, p, _, by omega, by go_num, rfl, by simp; omega, hown6, HF, B6⟩
        case measure => simp [intOf]; omega
      | true =>
        rw [hq] at hA
        cases p with
        | true =>
          have HF : Hid (SetAt l name value (k + 1) true acc) := by have h := HT.out; rw [if_pos hq, if_pos rfl] at h; exact h
          clear HT hq
          go_wp2_with (go_at_call 35; with_reducible refine (hA _).mono ?_; rintro e w1 ⟨rfl, hb1⟩; obtain ⟨k0, k1, f0, f1, lz, E1⟩ := one_cells hb1; have B1 := hbel.trans (E1.mono hwz); have own1 := Below.ownF hown E1; clear hb1 E1 hown)
          go_roundw
          case rel => exact ⟨k + 1, true, acc, by omega, by go_num, rfl, by omega, own1, HF, B1⟩
          case measure => simp [intOf]; omega
        | false =>
          have HF : Hid (SetAt l name value (k + 1) true (acc ++ [(name, value)])) := by have h := HT.out; rw [if_pos hq, if_neg Bool.false_ne_true] at h; exact h
          clear HT hq
          go_wp2_with (first
            | (go_at_call 35; with_reducible refine (hA _).mono ?_; rintro e w1 ⟨rfl, hb1⟩; obtain ⟨k0, k1, f0, f1, lz, E1⟩ := one_cells hb1; have B1 := hbel.trans (E1.mono hwz); have own1 := Below.ownF hown E1; clear hb1 E1 hown)
            | (go_at_call 38; with_reducible refine (hD _).mono ?_; rintro e w2 ⟨rfl, hb2⟩; have B2 := B1.trans (hb2.mono B1.size); have own2 := Below.ownF own1 hb2; clear hb2 own1; have tok : True := trivial)
            | (at_builtin; have _t := tok; refine app_fd_at w2 w2.heap.size rfl (by rfl) _ _ (by rfl) w.heap.size _ acc name value (by rfl) own2 (by rfl) (by omega) B2.size ?_; intro v6 w6 hown6 hgrow; have B6 : Below w.heap.size w w6 := below_app B2 B2.size own2 hgrow; clear hgrow own2 tok))
          go_roundw
          case rel => exact ⟨k + 1, true, _, by omega, by go_num, rfl, by simp; omega, hown6, HF, B6⟩
          case measure => simp [intOf]; omega
    · obtain rfl : k = n := by omega
      have HZ : Hid (setD l name value = if p then acc else acc ++ [(name, value)]) := by have h := HG.out; rw [← HL.out] at h; exact h.fin
      cases p with
      | true =>
        have HF : Hid (setD l name value = acc) := by unfold Hid; rw [HZ.out]; rfl
        go_wp2
        go_ret
        exact ⟨_, rfl, by rw [HF.out]; exact hown, hbel⟩
      | false =>
        have HF : Hid (setD l name value = acc ++ [(name, value)]) := by unfold Hid; rw [HZ.out]; rfl
        clear HG HZ
        go_wp2_with (first
          | (go_at_call 38; with_reducible refine (hD _).mono ?_; rintro e w2 ⟨rfl, hb2⟩; have B2 := hbel.trans (hb2.mono hbel.size); have own2 := Below.ownF hown hb2; clear hb2 hown; have tok : True := trivial)
          | (at_builtin; have _t := tok; refine app_fd_at w2 w2.heap.size rfl (by rfl) _ _ (by rfl) w.heap.size _ acc name value (by rfl) own2 (by rfl) (by omega) B2.size ?_; intro v6 w6 hown6 hgrow; have B6 : Below w.heap.size w w6 := below_app B2 B2.size own2 hgrow; clear hgrow own2 tok))
        go_ret
        exact ⟨_, rfl, by rw [HF.out]; exact hown6, B6⟩

set_option maxHeartbeats 8000000 in
theorem rset_any (A : Option Addr) (n c : Nat) (l : List Fd) (name value : ByteArray) (w : World) (hn : l.length = n) (hm : n ≤ 1000000) (hM : Mx l) (hname : name.size ≤ szM) (hvalue : value.size ≤ szM) (hs : FdAt w w.heap.size A l) :
    Calls Tryd.prog 21 #[.slice A n c, .string name, .string value] w fun e w' => ∃ v, e = .returned v ∧ OwnF w' w.heap.size v (setD l name value) ∧ Below w.heap.size w w' := by
  have hD := fun W => newField_any name value W hname hvalue
  have HS := Lib.hid hs
  have HL := Lib.hid hn
  have HM := Lib.hid hM
  clear hs hn hM
  go_enter Tryd.func21, Tryd.ntmps21
  go_wp2
  go_loopw [7, 8, 13] (fun vl vp i wr => ∃ (k : Nat) (p : Bool) (acc : List Fd), k ≤ n ∧ i = .int .i64 k ∧ vp = .bool p ∧ acc.length ≤ k ∧ OwnF wr w.heap.size vl acc ∧ Hid (SetAt l name value k p acc) ∧ Below w.heap.size w wr) (fun _ _ i _ => n - (intOf i).toNat)
  case atStart => exact ⟨0, false, [], Nat.zero_le _, rfl, rfl, Nat.le_refl _, World.ownsRow_nil _ _ _ _, by unfold Hid SetAt; simp [setD], Below.refl _ _⟩
  case round =>
    obtain ⟨k, p, acc, hk, rfl, rfl, hal, hown, HG, hbel⟩ := hrel
    by_cases hlt : k < n
    · have hkl : k < l.length := by have := HL.out; omega
      obtain ⟨b, o, rfl, hb, hc⟩ := (HS.out.below hbel (Nat.le_refl _)) (by omega)
      obtain ⟨c0, c1⟩ := hc k hkl
      clear hc
      obtain ⟨hx, hy⟩ := HM.out.at0 hkl
      have HT := Lib.hid (HG.out.more hkl)
      obtain ⟨X, hX⟩ : ∃ X, Hid (l[k] = X) := ⟨l[k], rfl⟩
      rw [hX.out] at HT c0 c1 hx hy
      clear hX
      obtain ⟨x, y⟩ := X
      simp only at c0 c1 hx hy HT
      have hbz : b < wr.heap.size := by have := hbel.size; omega
      have hA := fun W => ralike_any x name W hx hname
      have hwz := hbel.size
      have hC := fun W => newField_any x y W hx hy
      clear HG
      cases hq : alikeD x name with
      | false =>
        have HF : Hid (SetAt l name value (k + 1) p (acc ++ [(x, y)])) := by have h := HT.out; rw [if_neg (by rw [hq]; exact Bool.false_ne_true)] at h; exact h
        rw [hq] at hA
        clear HT hq
        go_wp2_with (first
          | (go_at_call 37; with_reducible refine (hA _).mono ?_; rintro e w1 ⟨rfl, hb1⟩; obtain ⟨k0, k1, f0, f1, lz, E1⟩ := one_cells hb1; have B1 := hbel.trans (E1.mono hwz); have own1 := Below.ownF hown E1; clear hb1 E1 hown; have tok : True := trivial)
          | (at_builtin; have _t := tok; refine app_fd_at w1 w1.heap.size rfl (by rfl) _ _ (by rfl) w.heap.size _ acc x y (by rfl) own1 (by rfl) (by omega) B1.size ?_; intro v6 w6 hown6 hgrow; have B6 : Below w.heap.size w w6 := below_app B1 B1.size own1 hgrow; clear hgrow own1 tok))
        go_roundw
        case rel => exact ⟨k + 1, p, _, by omega, by go_num, rfl, by simp; omega, hown6, HF, B6⟩
        case measure => simp [intOf]; omega
      | true =>
        rw [hq] at hA
        cases p with
        | true =>
          have HF : Hid (SetAt l name value (k + 1) true acc) := by have h := HT.out; rw [if_pos hq, if_pos rfl] at h; exact h
          clear HT hq
          go_wp2_with (go_at_call 37; with_reducible refine (hA _).mono ?_; rintro e w1 ⟨rfl, hb1⟩; obtain ⟨k0, k1, f0, f1, lz, E1⟩ := one_cells hb1; have B1 := hbel.trans (E1.mono hwz); have own1 := Below.ownF hown E1; clear hb1 E1 hown)
          go_roundw
          case rel => exact ⟨k + 1, true, acc, by omega, by go_num, rfl, by omega, own1, HF, B1⟩
          case measure => simp [intOf]; omega
        | false =>
          have HF : Hid (SetAt l name value (k + 1) true (acc ++ [(name, value)])) := by have h := HT.out; rw [if_pos hq, if_neg Bool.false_ne_true] at h; exact h
          clear HT hq
          go_wp2_with (first
            | (go_at_call 37; with_reducible refine (hA _).mono ?_; rintro e w1 ⟨rfl, hb1⟩; obtain ⟨k0, k1, f0, f1, lz, E1⟩ := one_cells hb1; have B1 := hbel.trans (E1.mono hwz); have own1 := Below.ownF hown E1; clear hb1 E1 hown; have tok : True := trivial)
            | (at_builtin; have _t := tok; refine app_fd_at w1 w1.heap.size rfl (by rfl) _ _ (by rfl) w.heap.size _ acc name value (by rfl) own1 (by rfl) (by omega) B1.size ?_; intro v6 w6 hown6 hgrow; have B6 : Below w.heap.size w w6 := below_app B1 B1.size own1 hgrow; clear hgrow own1 tok))
          go_roundw
          case rel => exact ⟨k + 1, true, _, by omega, by go_num, rfl, by simp; omega, hown6, HF, B6⟩
          case measure => simp [intOf]; omega
    · obtain rfl : k = n := by omega
      have HZ : Hid (setD l name value = if p then acc else acc ++ [(name, value)]) := by have h := HG.out; rw [← HL.out] at h; exact h.fin
      cases p with
      | true =>
        have HF : Hid (setD l name value = acc) := by unfold Hid; rw [HZ.out]; rfl
        go_wp2
        go_ret
        exact ⟨_, rfl, by rw [HF.out]; exact hown, hbel⟩
      | false =>
        have HF : Hid (setD l name value = acc ++ [(name, value)]) := by unfold Hid; rw [HZ.out]; rfl
        clear HG HZ
        have tok : True := trivial
        go_wp2_with (at_builtin; have _t := tok; refine app_fd_at wr wr.heap.size rfl (by rfl) _ _ (by rfl) w.heap.size _ acc name value (by rfl) hown (by rfl) (by omega) hbel.size ?_; intro v6 w6 hown6 hgrow; have B6 : Below w.heap.size w w6 := below_app hbel hbel.size hown hgrow; clear hgrow hown tok)
        go_ret
        exact ⟨_, rfl, by rw [HF.out]; exact hown6, B6⟩

set_option maxHeartbeats 4000000 in
theorem get_any (A : Option Addr) (n c : Nat) (l : List Fd) (name : ByteArray) (w : World) (hn : l.length = n) (hm : n ≤ 1000000) (hM : Mx l) (hname : name.size ≤ szM) (hs : FdAt w w.heap.size A l) :
    Calls Tryd.prog 14 #[.slice A n c, .string name] w fun e w' => e = .returned (.tuple #[.string (getD l name).1, .bool (getD l name).2]) ∧ Below w.heap.size w w' := by
  have HS := Lib.hid hs
  have HL := Lib.hid hn
  have HM := Lib.hid hM
  clear hs hn hM
  go_enter Tryd.func14, Tryd.ntmps14
  go_wp2
  go_loopw [10] (fun i wr => ∃ k : Nat, k ≤ n ∧ i = .int .i64 k ∧ Hid (ofD (l.take k) name = []) ∧ Below w.heap.size w wr) (fun i _ => n - (intOf i).toNat)
  case atStart => exact ⟨0, Nat.zero_le _, rfl, rfl, Below.refl _ _⟩
  case round =>
    obtain ⟨k, hk, rfl, HG, hbel⟩ := hrel
    by_cases hlt : k < n
    · have hkl : k < l.length := by have := HL.out; omega
      obtain ⟨b, o, rfl, hb, hc⟩ := (HS.out.below hbel (Nat.le_refl _)) (by omega)
      obtain ⟨c0, c1⟩ := hc k hkl
      clear hc
      obtain ⟨hx, hy⟩ := HM.out.at0 hkl
      have HT := Lib.hid (And.intro (ofD_snoc name hkl) (getD_at hkl HG.out))
      obtain ⟨X, hX⟩ : ∃ X, Hid (l[k] = X) := ⟨l[k], rfl⟩
      rw [hX.out] at HT c0 c1 hx hy
      clear hX
      obtain ⟨x, y⟩ := X
      simp only at c0 c1 hx hy HT
      have hbz : b < wr.heap.size := by have := hbel.size; omega
      have hA := fun W => alike_any x name W hx hname
      have hwz := hbel.size
      have hC := fun W => clone_any y W (by unfold szM at hy; omega)
      cases hq : alikeD x name with
      | true =>
        have HF : Hid (getD l name = (y, true)) := HT.out.2 hq
        rw [hq] at hA
        clear HT hq HG
        go_wp2_with (first
          | (go_at_call 35; with_reducible refine (hA _).mono ?_; rintro e w1 ⟨rfl, hb1⟩; obtain ⟨k0, k1, f0, f1, lz, E1⟩ := one_cells hb1; have B1 := hbel.trans (E1.mono hwz); clear hb1 E1)
          | (go_at_call 36; with_reducible refine (hC _).mono ?_; rintro e w2 ⟨rfl, hb2⟩; have B2 := B1.trans (hb2.mono B1.size); clear hb2))
        exact bodyPost_ret (v := .tuple #[.string y, .bool true]) (by simp [results, Tryd.results14, go_sem]) rfl ⟨by rw [HF.out], B2⟩
      | false =>
        have HF : Hid (ofD (l.take (k + 1)) name = []) := by unfold Hid; rw [HT.out.1, if_neg (by rw [hq]; exact Bool.false_ne_true)]; exact HG.out
        rw [hq] at hA
        clear HT hq HG
        go_wp2_with (go_at_call 35; with_reducible refine (hA _).mono ?_; rintro e w1 ⟨rfl, hb1⟩; obtain ⟨k0, k1, f0, f1, lz, E1⟩ := one_cells hb1; have B1 := hbel.trans (E1.mono hwz); clear hb1 E1)
        go_roundw
        case rel => exact ⟨k + 1, by omega, by go_num, HF, B1⟩
        case measure => simp [intOf]; omega
    · obtain rfl : k = n := by omega
      have HF : Hid (getD l name = (⟨#[]⟩, false)) := getD_none (by have h := HG.out; rwa [List.take_of_length_le (by have := HL.out; omega)] at h)
      clear HG
      go_wp2_with fail
      exact bodyPost_ret (v := .tuple #[.string ⟨#[]⟩, .bool false]) (by simp [results, Tryd.results14, go_sem]) rfl ⟨by rw [HF.out], hbel⟩

set_option maxHeartbeats 4000000 in
theorem rget_any (A : Option Addr) (n c : Nat) (l : List Fd) (name : ByteArray) (w : World) (hn : l.length = n) (hm : n ≤ 1000000) (hM : Mx l) (hname : name.size ≤ szM) (hs : FdAt w w.heap.size A l) :
    Calls Tryd.prog 15 #[.slice A n c, .string name] w fun e w' => e = .returned (.tuple #[.string (getD l name).1, .bool (getD l name).2]) ∧ Below w.heap.size w w' := by
  have hO := rof_any A n c l name w hn hm hM hname hs
  have HSO := Lib.hid (And.intro (getD_none (l := l) (name := name)) (getD_some (l := l) (name := name)))
  generalize getD l name = G at *
  generalize ofD l name = L at *
  clear hn hm hM hs
  go_enter Tryd.func15, Tryd.ntmps15
  go_wp2_with fail
  with_reducible refine hO.mono ?_
  rintro e w1 ⟨v, rfl, hown, hb⟩
  obtain ⟨A2, n2, c2, rfl, HN, hc2, ht⟩ := (IsTx.own hown).split
  clear hown hO
  by_cases h0 : n2 = 0
  · subst h0
    have HF : Hid (G = (⟨#[]⟩, false)) := HSO.out.1 (List.eq_nil_of_length_eq_zero HN.out)
    clear HSO
    go_wp2_with fail
    exact bodyPost_ret (v := .tuple #[.string ⟨#[]⟩, .bool false]) (by simp [results, Tryd.results15, go_sem]) rfl ⟨by rw [HF.out], hb⟩
  · have h1 : 0 < L.length := by have := HN.out; omega
    have HF : Hid (G = (L[0], true)) := HSO.out.2 h1
    obtain ⟨b, o, rfl, hbb, hc⟩ := ht h1
    have c0 := hc 0 h1
    rw [Nat.add_zero] at c0
    have d0 : (0 : Int) < (n2 : Int) := by omega
    have d1 : 0 < n2 := by omega
    have b0 : ((n2 : Int) == 0) = false := beqi_f (by omega)
    clear HSO hc
    generalize hy : L[0] = y at *
    go_wp2_with fail
    exact bodyPost_ret (v := .tuple #[.string y, .bool true]) (by simp [results, Tryd.results15, go_sem]) rfl ⟨by rw [HF.out], hb⟩
end Go.Proofs.YtmlbinbhicdljaaDoor
