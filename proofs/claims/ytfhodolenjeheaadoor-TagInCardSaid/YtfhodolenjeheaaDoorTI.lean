/-
  One of a list is a tag, by the reference.
-/
import Derived.Test.YtfhodolenjeheaaDoorTD
namespace Go.Proofs.YtfhodolenjeheaaDoor
open Go Go.RowKit

set_option maxHeartbeats 8000000 in
set_option maxRecDepth 100000 in
theorem rin_any (A : Option Addr) (n c : Nat) (l : List Tg) (t : ByteArray) (q st : Bool) (w : World) (hn : l.length = n) (hm : n ≤ 1000000) (hM : Mx l) (ht : t.size ≤ maxLen) (hs : TgAt w w.heap.size A l) :
    Calls Tryd.prog 28 #[.slice A n c, .agg #[.string t, .bool q], .bool st] w fun e w' => e = .returned (.bool (inD l (t, q) st)) ∧ Below w.heap.size w w' := by
  have HS := Lib.hid hs
  have HL := Lib.hid hn
  have HM := Lib.hid hM
  clear hs hn hM
  have hb0 : Below w.heap.size w (w.alloc (.cells #[.string t, .bool q] 23)) := by go_grown
  cases st with
  | true =>
    go_enter Tryd.func28, Tryd.ntmps28
    go_wp2
    go_loopw [7] (fun i wr => ∃ k : Nat, k ≤ n ∧ i = .int .i64 k ∧ Hid (inD (l.take k) (t, q) true = false) ∧ Below (w.heap.size + 1) (w.alloc (.cells #[.string t, .bool q] 23)) wr) (fun i _ => n - (intOf i).toNat)
    case atStart => exact ⟨0, Nat.zero_le _, rfl, rfl, Below.refl _ _⟩
    case round =>
      obtain ⟨k, hk, rfl, HG, hbel⟩ := hrel
      have bw : Below w.heap.size w wr := hb0.trans (hbel.mono (by simp))
      by_cases hlt : k < n
      · have hkl : k < l.length := by have := HL.out; omega
        obtain ⟨b, o, rfl, hb, hc⟩ := (HS.out.below bw (Nat.le_refl _)) (by omega)
        obtain ⟨c0, c1⟩ := hc k hkl
        clear hc
        have hx := HM.out.at_ hkl
        have HT := Lib.hid (inD_take (t := (t, q)) (st := true) hkl)
        have HA := Lib.hid (fun h => inD_at (t := (t, q)) (st := true) hkl h)
        obtain ⟨X, hX⟩ : ∃ X, Hid (l[k] = X) := ⟨l[k], rfl⟩
        rw [hX.out] at HT HA c0 c1 hx
        clear hX
        obtain ⟨x, p⟩ := X
        simp only at c0 c1 hx
        have hbz : b < wr.heap.size := by have := bw.size; omega
        obtain ⟨d0, d1, dz⟩ := cell1 hbel
        have k0 : ∀ W, Ext wr W → W.cell? ⟨b, o + k * 2, none⟩ = some (.string x) := fun W h => by rw [h.cell (p := ⟨b, o + k * 2, none⟩) hbz]; exact c0
        have k1 : ∀ W, Ext wr W → W.cell? ⟨b, o + k * 2 + 1, none⟩ = some (.bool p) := fun W h => by rw [h.cell (p := ⟨b, o + k * 2 + 1, none⟩) hbz]; exact c1
        have m0 : ∀ W, Ext wr W → W.cell? ⟨w.heap.size, 0, none⟩ = some (.string t) := fun W h => by rw [h.cell (p := ⟨w.heap.size, 0, none⟩) dz]; exact d0
        have m1 : ∀ W, Ext wr W → W.cell? ⟨w.heap.size, 1, none⟩ = some (.bool q) := fun W h => by rw [h.cell (p := ⟨w.heap.size, 1, none⟩) dz]; exact d1
        have hA := fun W => rstrong_any x t p q W hx ht
        have HO : Hid (oneD true (x, p) (t, q) = stD (x, p) (t, q)) := rfl
        generalize stD (x, p) (t, q) = r at *
        clear c0 c1 d0 d1
        cases r with
        | true =>
          have HF : Hid (inD l (t, q) true = true) := HA.out HO.out
          clear HT HA HO HG HS HL HM
          go_wp2_with fail
          refine' wp_region_made (rels := relsOf ((.val _) :: (.val _) :: (.val _) :: (.val _) :: (.val _) :: (.val _) :: (.val _) :: (.val _) :: (.val _) :: (.val _) :: (.val _) :: (.val _) :: (.val _) :: (.val _) :: (.val _) :: (.val _) :: (.val _) :: (.val _) :: (.val _) :: (.val _) :: (.val _) :: [])) (w := wr) 35 (by kernel_rfl) (by kernel_rfl) (by rfl) (relsOf_stable ?sttt) ?wktt
          case sttt => exact stable_val (stable_val (stable_val (stable_val (stable_val (stable_val (stable_val (stable_val (stable_val (stable_val (stable_val (stable_val (stable_val (stable_val (stable_val (stable_val (stable_val (stable_val (stable_val (stable_val (stable_val (stable_nil)))))))))))))))))))))
          case wktt =>
            refine' walk_val (by rfl) ?att0 (fun K hK => ?btt0); (case att0 => (intro W hW hd; clear hd; go_simp; first | exact ⟨Ext.rf _, rfl⟩ | rfl)); (go_simp; refine hK _ ?_; clear hK K)
            refine' walk_val (by rfl) ?att1 (fun K hK => ?btt1); (case att1 => (intro W hW hd; clear hd; go_simp; first | exact ⟨Ext.rf _, rfl⟩ | rfl)); (go_simp; refine hK _ ?_; clear hK K)
            refine' walk_val (by rfl) ?att2 (fun K hK => ?btt2); (case att2 => (intro W hW hd; clear hd; go_simp; first | exact ⟨Ext.rf _, rfl⟩ | rfl)); (go_simp; refine hK _ ?_; clear hK K)
            refine' walk_val (by rfl) ?att3 (fun K hK => ?btt3); (case att3 => (intro W hW hd; clear hd; go_simp; first | exact ⟨Ext.rf _, rfl⟩ | rfl)); (go_simp; refine hK _ ?_; clear hK K)
            refine' walk_val (by rfl) ?att4 (fun K hK => ?btt4); (case att4 => (intro W hW hd; clear hd; go_simp; first | exact ⟨Ext.rf _, rfl⟩ | rfl)); (go_simp; refine hK _ ?_; clear hK K)
            refine' walk_val (by rfl) ?att5 (fun K hK => ?btt5); (case att5 => (intro W hW hd; clear hd; go_simp; first | exact ⟨Ext.rf _, rfl⟩ | rfl)); (go_simp; refine hK _ ?_; clear hK K)
            refine' walk_val (by rfl) ?att6 (fun K hK => ?btt6); (case att6 => (intro W hW hd; clear hd; go_simp; first | exact ⟨Ext.rf _, rfl⟩ | rfl)); (go_simp; refine hK _ ?_; clear hK K)
            refine' walk_val (by rfl) ?att7 (fun K hK => ?btt7); (case att7 => (intro W hW hd; go_simp; (clear hd; exact makes_val (hA _)))); (go_simp; refine hK _ ?_; clear hK K)
            refine' walk_val (by rfl) ?att8 (fun K hK => ?btt8); (case att8 => (intro W hW hd; clear hd; go_simp; first | exact ⟨Ext.rf _, rfl⟩ | rfl)); (go_simp; refine hK _ ?_; clear hK K)
            refine' walk_val (by rfl) ?att9 (fun K hK => ?btt9); (case att9 => (intro W hW hd; clear hd; go_simp; first | exact ⟨Ext.rf _, rfl⟩ | rfl)); (go_simp; refine hK _ ?_; clear hK K)
            refine' walk_val (by rfl) ?att10 (fun K hK => ?btt10); (case att10 => (intro W hW hd; clear hd; go_simp; first | exact ⟨Ext.rf _, rfl⟩ | rfl)); (go_simp; refine hK _ ?_; clear hK K)
            refine' walk_val (by rfl) ?att11 (fun K hK => ?btt11); (case att11 => (intro W hW hd; clear hd; go_simp; first | exact ⟨Ext.rf _, rfl⟩ | rfl)); (go_simp; refine hK _ ?_; clear hK K)
            refine' walk_val (by rfl) ?att12 (fun K hK => ?btt12); (case att12 => (intro W hW hd; clear hd; go_simp; first | exact ⟨Ext.rf _, rfl⟩ | rfl)); (go_simp; refine hK _ ?_; clear hK K)
            refine' walk_val (by rfl) ?att13 (fun K hK => ?btt13); (case att13 => (intro W hW hd; clear hd; go_simp; first | exact ⟨Ext.rf _, rfl⟩ | rfl)); (go_simp; refine hK _ ?_; clear hK K)
            refine' walk_val (by rfl) ?att14 (fun K hK => ?btt14); (case att14 => (intro W hW hd; clear hd; go_simp; first | exact ⟨Ext.rf _, rfl⟩ | rfl)); (go_simp; refine hK _ ?_; clear hK K)
            refine' walk_val (by rfl) ?att15 (fun K hK => ?btt15); (case att15 => (intro W hW hd; clear hd; go_simp; first | exact ⟨Ext.rf _, rfl⟩ | rfl)); (go_simp; refine hK _ ?_; clear hK K)
            refine' walk_val (by rfl) ?att16 (fun K hK => ?btt16); (case att16 => (intro W hW hd; clear hd; go_simp; first | exact ⟨Ext.rf _, rfl⟩ | rfl)); (go_simp; refine hK _ ?_; clear hK K)
            refine' walk_val (by rfl) ?att17 (fun K hK => ?btt17); (case att17 => (intro W hW hd; clear hd; go_simp; first | exact ⟨Ext.rf _, rfl⟩ | rfl)); (go_simp; refine hK _ ?_; clear hK K)
            refine' walk_val (by rfl) ?att18 (fun K hK => ?btt18); (case att18 => (intro W hW hd; clear hd; go_simp; first | exact ⟨Ext.rf _, rfl⟩ | rfl)); (go_simp; refine hK _ ?_; clear hK K)
            refine' walk_val (by rfl) ?att19 (fun K hK => ?btt19); (case att19 => (intro W hW hd; clear hd; go_simp; first | exact ⟨Ext.rf _, rfl⟩ | rfl)); (go_simp; refine hK _ ?_; clear hK K)
            refine' walk_val (by rfl) ?att20 (fun K hK => ?btt20); (case att20 => (intro W hW hd; clear hd; go_simp; first | exact ⟨Ext.rf _, rfl⟩ | rfl)); (go_simp; refine hK _ ?_; clear hK K)
            refine walk_end (fun W hW hfin => ?_)
            have B6 : Below w.heap.size w W := bw.trans (hW.mono bw.size)
            clear hfin
            go_wp2
            go_ret
            exact ⟨ret_bool HF.out.symm, B6⟩
        | false =>
          have HF : Hid (inD (l.take (k + 1)) (t, q) true = false) := by unfold Hid; rw [HT.out, HG.out, HO.out]; rfl
          clear HT HA HO HG
          go_wp2_with fail
          refine' wp_region_made (rels := relsOf ((.val _) :: (.val _) :: (.val _) :: (.val _) :: (.val _) :: (.val _) :: (.val _) :: (.val _) :: (.val _) :: (.val _) :: (.val _) :: (.val _) :: (.val _) :: (.val _) :: (.val _) :: (.val _) :: (.val _) :: (.val _) :: (.val _) :: (.val _) :: (.val _) :: [])) (w := wr) 35 (by kernel_rfl) (by kernel_rfl) (by rfl) (relsOf_stable ?stft) ?wkft
          case stft => exact stable_val (stable_val (stable_val (stable_val (stable_val (stable_val (stable_val (stable_val (stable_val (stable_val (stable_val (stable_val (stable_val (stable_val (stable_val (stable_val (stable_val (stable_val (stable_val (stable_val (stable_val (stable_nil)))))))))))))))))))))
          case wkft =>
            refine' walk_val (by rfl) ?aft0 (fun K hK => ?bft0); (case aft0 => (intro W hW hd; clear hd; go_simp; first | exact ⟨Ext.rf _, rfl⟩ | rfl)); (go_simp; refine hK _ ?_; clear hK K)
            refine' walk_val (by rfl) ?aft1 (fun K hK => ?bft1); (case aft1 => (intro W hW hd; clear hd; go_simp; first | exact ⟨Ext.rf _, rfl⟩ | rfl)); (go_simp; refine hK _ ?_; clear hK K)
            refine' walk_val (by rfl) ?aft2 (fun K hK => ?bft2); (case aft2 => (intro W hW hd; clear hd; go_simp; first | exact ⟨Ext.rf _, rfl⟩ | rfl)); (go_simp; refine hK _ ?_; clear hK K)
            refine' walk_val (by rfl) ?aft3 (fun K hK => ?bft3); (case aft3 => (intro W hW hd; clear hd; go_simp; first | exact ⟨Ext.rf _, rfl⟩ | rfl)); (go_simp; refine hK _ ?_; clear hK K)
            refine' walk_val (by rfl) ?aft4 (fun K hK => ?bft4); (case aft4 => (intro W hW hd; clear hd; go_simp; first | exact ⟨Ext.rf _, rfl⟩ | rfl)); (go_simp; refine hK _ ?_; clear hK K)
            refine' walk_val (by rfl) ?aft5 (fun K hK => ?bft5); (case aft5 => (intro W hW hd; clear hd; go_simp; first | exact ⟨Ext.rf _, rfl⟩ | rfl)); (go_simp; refine hK _ ?_; clear hK K)
            refine' walk_val (by rfl) ?aft6 (fun K hK => ?bft6); (case aft6 => (intro W hW hd; clear hd; go_simp; first | exact ⟨Ext.rf _, rfl⟩ | rfl)); (go_simp; refine hK _ ?_; clear hK K)
            refine' walk_val (by rfl) ?aft7 (fun K hK => ?bft7); (case aft7 => (intro W hW hd; go_simp; (clear hd; exact makes_val (hA _)))); (go_simp; refine hK _ ?_; clear hK K)
            refine' walk_val (by rfl) ?aft8 (fun K hK => ?bft8); (case aft8 => (intro W hW hd; clear hd; go_simp; first | exact ⟨Ext.rf _, rfl⟩ | rfl)); (go_simp; refine hK _ ?_; clear hK K)
            refine' walk_val (by rfl) ?aft9 (fun K hK => ?bft9); (case aft9 => (intro W hW hd; clear hd; go_simp; first | exact ⟨Ext.rf _, rfl⟩ | rfl)); (go_simp; refine hK _ ?_; clear hK K)
            refine' walk_val (by rfl) ?aft10 (fun K hK => ?bft10); (case aft10 => (intro W hW hd; clear hd; go_simp; first | exact ⟨Ext.rf _, rfl⟩ | rfl)); (go_simp; refine hK _ ?_; clear hK K)
            refine' walk_val (by rfl) ?aft11 (fun K hK => ?bft11); (case aft11 => (intro W hW hd; clear hd; go_simp; first | exact ⟨Ext.rf _, rfl⟩ | rfl)); (go_simp; refine hK _ ?_; clear hK K)
            refine' walk_val (by rfl) ?aft12 (fun K hK => ?bft12); (case aft12 => (intro W hW hd; clear hd; go_simp; first | exact ⟨Ext.rf _, rfl⟩ | rfl)); (go_simp; refine hK _ ?_; clear hK K)
            refine' walk_val (by rfl) ?aft13 (fun K hK => ?bft13); (case aft13 => (intro W hW hd; clear hd; go_simp; first | exact ⟨Ext.rf _, rfl⟩ | rfl)); (go_simp; refine hK _ ?_; clear hK K)
            refine' walk_val (by rfl) ?aft14 (fun K hK => ?bft14); (case aft14 => (intro W hW hd; clear hd; go_simp; first | exact ⟨Ext.rf _, rfl⟩ | rfl)); (go_simp; refine hK _ ?_; clear hK K)
            refine' walk_val (by rfl) ?aft15 (fun K hK => ?bft15); (case aft15 => (intro W hW hd; clear hd; go_simp; first | exact ⟨Ext.rf _, rfl⟩ | rfl)); (go_simp; refine hK _ ?_; clear hK K)
            refine' walk_val (by rfl) ?aft16 (fun K hK => ?bft16); (case aft16 => (intro W hW hd; clear hd; go_simp; first | exact ⟨Ext.rf _, rfl⟩ | rfl)); (go_simp; refine hK _ ?_; clear hK K)
            refine' walk_val (by rfl) ?aft17 (fun K hK => ?bft17); (case aft17 => (intro W hW hd; clear hd; go_simp; first | exact ⟨Ext.rf _, rfl⟩ | rfl)); (go_simp; refine hK _ ?_; clear hK K)
            refine' walk_val (by rfl) ?aft18 (fun K hK => ?bft18); (case aft18 => (intro W hW hd; clear hd; go_simp; first | exact ⟨Ext.rf _, rfl⟩ | rfl)); (go_simp; refine hK _ ?_; clear hK K)
            refine' walk_val (by rfl) ?aft19 (fun K hK => ?bft19); (case aft19 => (intro W hW hd; clear hd; go_simp; first | exact ⟨Ext.rf _, rfl⟩ | rfl)); (go_simp; refine hK _ ?_; clear hK K)
            refine' walk_val (by rfl) ?aft20 (fun K hK => ?bft20); (case aft20 => (intro W hW hd; clear hd; go_simp; first | exact ⟨Ext.rf _, rfl⟩ | rfl)); (go_simp; refine hK _ ?_; clear hK K)
            refine walk_end (fun W hW hfin => ?_)
            have B6 : Below (w.heap.size + 1) (w.alloc (.cells #[.string t, .bool q] 23)) W := hbel.trans (hW.mono (by have := hbel.size; simpa using this))
            clear hfin
            go_wp2
            go_roundw
            case rel => exact ⟨k + 1, by omega, by go_num, HF, B6⟩
            case measure => simp [intOf]; omega
      · obtain rfl : k = n := by omega
        have HF : Hid (inD l (t, q) true = false) := by have h := HG.out; rw [List.take_of_length_le (by have := HL.out; omega)] at h; exact h
        go_wp2
        go_ret
        exact ⟨ret_bool HF.out.symm, bw⟩
  | false =>
    go_enter Tryd.func28, Tryd.ntmps28
    go_wp2
    go_loopw [7] (fun i wr => ∃ k : Nat, k ≤ n ∧ i = .int .i64 k ∧ Hid (inD (l.take k) (t, q) false = false) ∧ Below (w.heap.size + 1) (w.alloc (.cells #[.string t, .bool q] 23)) wr) (fun i _ => n - (intOf i).toNat)
    case atStart => exact ⟨0, Nat.zero_le _, rfl, rfl, Below.refl _ _⟩
    case round =>
      obtain ⟨k, hk, rfl, HG, hbel⟩ := hrel
      have bw : Below w.heap.size w wr := hb0.trans (hbel.mono (by simp))
      by_cases hlt : k < n
      · have hkl : k < l.length := by have := HL.out; omega
        obtain ⟨b, o, rfl, hb, hc⟩ := (HS.out.below bw (Nat.le_refl _)) (by omega)
        obtain ⟨c0, c1⟩ := hc k hkl
        clear hc
        have hx := HM.out.at_ hkl
        have HT := Lib.hid (inD_take (t := (t, q)) (st := false) hkl)
        have HA := Lib.hid (fun h => inD_at (t := (t, q)) (st := false) hkl h)
        obtain ⟨X, hX⟩ : ∃ X, Hid (l[k] = X) := ⟨l[k], rfl⟩
        rw [hX.out] at HT HA c0 c1 hx
        clear hX
        obtain ⟨x, p⟩ := X
        simp only at c0 c1 hx
        have hbz : b < wr.heap.size := by have := bw.size; omega
        obtain ⟨d0, d1, dz⟩ := cell1 hbel
        have k0 : ∀ W, Ext wr W → W.cell? ⟨b, o + k * 2, none⟩ = some (.string x) := fun W h => by rw [h.cell (p := ⟨b, o + k * 2, none⟩) hbz]; exact c0
        have k1 : ∀ W, Ext wr W → W.cell? ⟨b, o + k * 2 + 1, none⟩ = some (.bool p) := fun W h => by rw [h.cell (p := ⟨b, o + k * 2 + 1, none⟩) hbz]; exact c1
        have m0 : ∀ W, Ext wr W → W.cell? ⟨w.heap.size, 0, none⟩ = some (.string t) := fun W h => by rw [h.cell (p := ⟨w.heap.size, 0, none⟩) dz]; exact d0
        have m1 : ∀ W, Ext wr W → W.cell? ⟨w.heap.size, 1, none⟩ = some (.bool q) := fun W h => by rw [h.cell (p := ⟨w.heap.size, 1, none⟩) dz]; exact d1
        have hA := fun W => rweak_any x t p q W hx ht
        have HO : Hid (oneD false (x, p) (t, q) = wkD x t) := rfl
        generalize wkD x t = r at *
        clear c0 c1 d0 d1
        cases r with
        | true =>
          have HF : Hid (inD l (t, q) false = true) := HA.out HO.out
          clear HT HA HO HG HS HL HM
          go_wp2_with fail
          refine' wp_region_made (rels := relsOf ((.val _) :: (.val _) :: (.val _) :: (.val _) :: (.val _) :: (.val _) :: (.val _) :: (.val _) :: (.val _) :: (.val _) :: (.val _) :: (.val _) :: (.val _) :: (.val _) :: (.val _) :: (.val _) :: (.val _) :: (.val _) :: (.val _) :: (.val _) :: (.val _) :: [])) (w := wr) 35 (by kernel_rfl) (by kernel_rfl) (by rfl) (relsOf_stable ?sttf) ?wktf
          case sttf => exact stable_val (stable_val (stable_val (stable_val (stable_val (stable_val (stable_val (stable_val (stable_val (stable_val (stable_val (stable_val (stable_val (stable_val (stable_val (stable_val (stable_val (stable_val (stable_val (stable_val (stable_val (stable_nil)))))))))))))))))))))
          case wktf =>
            refine' walk_val (by rfl) ?atf0 (fun K hK => ?btf0); (case atf0 => (intro W hW hd; clear hd; go_simp; first | exact ⟨Ext.rf _, rfl⟩ | rfl)); (go_simp; refine hK _ ?_; clear hK K)
            refine' walk_val (by rfl) ?atf1 (fun K hK => ?btf1); (case atf1 => (intro W hW hd; clear hd; go_simp; first | exact ⟨Ext.rf _, rfl⟩ | rfl)); (go_simp; refine hK _ ?_; clear hK K)
            refine' walk_val (by rfl) ?atf2 (fun K hK => ?btf2); (case atf2 => (intro W hW hd; clear hd; go_simp; first | exact ⟨Ext.rf _, rfl⟩ | rfl)); (go_simp; refine hK _ ?_; clear hK K)
            refine' walk_val (by rfl) ?atf3 (fun K hK => ?btf3); (case atf3 => (intro W hW hd; clear hd; go_simp; first | exact ⟨Ext.rf _, rfl⟩ | rfl)); (go_simp; refine hK _ ?_; clear hK K)
            refine' walk_val (by rfl) ?atf4 (fun K hK => ?btf4); (case atf4 => (intro W hW hd; clear hd; go_simp; first | exact ⟨Ext.rf _, rfl⟩ | rfl)); (go_simp; refine hK _ ?_; clear hK K)
            refine' walk_val (by rfl) ?atf5 (fun K hK => ?btf5); (case atf5 => (intro W hW hd; clear hd; go_simp; first | exact ⟨Ext.rf _, rfl⟩ | rfl)); (go_simp; refine hK _ ?_; clear hK K)
            refine' walk_val (by rfl) ?atf6 (fun K hK => ?btf6); (case atf6 => (intro W hW hd; clear hd; go_simp; first | exact ⟨Ext.rf _, rfl⟩ | rfl)); (go_simp; refine hK _ ?_; clear hK K)
            refine' walk_val (by rfl) ?atf7 (fun K hK => ?btf7); (case atf7 => (intro W hW hd; clear hd; go_simp; first | exact ⟨Ext.rf _, rfl⟩ | rfl)); (go_simp; refine hK _ ?_; clear hK K)
            refine' walk_val (by rfl) ?atf8 (fun K hK => ?btf8); (case atf8 => (intro W hW hd; clear hd; go_simp; first | exact ⟨Ext.rf _, rfl⟩ | rfl)); (go_simp; refine hK _ ?_; clear hK K)
            refine' walk_val (by rfl) ?atf9 (fun K hK => ?btf9); (case atf9 => (intro W hW hd; clear hd; go_simp; first | exact ⟨Ext.rf _, rfl⟩ | rfl)); (go_simp; refine hK _ ?_; clear hK K)
            refine' walk_val (by rfl) ?atf10 (fun K hK => ?btf10); (case atf10 => (intro W hW hd; clear hd; go_simp; first | exact ⟨Ext.rf _, rfl⟩ | rfl)); (go_simp; refine hK _ ?_; clear hK K)
            refine' walk_val (by rfl) ?atf11 (fun K hK => ?btf11); (case atf11 => (intro W hW hd; clear hd; go_simp; first | exact ⟨Ext.rf _, rfl⟩ | rfl)); (go_simp; refine hK _ ?_; clear hK K)
            refine' walk_val (by rfl) ?atf12 (fun K hK => ?btf12); (case atf12 => (intro W hW hd; clear hd; go_simp; first | exact ⟨Ext.rf _, rfl⟩ | rfl)); (go_simp; refine hK _ ?_; clear hK K)
            refine' walk_val (by rfl) ?atf13 (fun K hK => ?btf13); (case atf13 => (intro W hW hd; clear hd; go_simp; first | exact ⟨Ext.rf _, rfl⟩ | rfl)); (go_simp; refine hK _ ?_; clear hK K)
            refine' walk_val (by rfl) ?atf14 (fun K hK => ?btf14); (case atf14 => (intro W hW hd; clear hd; go_simp; first | exact ⟨Ext.rf _, rfl⟩ | rfl)); (go_simp; refine hK _ ?_; clear hK K)
            refine' walk_val (by rfl) ?atf15 (fun K hK => ?btf15); (case atf15 => (intro W hW hd; clear hd; go_simp; first | exact ⟨Ext.rf _, rfl⟩ | rfl)); (go_simp; refine hK _ ?_; clear hK K)
            refine' walk_val (by rfl) ?atf16 (fun K hK => ?btf16); (case atf16 => (intro W hW hd; clear hd; go_simp; first | exact ⟨Ext.rf _, rfl⟩ | rfl)); (go_simp; refine hK _ ?_; clear hK K)
            refine' walk_val (by rfl) ?atf17 (fun K hK => ?btf17); (case atf17 => (intro W hW hd; clear hd; go_simp; first | exact ⟨Ext.rf _, rfl⟩ | rfl)); (go_simp; refine hK _ ?_; clear hK K)
            refine' walk_val (by rfl) ?atf18 (fun K hK => ?btf18); (case atf18 => (intro W hW hd; go_simp; (clear hd; exact makes_val (hA _)))); (go_simp; refine hK _ ?_; clear hK K)
            refine' walk_val (by rfl) ?atf19 (fun K hK => ?btf19); (case atf19 => (intro W hW hd; clear hd; go_simp; first | exact ⟨Ext.rf _, rfl⟩ | rfl)); (go_simp; refine hK _ ?_; clear hK K)
            refine' walk_val (by rfl) ?atf20 (fun K hK => ?btf20); (case atf20 => (intro W hW hd; clear hd; go_simp; first | exact ⟨Ext.rf _, rfl⟩ | rfl)); (go_simp; refine hK _ ?_; clear hK K)
            refine walk_end (fun W hW hfin => ?_)
            have B6 : Below w.heap.size w W := bw.trans (hW.mono bw.size)
            clear hfin
            go_wp2
            go_ret
            exact ⟨ret_bool HF.out.symm, B6⟩
        | false =>
          have HF : Hid (inD (l.take (k + 1)) (t, q) false = false) := by unfold Hid; rw [HT.out, HG.out, HO.out]; rfl
          clear HT HA HO HG
          go_wp2_with fail
          refine' wp_region_made (rels := relsOf ((.val _) :: (.val _) :: (.val _) :: (.val _) :: (.val _) :: (.val _) :: (.val _) :: (.val _) :: (.val _) :: (.val _) :: (.val _) :: (.val _) :: (.val _) :: (.val _) :: (.val _) :: (.val _) :: (.val _) :: (.val _) :: (.val _) :: (.val _) :: (.val _) :: [])) (w := wr) 35 (by kernel_rfl) (by kernel_rfl) (by rfl) (relsOf_stable ?stff) ?wkff
          case stff => exact stable_val (stable_val (stable_val (stable_val (stable_val (stable_val (stable_val (stable_val (stable_val (stable_val (stable_val (stable_val (stable_val (stable_val (stable_val (stable_val (stable_val (stable_val (stable_val (stable_val (stable_val (stable_nil)))))))))))))))))))))
          case wkff =>
            refine' walk_val (by rfl) ?aff0 (fun K hK => ?bff0); (case aff0 => (intro W hW hd; clear hd; go_simp; first | exact ⟨Ext.rf _, rfl⟩ | rfl)); (go_simp; refine hK _ ?_; clear hK K)
            refine' walk_val (by rfl) ?aff1 (fun K hK => ?bff1); (case aff1 => (intro W hW hd; clear hd; go_simp; first | exact ⟨Ext.rf _, rfl⟩ | rfl)); (go_simp; refine hK _ ?_; clear hK K)
            refine' walk_val (by rfl) ?aff2 (fun K hK => ?bff2); (case aff2 => (intro W hW hd; clear hd; go_simp; first | exact ⟨Ext.rf _, rfl⟩ | rfl)); (go_simp; refine hK _ ?_; clear hK K)
            refine' walk_val (by rfl) ?aff3 (fun K hK => ?bff3); (case aff3 => (intro W hW hd; clear hd; go_simp; first | exact ⟨Ext.rf _, rfl⟩ | rfl)); (go_simp; refine hK _ ?_; clear hK K)
            refine' walk_val (by rfl) ?aff4 (fun K hK => ?bff4); (case aff4 => (intro W hW hd; clear hd; go_simp; first | exact ⟨Ext.rf _, rfl⟩ | rfl)); (go_simp; refine hK _ ?_; clear hK K)
            refine' walk_val (by rfl) ?aff5 (fun K hK => ?bff5); (case aff5 => (intro W hW hd; clear hd; go_simp; first | exact ⟨Ext.rf _, rfl⟩ | rfl)); (go_simp; refine hK _ ?_; clear hK K)
            refine' walk_val (by rfl) ?aff6 (fun K hK => ?bff6); (case aff6 => (intro W hW hd; clear hd; go_simp; first | exact ⟨Ext.rf _, rfl⟩ | rfl)); (go_simp; refine hK _ ?_; clear hK K)
            refine' walk_val (by rfl) ?aff7 (fun K hK => ?bff7); (case aff7 => (intro W hW hd; clear hd; go_simp; first | exact ⟨Ext.rf _, rfl⟩ | rfl)); (go_simp; refine hK _ ?_; clear hK K)
            refine' walk_val (by rfl) ?aff8 (fun K hK => ?bff8); (case aff8 => (intro W hW hd; clear hd; go_simp; first | exact ⟨Ext.rf _, rfl⟩ | rfl)); (go_simp; refine hK _ ?_; clear hK K)
            refine' walk_val (by rfl) ?aff9 (fun K hK => ?bff9); (case aff9 => (intro W hW hd; clear hd; go_simp; first | exact ⟨Ext.rf _, rfl⟩ | rfl)); (go_simp; refine hK _ ?_; clear hK K)
            refine' walk_val (by rfl) ?aff10 (fun K hK => ?bff10); (case aff10 => (intro W hW hd; clear hd; go_simp; first | exact ⟨Ext.rf _, rfl⟩ | rfl)); (go_simp; refine hK _ ?_; clear hK K)
            refine' walk_val (by rfl) ?aff11 (fun K hK => ?bff11); (case aff11 => (intro W hW hd; clear hd; go_simp; first | exact ⟨Ext.rf _, rfl⟩ | rfl)); (go_simp; refine hK _ ?_; clear hK K)
            refine' walk_val (by rfl) ?aff12 (fun K hK => ?bff12); (case aff12 => (intro W hW hd; clear hd; go_simp; first | exact ⟨Ext.rf _, rfl⟩ | rfl)); (go_simp; refine hK _ ?_; clear hK K)
            refine' walk_val (by rfl) ?aff13 (fun K hK => ?bff13); (case aff13 => (intro W hW hd; clear hd; go_simp; first | exact ⟨Ext.rf _, rfl⟩ | rfl)); (go_simp; refine hK _ ?_; clear hK K)
            refine' walk_val (by rfl) ?aff14 (fun K hK => ?bff14); (case aff14 => (intro W hW hd; clear hd; go_simp; first | exact ⟨Ext.rf _, rfl⟩ | rfl)); (go_simp; refine hK _ ?_; clear hK K)
            refine' walk_val (by rfl) ?aff15 (fun K hK => ?bff15); (case aff15 => (intro W hW hd; clear hd; go_simp; first | exact ⟨Ext.rf _, rfl⟩ | rfl)); (go_simp; refine hK _ ?_; clear hK K)
            refine' walk_val (by rfl) ?aff16 (fun K hK => ?bff16); (case aff16 => (intro W hW hd; clear hd; go_simp; first | exact ⟨Ext.rf _, rfl⟩ | rfl)); (go_simp; refine hK _ ?_; clear hK K)
            refine' walk_val (by rfl) ?aff17 (fun K hK => ?bff17); (case aff17 => (intro W hW hd; clear hd; go_simp; first | exact ⟨Ext.rf _, rfl⟩ | rfl)); (go_simp; refine hK _ ?_; clear hK K)
            refine' walk_val (by rfl) ?aff18 (fun K hK => ?bff18); (case aff18 => (intro W hW hd; go_simp; (clear hd; exact makes_val (hA _)))); (go_simp; refine hK _ ?_; clear hK K)
            refine' walk_val (by rfl) ?aff19 (fun K hK => ?bff19); (case aff19 => (intro W hW hd; clear hd; go_simp; first | exact ⟨Ext.rf _, rfl⟩ | rfl)); (go_simp; refine hK _ ?_; clear hK K)
            refine' walk_val (by rfl) ?aff20 (fun K hK => ?bff20); (case aff20 => (intro W hW hd; clear hd; go_simp; first | exact ⟨Ext.rf _, rfl⟩ | rfl)); (go_simp; refine hK _ ?_; clear hK K)
            refine walk_end (fun W hW hfin => ?_)
            have B6 : Below (w.heap.size + 1) (w.alloc (.cells #[.string t, .bool q] 23)) W := hbel.trans (hW.mono (by have := hbel.size; simpa using this))
            clear hfin
            go_wp2
            go_roundw
            case rel => exact ⟨k + 1, by omega, by go_num, HF, B6⟩
            case measure => simp [intOf]; omega
      · obtain rfl : k = n := by omega
        have HF : Hid (inD l (t, q) false = false) := by have h := HG.out; rw [List.take_of_length_le (by have := HL.out; omega)] at h; exact h
        go_wp2
        go_ret
        exact ⟨ret_bool HF.out.symm, bw⟩
end Go.Proofs.YtfhodolenjeheaaDoor
