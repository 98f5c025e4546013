/-
  The walk of SpecTexts.
-/
import Derived.Test.YtdmkfleiipfbgaaDoorPJ
import Derived.Test.YtdmkfleiipfbgaaDoorPV
namespace Go.Proofs.YtdmkfleiipfbgaaDoor
open Go Go.RowKit
open Go.Sort (grow)

def LT (w : World) : Prop := MX w ∧ TB w
theorem textD_ok {l : List Sp} (h : (textD l).2 = 0) : textD l = (textT l, 0) ∧ l ≠ [] ∧ allR l = true ∧ l.length ≤ 64 := by
  unfold textD at h ⊢
  split at h
  · cases h
  · rename_i h0
    rw [if_neg h0]
    split at h
    · cases h
    · rename_i h1
      rw [if_neg h1]
      split at h
      · cases h
      · rename_i h2
        rw [if_neg h2]
        exact ⟨rfl, by intro e; subst e; simp at h0, by simpa using h1, by omega⟩

set_option maxHeartbeats 8000000 in
set_option maxRecDepth 100000 in
theorem walk_SpecTexts (A : Option Addr) (n c : Nat) (l : List Sp) (w : World) (hL : LT w) (hn : l.length = n) (_hm : n ≤ maxLen) (hs : SpAt w w.heap.size A l) :
    Calls Tryd.prog 4 #[.slice A n c] w fun e w' => e = .returned (.bool true) ∧ Below w.heap.size w w' := by
  obtain ⟨hM, hT⟩ := hL
  by_cases h100 : n > 100
  · have hg : decide ((n : Int) > 100) = true := by simp; omega
    go_enter Tryd.func4, Tryd.ntmps4
    go_wp2_with (go_at_call 11; refine (awake_any _ hM).mono ?_; rintro e w1 ⟨rfl, hb1⟩)
    go_ret
    exact ⟨rfl, hb1⟩
  · have hA := text_any4 A n c l w hT hn (by omega) hs
    have hB := fun W (hW : Ext w W) => rtext_any A n c l W hn (by omega) (hs.below hW hW.size)
    have HOK := Lib.hid (textD_ok (l := l))
    have HS := Lib.hid hs
    have HL := Lib.hid hn
    clear hs
    obtain ⟨T, HTT⟩ : ∃ T : ByteArray, Hid (T = ⟨(textD l).1.toArray⟩) := ⟨_, rfl⟩
    obtain ⟨E, HE⟩ : ∃ E : Int, Hid (E = (textD l).2) := ⟨_, rfl⟩
    rw [← HTT.out, ← HE.out] at hA
    have hB2 := fun W (hW : Ext w W) => by
      have h := hB W hW
      rw [← HTT.out, ← HE.out] at h
      exact h
    clear hB
    have q1 : (T.toList == T.toList) = true := by simp
    have q2 : (E == E) = true := by simp
    have q3 : (T.toList != T.toList) = false := by simp
    have q4 : (E != E) = false := by simp
    go_enter Tryd.func4, Tryd.ntmps4
    go_wp2_with (first
      | (go_at_call 15; refine hA.mono ?_; rintro e w1 ⟨rfl, hb1⟩)
      | (go_at_call 16; refine (hB2 _ hb1).mono ?_; rintro e w2 ⟨rfl, hb2⟩; have B2 := Ext.tr hb1 hb2))
    clear hA hB2
    go_loopw [35] (fun i wr => ∃ k : Nat, k ≤ n ∧ i = .int .i64 k ∧ Below w2.heap.size w2 wr) (fun i _ => n - (intOf i).toNat)
    case atStart => exact ⟨0, Nat.zero_le _, rfl, Below.refl _ _⟩
    case round =>
      obtain ⟨k, hk, rfl, hbel⟩ := hrel
      by_cases hlt : k < n
      · have hkl : k < l.length := by have := HL.out; omega
        have Bw := Ext.tr B2 hbel
        obtain ⟨b, o, rfl, hbb, hc⟩ := (HS.out.below Bw (Nat.le_refl _)) (by omega)
        obtain ⟨c0, c1⟩ := hc k hkl
        clear hc
        generalize l[k].1 = x at *
        generalize l[k].2 = y at *
        have hbz : b < wr.heap.size := by have := Bw.size; omega
        have e1 : Ext wr (wr.alloc (.cells #[.int .i64 x, .int .i64 y] 32)) := (Below.refl _ _).alloc (Nat.le_refl _) _
        have k0 := cell_regrown (show (wr.alloc (.cells #[.int .i64 x, .int .i64 y] 32)).cell? ⟨wr.heap.size, 0, none⟩ = some (.int .i64 x) from by simp)
        have k1 := cell_regrown (show (wr.alloc (.cells #[.int .i64 x, .int .i64 y] 32)).cell? ⟨wr.heap.size, 1, none⟩ = some (.int .i64 y) from by simp)
        have cA := rg4 (w := wr.alloc (.cells #[.int .i64 x, .int .i64 y] 32)) (fun W _ => sright_any x y W)
        have cB := rg4 (w := wr.alloc (.cells #[.int .i64 x, .int .i64 y] 32)) (fun W _ => rsright_any x y W)
        generalize srB x y = r at *
        have q5 : (r != r) = false := by simp
        go_wp2_with fail
        generalize wr.alloc (.cells #[.int .i64 x, .int .i64 y] 32) = w5 at *
        refine wp_region_quiet_below (by kernel_rfl) (by kernel_rfl) ?_
        repeat (quiet_step (first | exact cA _ _ | exact cB _ _))
        refine wpQuiet_nil ?_
        intro _ hw'
        obtain ⟨⟨dq, osq⟩, hw''⟩ := hw'
        subst hw''
        have B6 : Below w2.heap.size w2 (grow (redrawn w5 dq) osq) := Ext.tr hbel (Ext.tr e1 (below_regrown w5 dq osq))
        generalize grow (redrawn w5 dq) osq = w6 at *
        go_wp2
        go_roundw
        case rel => exact ⟨k + 1, by omega, by go_num, B6⟩
        case measure => simp [intOf]; omega
      · obtain rfl : k = n := by omega
        have Bw := Ext.tr B2 hbel
        by_cases hE : E = 0
        · obtain ⟨h1, h2, h3, h4⟩ := HOK.out (by rw [← HE.out]; exact hE)
          have hTl : T.data.toList = textT l := by rw [HTT.out, h1]
          have hcut : (Lib.cut (textT l) [61]).1 = bytesL := by
            have e : Lib.cut (textT l) [61] = (bytesL, itemsT l, true) := cut_at bytesL (itemsT l) (by decide)
            rw [e]
          have hsz : T.size ≤ 1000000 := by
            rw [Lib.size_eq, hTl]; unfold textT
            have := items_len l (SRL.of h3); simp; omega
          have hP := parse_any T wr (hM.below Bw) hsz (fun _ => by rw [hTl, hcut]; exact ascii_of_all (by decide))
          rw [hTl] at hP
          unfold ParsePost at hP
          rw [parse_text h2 h3 h4] at hP
          have hn64 : k ≤ 64 := by have := HL.out; omega
          clear hTl hcut h1 h2 h3 h4
          have hE1 : (E != 0) = false := by simpa using hE
          have hE2 : decide (E = 0) = true := by simpa using hE
          go_wp2_with fail
          refine hP.mono ?_
          rintro e w5 ⟨v5, rfl, hsp5, hb5⟩
          have B5 := Ext.tr Bw hb5
          obtain ⟨A5, n5, c5, rfl, HN5, hc5, hs5⟩ := hsp5.split
          obtain rfl : n5 = k := by have := HN5.out; have := HL.out; omega
          have h2 := rsame_any A5 A c5 c l l w5 (by have := HL.out; omega) hs5 (HS.out.below B5 B5.size)
          rw [show decide (l = l) = true from by simp, hn] at h2
          clear hP hsp5 hs5
          go_wp2_with (first
            | (go_at_call 14; refine h2.mono ?_; rintro e w6 ⟨rfl, hb6⟩; have B6 := Ext.tr B5 hb6)
            | (go_at_call 11; refine (awake_any _ (hM.below B6)).mono ?_; rintro e w7 ⟨rfl, hb7⟩; have B7 := Ext.tr B6 hb7))
          go_ret
          exact ⟨rfl, B7⟩
        · have hE1 : (E != 0) = true := by simpa using hE
          have hE0 : (E == 0) = false := by simpa using hE
          go_wp2_with (go_at_call 11; refine (awake_any _ (hM.below Bw)).mono ?_; rintro e w7 ⟨rfl, hb7⟩; have B7 := Ext.tr Bw hb7)
          go_ret
          exact ⟨rfl, B7⟩
end Go.Proofs.YtdmkfleiipfbgaaDoor
