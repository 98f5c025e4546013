/-
  ImapLast: the walk.
-/
import Derived.Test.YtegabfeabifbhaaIL
import Derived.Test.YtegabfeabifbhaaJ1
import Derived.Test.YtegabfeabifbhaaJ2
namespace Go.Proofs.Ytegabfeabifbhaa
open Go Go.RowKit

/-- a slice of runs lies in no block of two cells -/
theorem RnAt.off {W : World} {B L : Nat} {A : Option Addr} {l : List Rn} {t : TypeId} {u v : Value} (h : RnAt W B A l) (hL : W.heap[L]? = some (.cells #[u, v] t (0, 0))) : ∀ k, (Option.map (fun a : Addr => a.block) A) = some k → 0 < l.length → k ≠ L := fun k hk h0 e => by
  obtain ⟨b, o, rfl, _, hc⟩ := h h0
  simp only [Option.map_some, Option.some.injEq] at hk
  have hb : b = L := by rw [← e]; exact hk
  obtain ⟨_, _, c2⟩ := hc 0 h0
  rw [hb] at c2
  simp [World.cell?, hL] at c2
theorem RnAt.two {w W : World} {L : Nat} {A : Option Addr} {l : List Rn} {t : TypeId} {u v : Value} (h : RnAt w w.heap.size A l) (hL : w.heap[L]? = some (.cells #[u, v] t (0, 0))) (hb : But L w W) : RnAt W W.heap.size A l := fun h0 => by
  obtain ⟨b, o, rfl, hlt, hc⟩ := h h0
  have hne : b ≠ L := h.off hL b rfl h0
  refine ⟨b, o, rfl, Nat.lt_of_lt_of_le hlt hb.size, fun j hj => ?_⟩
  obtain ⟨c0, c1, c2⟩ := hc j hj
  exact ⟨hb.cell c0 (fun e => by injection e with e; exact hne e), hb.cell c1 (fun e => by injection e with e; exact hne e), hb.cell c2 (fun e => by injection e with e; exact hne e)⟩
theorem new3 {W : World} {q : Nat} {u v x : Value} {t : TypeId} (h : W.heap.size = q) : (W.alloc (.cells #[u, v, x] t)).drew.cell? ⟨q, 0, none⟩ = some u ∧ (W.alloc (.cells #[u, v, x] t)).drew.cell? ⟨q, 1, none⟩ = some v ∧ (W.alloc (.cells #[u, v, x] t)).drew.cell? ⟨q, 2, none⟩ = some x := by
  subst h
  exact ⟨by simp, by simp, by simp⟩
theorem row_cells {W : World} {p : Nat} {x y : Value} {t : TypeId} (h : W.heap[p]? = some (.cells #[x, y] t (0, 0))) : W.cell? ⟨p, 0, none⟩ = some x ∧ W.cell? ⟨p, 1, none⟩ = some y ∧ (∀ k, W.frozen? ⟨p, k, none⟩ = false) ∧ p < W.heap.size := by
  refine ⟨by simp [World.cell?, h], by simp [World.cell?, h], fun k => by simp [World.frozen?, h], (Array.getElem?_eq_some_iff.1 h).1⟩

set_option maxHeartbeats 8000000 in
set_option maxRecDepth 100000 in
theorem walk_ImapLast (A : Option Addr) (n c : Nat) (l : List Ac) (p : Int) (w : World) (hn : l.length = n) (hmx : n ≤ maxLen) (hs : AcAt w w.heap.size A l) :
    Calls Try.prog 7 #[.slice A n c, .int .i64 p] w fun e w' => e = .returned (.bool true) ∧ Below w.heap.size w w' := by
  have HS := Lib.hid hs
  have HN := Lib.hid hn
  clear hs hn
  have hmx' := hmx
  unfold maxLen at hmx'
  by_cases hbig : 40 < n
  · have hb : (40 : Int) < (n : Int) := by omega
    go_enter Try.func7, Try.ntmps7
    go_wp2_with fail
    with_reducible refine (alive_any _).mono ?_
    rintro e w1 ⟨rfl, hb1⟩
    go_wp2
    go_ret
    exact ⟨rfl, hb1⟩
  · have hb : ¬ ((40 : Int) < (n : Int)) := by omega
    go_enter Try.func7, Try.ntmps7
    go_wp2_with fail
    with_reducible refine (alive_any _).mono ?_
    rintro e w1 ⟨rfl, E1⟩
    go_wp2_with fail
    have hmd := made_any A n c l w1 HN.out (by omega) (HS.out.ext E1)
    with_reducible refine hmd.mono ?_
    rintro e w2 ⟨rfl, ⟨A2, n2, c2, hm2⟩, F2⟩
    clear hmd
    have E2 := Ext.tr E1 F2
    have hl2 := hm2.len
    have hle := actsI_len l (D := []) trivial
    have hgd := actsI_good l (D := []) trivial
    have hta := tld_acts l p
    generalize actsI [] l = D at *
    have M2 := Lib.hid hm2
    have hz12 := F2.size
    have hmz := hm2.box.lt
    have hn2 : n2 ≤ 1000 := by have := HN.out; simp at hle; omega
    clear hm2 F2 hle
    have hgt := getI_tell hgd p
    rw [hta] at hgt
    clear hta
    have HGD := Lib.hid hgd
    clear hgd
    have hG := get_any _ A2 n2 c2 D p w2 (Lists.map M2.out.box.cell M2.out.box.lt) hl2 (by omega) HGD.out M2.out.at_
    generalize getI D p = G at *
    obtain ⟨gv, ga, gb, gi⟩ := G
    go_wp2_with fail
    with_reducible refine hG.mono ?_
    rintro e w3 ⟨rfl, F3⟩
    clear hG
    have E3 := Ext.tr E2 F3
    go_wp2_with fail
    have hz3 := F3.size
    have e4 : Ext w3 (w3.alloc (.cells #[.int .i64 ga, .int .i64 gb] 35)) := (Below.refl _ _).alloc (Nat.le_refl _) _
    have r4 : (w3.alloc (.cells #[.int .i64 ga, .int .i64 gb] 35)).heap[w3.heap.size]? = some (.cells #[.int .i64 ga, .int .i64 gb] 35 (0, 0)) := heap_alloc_new w3 _
    have z4 : (w3.alloc (.cells #[.int .i64 ga, .int .i64 gb] 35)).heap.size = w3.heap.size + 1 := by simp
    generalize hsg : w3.alloc (.cells #[.int .i64 ga, .int .i64 gb] 35) = w4 at *
    have E4 := Ext.tr E3 e4
    have hT := told_any A n c l p w4 HN.out (by omega) (HS.out.ext E4)
    generalize tldI l p = T at *
    obtain ⟨tv, ti⟩ := T
    with_reducible refine hT.mono ?_
    rintro e w5 ⟨rfl, F5⟩
    clear hT
    have M5 := Lib.hid (M2.out.ext (Ext.tr F3 (Ext.tr e4 F5)))
    have E5 := Ext.tr E4 F5
    have r5 := (F5.block _ (by omega)).trans r4
    clear F5 e4 r4 E4 E3 F3 E2 E1 hsg
    go_upto_region 8 with fail
    go_cut [65] (fun s65 wx => s65 = .bool false ∧ wx = w5)
    case first =>
      --BEGIN a
      obtain ⟨c50, c51, _, _⟩ := row_cells r5
      cases gi with
      | false =>
        cases ti with
        | true => exact absurd hgt.1 (by simp)
        | false =>
          clear hgt r5
          go_wp2_with fail
          go_meet
          case rel => exact ⟨rfl, rfl⟩
      | true =>
        cases ti with
        | false => exact absurd hgt.1 (by simp)
        | true =>
          obtain ⟨h1, h2⟩ := hgt
          obtain ⟨h2, h3⟩ := h2 rfl
          simp only [if_true, Option.some.injEq] at h1
          subst h1
          have q1 : ¬ (p < ga) := by omega
          have q2 : ¬ (gb ≤ p) := by omega
          clear h2 h3 r5
          go_wp2_with fail
          go_meet
          case rel => exact ⟨rfl, rfl⟩
      --END a
    case rest =>
      obtain ⟨rfl, hwc⟩ := hcut
      subst hwc
      rename World => w5
      clear hgt r5
      have e6 : Ext w5 (w5.alloc (.cells #[.int .i64 (-1), .int .i64 (-1)] 35)) := (Below.refl _ _).alloc (Nat.le_refl _) _
      have r6 : (w5.alloc (.cells #[.int .i64 (-1), .int .i64 (-1)] 35)).heap[w5.heap.size]? = some (.cells #[.int .i64 (-1), .int .i64 (-1)] 35 (0, 0)) := heap_alloc_new w5 _
      have M6 := Lib.hid (M5.out.ext e6)
      have z6 : (w5.alloc (.cells #[.int .i64 (-1), .int .i64 (-1)] 35)).heap.size = w5.heap.size + 1 := by simp
      have hA := Lib.hid (all_any _ A2 n2 c2 D _ (Lists.map M6.out.box.cell M6.out.box.lt) hl2 (by omega) M6.out.at_)
      go_wp2_with (go_at_call 16; refine (Hid.out hA).mono ?_; rintro e w7 ⟨A7, n7, c7, rfl, hl7, hat, E7⟩; have HAT := Lib.hid hat; have r7 := (E7.block _ (by omega)).trans r6; have EW := Ext.tr E5 (Ext.tr e6 E7); have hz7 := E7.size; clear hat E7)
      have hzw : w.heap.size ≤ w5.heap.size := E5.size
      generalize w5.heap.size = L at *
      have hzL : L < w7.heap.size := (Array.getElem?_eq_some_iff.1 r7).1
      clear hA M6 M5 e6 r6 z6 E5 M2 hmz z4 hz3 hz12
      go_loopw [13, 15, 70] (fun v _ i wr => ∃ (k : Nat) (x y z : Int), k ≤ n7 ∧ i = .int .i64 k ∧ v = .int .i64 z ∧ wr.heap[L]? = some (.cells #[.int .i64 x, .int .i64 y] 35 (0, 0)) ∧ But L w7 wr ∧ Hid (∃ lo t, Good lo t (D.drop k) ∧ y ≤ lo ∧ (y = lo → t = some z))) (fun _ _ i _ => n7 - (intOf i).toNat)
      case atStart => exact ⟨0, -1, -1, 0, Nat.zero_le _, rfl, rfl, r7, But.ext (Ext.rf _), 0, Option.none, HGD.out, by decide, fun h => absurd h (by decide)⟩
      case round =>
        obtain ⟨k, x, y, z, hk, rfl, rfl, rL, hB, HI⟩ := hrel
        by_cases hlt : k < n7
        · have hkl : k < D.length := by omega
          obtain ⟨b, o, rfl, hbb, hc⟩ := (HAT.out.two r7 hB) (by omega)
          have hbL : b ≠ L := (HAT.out.two r7 hB).off rL b rfl (by omega)
          obtain ⟨c0, c1, c2'⟩ := hc k hkl
          clear hc
          have hdr : D.drop k = D[k] :: D.drop (k + 1) := List.drop_eq_getElem_cons hkl
          rw [hdr] at HI
          generalize D[k] = F at *
          obtain ⟨f1, f2, f3⟩ := F
          simp only at c0 c1 c2'
          obtain ⟨lo, t, ⟨g1, g2, g3, g4, g5⟩, hlo, heq⟩ := HI
          simp only at g1 g2 g3 g4
          have q1 : ¬ (f2 ≤ f1) := by omega
          have q2 : ¬ (f1 < y) := by omega
          have q3 : f1 = y → ¬ (f3 = z) := fun h1 h2 => g4 (by omega) (by rw [heq (by omega), h2])
          have HF : Hid (∃ lo t, Good lo t (D.drop (k + 1)) ∧ f2 ≤ lo ∧ (f2 = lo → t = some f3)) := ⟨f2, some f3, g5, Int.le_refl _, fun _ => rfl⟩
          clear g1 g2 g3 g4 g5 hlo heq hdr
          have k1 : (0 : Int) ≤ (k : Int) := by omega
          have k2 : (k : Int) < (n7 : Int) := by omega
          obtain ⟨d0, d1, df, dz⟩ := row_cells rL
          have df0 := df 0
          have df1 := df 1
          clear df
          have hne : wr.heap.size ≠ L := by omega
          have HEnd : Hid (∀ W, Ext (((wr.setCell ⟨L, 0, none⟩ (.int .i64 f1)).setCell ⟨L, 1, none⟩ (.int .i64 f2)).alloc (.cells #[.int .i64 f1, .int .i64 f2, .int .i64 f3] 39)) W → W.heap[L]? = some (.cells #[.int .i64 f1, .int .i64 f2] 35 (0, 0)) ∧ But L w7 W) := by
            intro W hW
            have h1 := row_set1 (.int .i64 f2) (row_set0 (.int .i64 f1) rL)
            have h2 : Ext ((wr.setCell ⟨L, 0, none⟩ (.int .i64 f1)).setCell ⟨L, 1, none⟩ (.int .i64 f2)) W := Ext.tr ((Below.refl _ _).alloc (Nat.le_refl _) _) hW
            refine ⟨(h2.block L (Array.getElem?_eq_some_iff.1 h1).1).trans h1, ?_⟩
            exact But.tr hB (But.tr (But.setAt L 0 _ _) (But.tr (But.setAt L 1 _ _) (But.ext h2)))
          have k83 : (((wr.setCell ⟨L, 0, none⟩ (.int .i64 f1)).setCell ⟨L, 1, none⟩ (.int .i64 f2)).alloc (.cells #[.int .i64 f1, .int .i64 f2, .int .i64 f3] 39)).drew.cell? ⟨wr.heap.size, 0, none⟩ = some (.int .i64 f1) := (new3 (by simp)).1
          have k84 : (((wr.setCell ⟨L, 0, none⟩ (.int .i64 f1)).setCell ⟨L, 1, none⟩ (.int .i64 f2)).alloc (.cells #[.int .i64 f1, .int .i64 f2, .int .i64 f3] 39)).drew.cell? ⟨wr.heap.size, 1, none⟩ = some (.int .i64 f2) := (new3 (by simp)).2.1
          have k85 : (((wr.setCell ⟨L, 0, none⟩ (.int .i64 f1)).setCell ⟨L, 1, none⟩ (.int .i64 f2)).alloc (.cells #[.int .i64 f1, .int .i64 f2, .int .i64 f3] 39)).drew.cell? ⟨wr.heap.size, 2, none⟩ = some (.int .i64 f3) := (new3 (by simp)).2.2
          clear rL hB
          have hne' : L ≠ wr.heap.size := fun e => hne e.symm
          have k80 : (wr.alloc (.cells #[.int .i64 f1, .int .i64 f2, .int .i64 f3] 39)).cell? ⟨wr.heap.size, 0, none⟩ = some (.int .i64 f1) := by simp
          have k81 : (wr.alloc (.cells #[.int .i64 f1, .int .i64 f2, .int .i64 f3] 39)).cell? ⟨wr.heap.size, 1, none⟩ = some (.int .i64 f2) := by simp
          have k82 : (wr.alloc (.cells #[.int .i64 f1, .int .i64 f2, .int .i64 f3] 39)).cell? ⟨wr.heap.size, 2, none⟩ = some (.int .i64 f3) := by simp
          by_cases h1 : f1 = y
          · have q4 := q3 h1
            have b4 : (f3 == z) = false := by simp [q4]
            subst h1
            clear q3
            go_wp2
            go_region_held3 (fun W => W.cell? ⟨wr.heap.size, 0, none⟩ = some (.int .i64 f1) ∧ W.cell? ⟨wr.heap.size, 1, none⟩ = some (.int .i64 f2) ∧ W.cell? ⟨wr.heap.size, 2, none⟩ = some (.int .i64 f3)) (first | exact ⟨k80, k81, k82⟩ | exact ⟨k83, k84, k85⟩) (fail)
            go_wp2
            go_roundw
            case rel => exact ⟨k + 1, f1, f2, f3, by omega, by go_num, rfl, (HEnd.out _ (Below.drew (Below.refl _ _))).1, (HEnd.out _ (Below.drew (Below.refl _ _))).2, HF⟩
            case measure => simp [intOf]; omega
          · have b1 : (f1 == y) = false := by simp [h1]
            clear q3
            go_wp2
            go_region_held3 (fun W => W.cell? ⟨wr.heap.size, 0, none⟩ = some (.int .i64 f1) ∧ W.cell? ⟨wr.heap.size, 1, none⟩ = some (.int .i64 f2) ∧ W.cell? ⟨wr.heap.size, 2, none⟩ = some (.int .i64 f3)) (first | exact ⟨k80, k81, k82⟩ | exact ⟨k83, k84, k85⟩) (fail)
            go_wp2
            go_roundw
            case rel => exact ⟨k + 1, f1, f2, f3, by omega, by go_num, rfl, (HEnd.out _ (Below.drew (Below.refl _ _))).1, (HEnd.out _ (Below.drew (Below.refl _ _))).2, HF⟩
            case measure => simp [intOf]; omega
        · obtain rfl : k = n7 := by omega
          go_wp2
          go_ret
          exact ⟨rfl, EW.grown hB (by have := EW.size; omega) (fun g e => by injection e with e; omega)⟩
end Go.Proofs.Ytegabfeabifbhaa
