/-
  The walk of CondOther.
-/
import Derived.Test.YtomcoacndppkcaaGreatDoorOA
namespace Go.Proofs.YtomcoacndppkcaaGreatDoor
open Go Go.RowKit
open T (Tg TgAt IsTg)
open F (FdAt OwnF)

theorem fits_in' {w : World} {A : Option Addr} {n M B : Nat} {l : List F.Fd} (hn : l.length = n) (hs : FdAt w w.heap.size A l) (h : fitsD l M B = true) (hM : M ≤ 1000) (hB : B ≤ 50000) : FdIn w A n l := by
  unfold fitsD at h
  simp only [Bool.and_eq_true, decide_eq_true_eq] at h
  exact ⟨hn, by omega, by omega, hs⟩
theorem fd_one (W : World) (x y : ByteArray) : FdAt ((W.alloc (.cells #[.string x, .string y] 40)).drew) (W.heap.size + 1) (some ⟨W.heap.size, 0, none⟩) [(x, y)] := by
  intro _
  refine ⟨W.heap.size, 0, rfl, by omega, fun j hj => ?_⟩
  have : j = 0 := by simpa using hj
  subst this
  simp
theorem fd_drop_if {w : World} {B c : Nat} {A : Option Addr} {l : List F.Fd} {k : Nat} (hc : l.length ≤ c) (h : FdAt w B A l) : FdAt w B (if c = k then A else Option.map (fun x => x.add (k * 2)) A) (l.drop k) := by
  by_cases e : c = k
  · intro h0
    rw [List.length_drop] at h0
    omega
  · rw [if_neg e]; exact fd_drop h
theorem u8_of {k : Int} (h : (Lit.int .u8 k).wf = true) : 0 ≤ k ∧ k < 256 := by
  simp [Lit.wf, IntKind.min, IntKind.max, IntKind.bits, IntKind.signed] at h; omega
set_option maxHeartbeats 16000000 in
set_option maxRecDepth 100000 in
theorem walk_CondOther (A : Option Addr) (n c : Nat) (l : List F.Fd) (z : Int) (x y : ByteArray) (w : World) (hw : D.LaidD w) (hn : l.length = n) (_hm : n ≤ maxLen) (hM : F.Mx l) (hs : FdAt w w.heap.size A l)
    (hcap : n ≤ c) (hbig : n * 32 ≤ T.szM) (hzw : (Lit.int .u8 z).wf = true) (hx : x.size ≤ F.szM) (hy : y.size ≤ F.szM) :
    Calls Tryz.prog 5 #[.slice A n c, .int .u8 z, .agg #[.string x, .string y]] w fun e w' => e = .returned (.bool true) ∧ Below w.heap.size w w' := by
  have hz : 0 ≤ z ∧ z < 256 := u8_of hzw
  clear hzw
  have HN := Lib.hid hn
  have HM := Lib.hid hM
  have HW := Lib.hid hw
  have HS := Lib.hid hs
  have HX := Lib.hid hx
  have HY := Lib.hid hy
  unfold T.szM at hbig
  clear hn hM hw hs
  go_enter Tryz.func5, Tryz.ntmps5
  have hlen : (([(x, y)] : List F.Fd).length + l.length + (([(x, y)] : List F.Fd).length + l.length) / 4 + 192) * 32 ≤ 281474976710656 := by have := HN.out; simp; omega
  have b0 : Below w.heap.size w (w.alloc (.cells #[.string x, .string y] 40)) := (Below.refl _ _).alloc (Nat.le_refl _) _
  have hA1 : FdAt ((w.alloc (.cells #[.string x, .string y] 40)).alloc (.cells #[.string x, .string y] 40)) w.heap.size A l := HS.out.below (b0.alloc b0.size _) (Nat.le_refl _)
  have hO1 : OwnF ((w.alloc (.cells #[.string x, .string y] 40)).alloc (.cells #[.string x, .string y] 40)) (w.heap.size + 1) (.slice (some ⟨w.heap.size + 1, 0, none⟩) 1 1) [(x, y)] := own_one x y (w.heap.size + 1) (by simp) (by simp)
  have tok : True := trivial
  go_wp2_with (at_builtin; have _t := tok; refine app_fdsW _ (by rfl) _ _ (by rfl) (w.heap.size + 1) _ [(x, y)] l (by rfl) hO1 w.heap.size A c (by rw [HN.out]; rfl) hA1 hlen (by simp) ?_; intro v1 W1 own1 g1; clear tok)
  clear hA1
  have zb : (w.alloc (.cells #[.string x, .string y] 40)).heap.size = w.heap.size + 1 := by simp
  have C1 : Below (w.heap.size + 1) (w.alloc (.cells #[.string x, .string y] 40)) W1 := F.below_app_same ((Below.refl _ _).alloc (by simp) _) (by simp) hO1 g1
  clear g1 hO1 hlen
  have BT : ∀ W, Below (w.heap.size + 1) (w.alloc (.cells #[.string x, .string y] 40)) W → Below w.heap.size w W := fun W h => b0.trans (h.mono (by omega))
  have K0 : ∀ W, Below (w.heap.size + 1) (w.alloc (.cells #[.string x, .string y] 40)) W → W.cell? ⟨w.heap.size, 0, none⟩ = some (.string x) ∧ W.cell? ⟨w.heap.size, 1, none⟩ = some (.string y) := fun W h =>
    ⟨(h.cell (p := ⟨w.heap.size, 0, none⟩) (Nat.lt_succ_self _)).trans (by simp), (h.cell (p := ⟨w.heap.size, 1, none⟩) (Nat.lt_succ_self _)).trans (by simp)⟩
  have HBT := Lib.hid BT
  have HK0 := Lib.hid K0
  clear BT K0 b0
  obtain ⟨A1, n1, c1, rfl, hl1, hle1, hs1⟩ := (F.IsFd.own own1).split
  have zz1 : w.heap.size + 1 ≤ W1.heap.size := by have := C1.size; omega
  have hM1 : F.Mx ([(x, y)] ++ l) := by
    intro p hp
    rcases List.mem_append.1 hp with hp | hp
    · obtain rfl : p = (x, y) := by simpa using hp
      exact ⟨HX.out, HY.out⟩
    · exact HM.out p hp
  have hF : Calls Tryz.prog 6 #[.slice A1 n1 c1, .int .i64 13, .int .i64 500] W1 fun e w' => e = .returned (.bool (fitsD ([(x, y)] ++ l) 13 500)) ∧ Below W1.heap.size W1 w' :=
    fits_any A1 n1 c1 _ 13 500 W1 hl1.out (by have h1 := hl1.out; have h2 := HN.out; simp at h1; unfold maxLen; omega) hM1 hs1 (by omega) (by omega)
  have hNm := fun W => named_any x W HX.out
  obtain ⟨D, HD⟩ : ∃ D, Hid (nmD x.size = D) := ⟨_, rfl⟩
  rw [HD.out] at hNm
  clear own1 hM1 hs1 hl1 hle1
  cases hf : fitsD ([(x, y)] ++ l) 13 500 with
  | false =>
    rw [hf] at hF
    clear hf hNm HD
    with_reducible refine hF.mono ?_
    rintro e W2 ⟨rfl, hb2⟩
    have C2 := C1.trans (hb2.mono zz1)
    clear hb2 C1
    go_wp2_with fail
    with_reducible refine (awake_any _).mono ?_
    rintro e W3 ⟨rfl, hb3⟩
    go_wp2_with fail
    go_ret
    exact ⟨rfl, HBT.out _ (C2.trans (hb3.mono (by have := C2.size; omega)))⟩
  | true =>
    rw [hf] at hF
    have HFT := Lib.hid hf
    clear hf
    with_reducible refine hF.mono ?_
    rintro e W2 ⟨rfl, hb2⟩
    have C2 := C1.trans (hb2.mono zz1)
    clear hb2 C1
    obtain ⟨k0, k1⟩ := HK0.out _ C2
    cases D with
    | true =>
      go_wp2_with (go_at_call 16; with_reducible refine (hNm _).mono ?_; rintro e W3 ⟨rfl, hb3⟩; have C3 := C2.trans (hb3.mono (by have := C2.size; omega)); clear hb3)
      with_reducible refine (awake_any _).mono ?_
      rintro e W4 ⟨rfl, hb4⟩
      go_wp2_with fail
      go_ret
      exact ⟨rfl, HBT.out _ (C3.trans (hb4.mono (by have := C3.size; omega)))⟩
    | false =>
      obtain ⟨k, hk, hkn⟩ : ∃ k : Nat, z % ((n : Int) + 1) = (k : Int) ∧ k ≤ n := ⟨(z % ((n : Int) + 1)).toNat, by have := Int.emod_nonneg z (show ((n : Int) + 1) ≠ 0 by omega); omega, by have := Int.emod_lt_of_pos z (show (0 : Int) < (n : Int) + 1 by omega); have := Int.emod_nonneg z (show ((n : Int) + 1) ≠ 0 by omega); omega⟩
      have hn12 : n ≤ 12 := by
        have h := HFT.out
        have h2 := HN.out
        unfold fitsD at h
        simp only [Bool.and_eq_true, decide_eq_true_eq, List.length_append, List.length_cons, List.length_nil] at h
        omega
      have hlk : (l.take k).length = k := by rw [List.length_take, HN.out]; omega
      go_wp2_with (first
        | (go_at_call 16; with_reducible refine (hNm _).mono ?_; rintro e W3 ⟨rfl, hb3⟩; have C3 := C2.trans (hb3.mono (by have := C2.size; omega)); clear hb3; have z3 : w.heap.size + 1 ≤ W3.heap.size := (by have := C3.size; omega); have hO3 := F.OwnF.nil_at W3 (w.heap.size + 1) z3; have hA3 : FdAt (W3.alloc (.cells #[] 40)) w.heap.size A (l.take k) := fd_take (HS.out.below ((HBT.out _ C3).alloc (by omega) _) (Nat.le_refl _)); have tok : True := trivial)
        | (at_builtin; have _t := tok; refine F.app_fds _ (by rfl) _ _ (by rfl) (w.heap.size + 1) _ [] (l.take k) (by rfl) hO3 w.heap.size A c (by rw [hlk]; rfl) hA3 (by simp; omega) (by simp; omega) ?_; intro v4 W4 own4 g4; clear tok))
      have C4 : Below (w.heap.size + 1) (w.alloc (.cells #[.string x, .string y] 40)) W4 := F.below_app_same (C3.alloc (by omega) _) (by simp; omega) hO3 g4
      have z4 : w.heap.size + 1 ≤ W4.heap.size := by have := C4.size; omega
      obtain ⟨q0, q1⟩ := HK0.out _ C4
      rw [List.nil_append] at own4
      have ag4 : v4.ownBlock ≠ some w.heap.size := F.own_ne own4 (Nat.lt_succ_self _)
      clear hO3 g4 hA3 C3 C2 z3 k0 k1
      have HC4 := Lib.hid C4
      clear C4
      go_region_held3 (fun w' => w'.cell? ⟨w.heap.size, 0, none⟩ = some (.string x) ∧ w'.cell? ⟨w.heap.size, 1, none⟩ = some (.string y))
        (first
          | go_keep
          | (go_split_ands
             refine ⟨?_, ?_⟩
             · (rw [g5.cell_far _ (by simp; omega) (Ne.symm ag4)]; assumption)
             · (rw [g5.cell_far _ (by simp; omega) (Ne.symm ag4)]; assumption))
          | (go_split_ands
             refine ⟨?_, ?_⟩
             · (rw [g6.cell_far _ (show w.heap.size < W5.heap.size by omega) (Ne.symm ag5)]; assumption)
             · (rw [g6.cell_far _ (show w.heap.size < W5.heap.size by omega) (Ne.symm ag5)]; assumption)))
        (first
          | (refine step_fds _ (by rfl) _ _ (by rfl) (w.heap.size + 1) v4 (l.take k) [(x, y)] (by rfl) ((World.ownsRow.alloc own4 _).drew) (W4.heap.size + 1) (some ⟨W4.heap.size, 0, none⟩) 1 1 (by rfl) rfl (fd_one W4 x y) (by rw [hlk]; simp; omega) (by simp; omega) ?_; intro v5 W5 own5 g5)
          | (have HC5 : Hid (Below (w.heap.size + 1) (w.alloc (.cells #[.string x, .string y] 40)) W5) := F.below_app_same ((HC4.out.alloc (by omega) _).drew) (by simp; omega) ((World.ownsRow.alloc own4 _).drew) g5
             have z5 : w.heap.size + 1 ≤ W5.heap.size := by have := HC5.out.size; omega
             have ag5 : v5.ownBlock ≠ some w.heap.size := F.own_ne own5 (Nat.lt_succ_self _)
             refine step_fds _ (by rfl) _ _ (by rfl) (w.heap.size + 1) v5 (l.take k ++ [(x, y)]) (l.drop k) (by rfl) own5 w.heap.size _ (n - k) (c - k) (by rfl) (by rw [List.length_drop, HN.out]) (fd_drop_if (by rw [HN.out]; exact hcap) (HS.out.below (HBT.out _ HC5.out) (Nat.le_refl _))) (by rw [List.length_append, List.length_drop, hlk, HN.out]; simp; omega) z5 ?_; intro v6 W6 own6 g6))
      have C6 := F.below_app_same HC5.out z5 own5 g6
      generalize (if c = k then A else Option.map (fun x => x.add (k * 2)) A) = A9
      have B6 := HBT.out _ C6
      have HB6 := Lib.hid B6
      obtain ⟨A6, n6, c6, rfl, hl6, -, hs6⟩ := (F.IsFd.own own6).split
      have hfl : F.gsum ([(x, y)] ++ l) ≤ 500 ∧ l.length ≤ 12 := by
        have h := HFT.out
        unfold fitsD at h
        simp only [Bool.and_eq_true, decide_eq_true_eq, List.length_append, List.length_cons, List.length_nil] at h
        exact ⟨h.1, by omega⟩
      have hgl : F.gsum l ≤ 500 := by have h := F.gsum_append [(x, y)] l; omega
      have hgm : F.gsum (l.take k ++ [(x, y)] ++ l.drop k) ≤ 500 := by rw [gsum_ins]; exact hfl.1
      have hlm : (l.take k ++ [(x, y)] ++ l.drop k).length ≤ 13 := by rw [List.length_append, List.length_append, List.length_drop, hlk, HN.out]; simp; omega
      have HIl : Hid (FdIn W6 A n l) := ⟨HN.out, by omega, by omega, HS.out.below B6 B6.size⟩
      have HIm : Hid (FdIn W6 A6 n6 (l.take k ++ [(x, y)] ++ l.drop k)) := ⟨hl6.out, by have := hl6.out; omega, by omega, hs6⟩
      have HW6 : Hid (D.LaidD W6) := HW.out.below B6
      have HP : Hid (parD (l.take k ++ [(x, y)] ++ l.drop k) = parD l) := parD_ins l k x y HD.out
      have hA := parse_any A n c l W6 HIl.out HW6.out
      have hB : ∀ W, Below W6.heap.size W6 W → Calls Tryz.prog 8 #[.slice A6 n6 c6] W fun e w' => ∃ v, e = .returned (.tuple #[v, .int .i64 (parD l).e]) ∧ PVal (parD l) w' v ∧ Below W.heap.size W w' := fun W e => by
        have h := parse_any A6 n6 c6 _ W (HIm.out.below e) (HW6.out.below e)
        rw [HP.out] at h
        exact h
      have q1 := Lib.hid (parD_len1 l)
      have q2 := Lib.hid (parD_len2 l)
      clear HIl HIm HW6 HP hfl hgl hgm hlm hs6 hl6 own6 own5 own4 g5 g6 C6 z5 ag5 ag4 HC4 HC5 hNm hF HK0 HBT HW HS HX HY HM HN HD HFT B6 hbig hlk hk hkn hn12
      generalize parD l = P at *
      have u1 : (P.e == P.e) = true := by simp
      generalize hpe : P.e = pe at *
      clear hpe
      go_wp2_with fail
      with_reducible refine hA.mono ?_
      rintro e w2 ⟨v2, rfl, hv2, hb2⟩
      have HV2 := Lib.hid hv2
      obtain ⟨V1, V2, rfl, i1, i2⟩ := hv2
      obtain ⟨D1, n1, d1, rfl, -, -, -⟩ := i1.split
      obtain ⟨D2, n2, d2, rfl, -, -, -⟩ := i2.split
      clear i1 i2
      have e2 : Ext w2 (w2.alloc (.cells #[.slice D1 n1 d1, .slice D2 n2 d2, .bool P.am, .bool P.an, .int .i64 P.s, .int .i64 P.u, .string P.r.1, .bool P.r.2] 29)) := (Below.refl _ _).alloc (Nat.le_refl _) _
      go_wp2_with fail
      with_reducible refine (hB _ (Ext.tr hb2 e2)).mono ?_
      rintro e w3 ⟨v3, rfl, hv3, hb3⟩
      obtain ⟨hc, -, hz3, B3⟩ := own_blk hb3
      have HV3 := Lib.hid hv3
      have HV2' := Lib.hid (HV2.out.below B3)
      obtain ⟨U1, U2, rfl, i1, i2⟩ := hv3
      obtain ⟨D3, n3, d3, rfl, -, -, -⟩ := i1.split
      obtain ⟨D4, n4, d4, rfl, -, -, -⟩ := i2.split
      clear i1 i2 hb3
      have hS := psame_yes (HV2'.out.below ((Below.refl _ _).alloc (Nat.le_refl _) (.cells #[.slice D3 n3 d3, .slice D4 n4 d4, .bool P.am, .bool P.an, .int .i64 P.s, .int .i64 P.u, .string P.r.1, .bool P.r.2] 29))) (HV3.out.below ((Below.refl _ _).alloc (Nat.le_refl _) (.cells #[.slice D3 n3 d3, .slice D4 n4 d4, .bool P.am, .bool P.an, .int .i64 P.s, .int .i64 P.u, .string P.r.1, .bool P.r.2] 29))) q1.out q2.out
      have B3' : Below W6.heap.size W6 (w3.alloc (.cells #[.slice D3 n3 d3, .slice D4 n4 d4, .bool P.am, .bool P.an, .int .i64 P.s, .int .i64 P.u, .string P.r.1, .bool P.r.2] 29)) := (Ext.tr hb2 B3).alloc (Ext.tr hb2 B3).size _
      go_wp2_with fail
      with_reducible refine hS.mono ?_
      rintro e w4 ⟨rfl, hb4⟩
      go_wp2_with fail
      with_reducible refine (awake_any _).mono ?_
      rintro e w5 ⟨rfl, hb5⟩
      go_wp2_with fail
      go_ret
      exact ⟨rfl, Ext.tr HB6.out (Ext.tr (Ext.tr B3' hb4) hb5)⟩
end Go.Proofs.YtomcoacndppkcaaGreatDoor
