/-
  strings.EqualFold of a text of five bytes, not all of them ASCII, and the word bytes: they are not alike.
-/
import Derived.ScopeJumps
import Derived.Laws.RangeString
import Derived.Test.YtdmkfleiipfbgaaDoorFA
namespace Go.Proofs.YtdmkfleiipfbgaaDoor
open Go Go.RowKit

theorem FT.below {w W : World} (h : FT w) (hb : Ext w W) : FT W := by
  have k : ∀ {a : Addr} {v : Value}, w.cell? a = some v → W.cell? a = some v := fun {a v} e => by rw [hb.cell (p := a) (block_lt_of_cell e)]; exact e
  obtain ⟨b, o, c, k0, k1, k2, k3, k4, k5, k6, k7, k8⟩ := h.orb
  exact ⟨k h.f98, k h.f66, k h.f121, k h.f89, k h.f116, k h.f84, k h.f101, k h.f69, k h.f115, k h.f83, b, o, c, k k0, k k1, k k2, k k3, k k4, k k5, k k6, k k7, k k8⟩

/-- a scope in which the run jumps ahead to one label, and never again -/
theorem wp_scope_ahead {P : Program} {a : Act} {w : World} {Q : Exit → Act → World → Prop} {c rest : Code} (l : Nat) (hf : findLabel c l = some rest)
    (first : c.wp P (Exit.jump l (fun a w => rest.wp P (Exit.jump l (fun _ _ => False) Q) a w) Q) a w) : (Code.scope c).wp P Q a w := by
  refine wp_scope_jumps l (fun a w => rest.wp P (Exit.jump l (fun _ _ => False) Q) a w) (fun _ _ => 0) hf first ?_
  intro a w h
  refine Code.wp_mono (fun e a' w' hq => ?_) h
  cases e with
  | goto l' => exact absurd hq.2 id
  | _ => exact hq

theorem ext_list {s : ByteArray} {k : Nat} (h5 : s.size = 5) : (s.extract k 5).data.toList = s.data.toList.drop k := by
  rw [ByteArray.data_extract, Array.toList_extract]
  have : s.data.toList.length = 5 := by rw [← Lib.size_eq]; exact h5
  rw [List.extract_eq_take_drop]
  exact List.take_of_length_le (by rw [List.length_drop]; omega)
theorem ext_size {s : ByteArray} {k : Nat} (h5 : s.size = 5) : (s.extract k 5).size = 5 - k := by
  rw [Lib.size_eq, ext_list h5, List.length_drop, ← Lib.size_eq, h5]
theorem ext_at {s : ByteArray} {k : Nat} {x : UInt8} (h5 : s.size = 5) (hk : s.data.toList[k]? = some x) (h0 : 0 < (s.extract k 5).size) : (s.extract k 5)[0]'h0 = x := by
  have h1 := Lib.data_getElem? (s.extract k 5) 0 h0
  rw [ext_list h5, List.getElem?_drop, Nat.add_zero, hk] at h1
  exact (Option.some.inj h1).symm
theorem decode_lone {s : ByteArray} (h : s.size = 1) (hb : 128 ≤ (s[0]'(by omega)).toNat) : (Utf8.decode s 0).1 = 65533 := by
  have e : s.get! (0 + 0) = s[0]'(by omega) := by
    show s.get! 0 = _
    simp [ByteArray.get!, getElem!_pos, h]
    rfl
  have hn : ¬ (s[0]'(by omega)).toNat < 128 := by omega
  simp only [Utf8.decode, e]
  rw [if_neg hn]
  simp [h, Utf8.runeError]

set_option maxHeartbeats 800000 in
theorem drune_any (s : ByteArray) (y : UInt8) (w : World) (h0 : 0 < s.size) (hy : s[0]'h0 = y) (hlt : y.toNat < 128) :
    Calls Tryd.prog 58 #[.string s] w fun e w' => e = .returned (.tuple #[.int .i32 (y.toNat : Int), .int .i64 1]) ∧ w' = w := by
  have hne : s.toList.isEmpty = false := by
    rw [ByteArray.toList_eq, List.isEmpty_eq_false_iff]
    intro e
    have h3 : s.data.toList.length = 0 := by rw [e]; rfl
    rw [← Lib.size_eq] at h3; omega
  have hd : decide ((y.toNat : Int) < 128) = true := decide_eq_true (by omega)
  go_enter Tryd.func58, Tryd.ntmps58
  go_wp2
  exact bodyPost_ret (v := .tuple #[.int .i32 (y.toNat : Int), .int .i64 1]) (by simp [results, Tryd.results58, go_sem]) rfl ⟨rfl, rfl⟩

set_option maxHeartbeats 8000000 in
set_option maxRecDepth 1000000 in
theorem foldno_any (s t : ByteArray) (w : World) (hF : FT w) (h5 : s.size = 5) (ht : t.data.toList = bytesL) (hna : ∃ (j : Nat) (x : UInt8), s.data.toList[j]? = some x ∧ 128 ≤ x.toNat) :
    Calls Tryd.prog 38 #[.string s, .string t] w fun e w' => e = .returned (.bool false) ∧ Below w.heap.size w w' := by
  have HT := Lib.hid ht
  have HN := Lib.hid hna
  have HFT := Lib.hid hF
  have t5 : t.size = 5 := by rw [Lib.size_eq, ht]; rfl
  clear ht hna hF
  go_enter Tryd.func38, Tryd.ntmps38
  go_wp2
  refine wp_scope_ahead 0 (by rfl) ?_
  go_wp2
  go_loopw [5] (fun i wr => ∃ k : Nat, k ≤ 5 ∧ i = .int .i64 k ∧ wr = w ∧ Hid (∀ (j : Nat) (x : UInt8), j < k → s.data.toList[j]? = some x → x.toNat < 128)) (fun i _ => 5 - (intOf i).toNat)
  case atStart => exact ⟨0, by omega, rfl, rfl, fun j x h => absurd h (Nat.not_lt_zero _)⟩
  case round =>
    obtain ⟨k, hk, rfl, rfl, HG⟩ := hrel
    by_cases hlt : k < 5
    · obtain ⟨x, hx⟩ : ∃ x : UInt8, s[k]'(by omega) = x := ⟨_, rfl⟩
      obtain ⟨y, hy⟩ : ∃ y : UInt8, t[k]'(by omega) = y := ⟨_, rfl⟩
      have hxl : s.data.toList[k]? = some x := by rw [← hx]; exact Lib.data_getElem? s k (by omega)
      have hyl : bytesL[k]? = some y := by rw [← HT.out, ← hy]; exact Lib.data_getElem? t k (by omega)
      have hy128 : y.toNat < 128 := ascii_of_all (l := bytesL) (by decide) k y hyl
      have hx255 : x.toNat < 256 := x.toNat_lt
      have hor : bits .or .u8 (x.toNat : Int) (y.toNat : Int) = ((x.toNat ||| y.toNat : Nat) : Int) := u8_or_nat _ _ (by omega) (by omega)
      by_cases hx128 : x.toNat < 128
      · have hor128 : ¬ ((128 : Int) ≤ ((x.toNat ||| y.toNat : Nat) : Int)) := by have := Nat.or_lt_two_pow (n := 7) hx128 hy128; omega
        have HR : Hid (∀ (j : Nat) (x : UInt8), j < k + 1 → s.data.toList[j]? = some x → x.toNat < 128) := fun j z hj hz => by
          by_cases e : j = k
          · subst e; rw [hxl] at hz; injection hz with hz; subst hz; exact hx128
          · exact HG.out j z (by omega) hz
        clear hxl hyl HG
        go_wp2
        all_goals first
          | (simp only [Exit.jump]
             go_ret
             exact ⟨rfl, Below.refl _ _⟩)
          | (go_roundw
             case rel => exact ⟨k + 1, by omega, by go_num, by first | rfl | trivial, HR⟩
             case measure => simp [intOf]; omega)
      · have hor128 : (128 : Int) ≤ ((x.toNat ||| y.toNat : Nat) : Int) := by have := Nat.left_le_or (n := x.toNat) (m := y.toNat); omega
        have hyt : t.data.toList[k]? = some y := by rw [HT.out]; exact hyl
        have hu0 : 0 < (s.extract k 5).size := by rw [ext_size h5]; omega
        have hv0 : 0 < (t.extract k 5).size := by rw [ext_size t5]; omega
        have hvz : (t.extract k 5).size ≠ 0 := by omega
        have hux := ext_at h5 hxl hu0
        have hvx := ext_at t5 hyt hv0
        have hdh := (decode_high _ 0 hu0 (by rw [hux]; omega)).1
        have hd4 : k = 4 → (Utf8.decode (s.extract k 5) 0).1 = 65533 := fun e => decode_lone (by rw [ext_size h5]; omega) (by rw [hux]; omega)
        have hnx : ∀ ty, (Instr.next (.pointer (some ⟨wr.heap.size, 0, none⟩)) true ty).run Tryd.prog (wr.iter (s.extract k 5) 0) = _ := fun ty => run_next_any wr (s.extract k 5) 0 ty hu0
        have hdr := fun W => drune_any (t.extract k 5) y W hv0 hvx hy128
        have hB : ∀ p, Below wr.heap.size wr (wr.iter (s.extract k 5) p) := fun p => (Below.refl _ _).alloc (Nat.le_refl _) _
        clear hyt hux hvx
        go_wp2
        go_step3
        refine ⟨rfl, ?_⟩
        go_wp2
        generalize s.extract k 5 = u at *
        generalize t.extract k 5 = v at *
        generalize (Utf8.decode u 0).2 = wd at *
        generalize (Utf8.decode u 0).1 = R at *
        have HF2 : Hid (∀ p, FT (wr.iter u p)) := fun p => HFT.out.below (hB p)
        have hb1 := hB wd
        clear hB
        have hylt : (y.toNat : Int) < (R : Int) := by omega
        have hyne : ((y.toNat : Int) == (R : Int)) = false := by rw [beq_eq_false_iff_ne]; omega
        have hRn : ¬ ((R : Int) < 128) := by omega
        refine wp_loop_rounds 1 ?_
        rw [rounds_succ]
        have hk5 : k = 0 ∨ k = 1 ∨ k = 2 ∨ k = 3 ∨ k = 4 := by omega
        rcases hk5 with rfl | rfl | rfl | rfl | rfl
        · obtain rfl : y = 98 := by simpa [bytesL] using hyl.symm
          go_wp2_with (first
            | (go_at_call 58; refine (hdr _).mono ?_; rintro e w1 ⟨rfl, rfl⟩)
            | (go_at_call 59; refine (sfold_ascii 98 66 _ (by decide) (by decide) (HF2.out wd).f98).mono ?_; rintro e w2 ⟨rfl, rfl⟩))
          refine wp_loop_rounds 2 ?_
          rw [rounds_succ]
          go_wp2_with (go_at_call 59; refine (sfold_ascii 66 98 _ (by decide) (by decide) (HF2.out wd).f66).mono ?_; rintro e w2 ⟨rfl, rfl⟩)
          rw [rounds_succ]
          go_wp2
          simp only [Exit.jump]
          go_ret
          exact ⟨rfl, hb1⟩
        · obtain rfl : y = 121 := by simpa [bytesL] using hyl.symm
          go_wp2_with (first
            | (go_at_call 58; refine (hdr _).mono ?_; rintro e w1 ⟨rfl, rfl⟩)
            | (go_at_call 59; refine (sfold_ascii 121 89 _ (by decide) (by decide) (HF2.out wd).f121).mono ?_; rintro e w2 ⟨rfl, rfl⟩))
          refine wp_loop_rounds 2 ?_
          rw [rounds_succ]
          go_wp2_with (go_at_call 59; refine (sfold_ascii 89 121 _ (by decide) (by decide) (HF2.out wd).f89).mono ?_; rintro e w2 ⟨rfl, rfl⟩)
          rw [rounds_succ]
          go_wp2
          simp only [Exit.jump]
          go_ret
          exact ⟨rfl, hb1⟩
        · obtain rfl : y = 116 := by simpa [bytesL] using hyl.symm
          go_wp2_with (first
            | (go_at_call 58; refine (hdr _).mono ?_; rintro e w1 ⟨rfl, rfl⟩)
            | (go_at_call 59; refine (sfold_ascii 116 84 _ (by decide) (by decide) (HF2.out wd).f116).mono ?_; rintro e w2 ⟨rfl, rfl⟩))
          refine wp_loop_rounds 2 ?_
          rw [rounds_succ]
          go_wp2_with (go_at_call 59; refine (sfold_ascii 84 116 _ (by decide) (by decide) (HF2.out wd).f84).mono ?_; rintro e w2 ⟨rfl, rfl⟩)
          rw [rounds_succ]
          go_wp2
          simp only [Exit.jump]
          go_ret
          exact ⟨rfl, hb1⟩
        · obtain rfl : y = 101 := by simpa [bytesL] using hyl.symm
          go_wp2_with (first
            | (go_at_call 58; refine (hdr _).mono ?_; rintro e w1 ⟨rfl, rfl⟩)
            | (go_at_call 59; refine (sfold_ascii 101 69 _ (by decide) (by decide) (HF2.out wd).f101).mono ?_; rintro e w2 ⟨rfl, rfl⟩))
          refine wp_loop_rounds 2 ?_
          rw [rounds_succ]
          go_wp2_with (go_at_call 59; refine (sfold_ascii 69 101 _ (by decide) (by decide) (HF2.out wd).f69).mono ?_; rintro e w2 ⟨rfl, rfl⟩)
          rw [rounds_succ]
          go_wp2
          simp only [Exit.jump]
          go_ret
          exact ⟨rfl, hb1⟩
        · obtain rfl : y = 115 := by simpa [bytesL] using hyl.symm
          obtain rfl : R = 65533 := hd4 rfl
          go_wp2_with (first
            | (go_at_call 58; refine (hdr _).mono ?_; rintro e w1 ⟨rfl, rfl⟩)
            | (go_at_call 59; refine (sfold_ascii 115 383 _ (by decide) (by decide) (HF2.out wd).f115).mono ?_; rintro e w2 ⟨rfl, rfl⟩))
          refine wp_loop_rounds 3 ?_
          rw [rounds_succ]
          go_wp2_with (go_at_call 59; refine (sfold_383 _ (HF2.out wd)).mono ?_; rintro e w2 ⟨rfl, hb2⟩)
          have hb3 : Below wr.heap.size wr w2 := Ext.tr hb1 hb2
          rw [rounds_succ]
          go_wp2_with (go_at_call 59; refine (sfold_ascii 83 115 _ (by decide) (by decide) ((HF2.out wd).below hb2).f83).mono ?_; rintro e w3 ⟨rfl, rfl⟩)
          rw [rounds_succ]
          go_wp2
          simp only [Exit.jump]
          go_ret
          exact ⟨rfl, hb3⟩
    · exfalso
      obtain rfl : k = 5 := by omega
      obtain ⟨j, x, hj, hx⟩ := HN.out
      have hj5 : j < 5 := by have := (List.getElem?_eq_some_iff.1 hj).1; rw [← Lib.size_eq] at this; omega
      have := HG.out j x hj5 hj
      omega
end Go.Proofs.YtdmkfleiipfbgaaDoor
