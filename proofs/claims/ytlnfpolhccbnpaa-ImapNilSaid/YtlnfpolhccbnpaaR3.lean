/-
  ImapWithin: what of the runs lies in a span, as the law's own list.
-/
import Derived.Test.YtlnfpolhccbnpaaR2
import Derived.Test.YtlnfpolhccbnpaaIG
namespace Go.Proofs.Ytlnfpolhccbnpaa
open Go Go.RowKit

set_option maxHeartbeats 4000000 in
set_option maxRecDepth 100000 in
theorem thr_in1 (go : Nat → Bool) (I : Nat → World → Prop) (cap : Array Value) (sb : Nat) (A : Option Addr) (n c : Nat) (l : List Rn) (hn : l.length = n) (hm : n ≤ 1000000)
    (hIa : ∀ k W o, I k W → I k (W.alloc o)) (hsb : ∀ W, I 0 W → W.cell? ⟨sb, 0, none⟩ = some (.slice A n c)) (hcell : ∀ k W, I k W → RnAt W W.heap.size A l)
    (hy : ∀ k (hk : k < l.length) W, I k W → Calls Try.prog 42 (#[.agg #[.int .i64 l[k].1, .int .i64 l[k].2.1], .int .i64 l[k].2.2] ++ cap) W fun e w' => e = .returned (.bool (go k)) ∧ I (k + 1) w') (w : World) (hw : I 0 w) :
    Calls Try.prog 59 #[.func (.func 42) #[] cap, .pointer (some ⟨sb, 0, none⟩)] w fun e w' =>
      e = .returned (.tuple #[]) ∧ ∃ r, r ≤ n ∧ (∀ j, j + 1 < r → go j = true) ∧ (r = n ∨ (0 < r ∧ go (r - 1) = false)) ∧ I r w' := by
  have HN := Lib.hid hn
  have hs0 := hsb w hw
  clear hn
  go_enter Try.func59, Try.ntmps59
  go_wp2
  go_loopw [7] (fun i wr => ∃ k : Nat, k ≤ n ∧ i = .int .i64 k ∧ I k wr ∧ Hid (∀ j, j < k → go j = true)) (fun i _ => n - (intOf i).toNat)
  case atStart => exact ⟨0, Nat.zero_le _, rfl, hw, fun j h => absurd h (Nat.not_lt_zero _)⟩
  case round =>
    obtain ⟨k, hk, rfl, hI, HG⟩ := hrel
    by_cases hlt : k < n
    · have hkl : k < l.length := by have := HN.out; omega
      obtain ⟨b, o, rfl, hbb, hc⟩ := (hcell k wr hI) (by omega)
      obtain ⟨c0, c1, c2⟩ := hc k hkl
      clear hc
      have HY := Lib.hid (hy k hkl (wr.alloc (.cells #[.int .i64 l[k].1, .int .i64 l[k].2.1, .int .i64 l[k].2.2] 81)) (hIa _ _ _ hI))
      generalize l[k] = X at *
      obtain ⟨x, y, z⟩ := X
      simp only at HY c0 c1 c2
      clear hI hIa hsb hcell hy hw
      cases hg : go k with
      | false =>
        rw [hg] at HY
        have HR : Hid (∀ j, j + 1 < k + 1 → go j = true) := fun j h => HG.out j (by omega)
        go_wp2_with (go_at_call 42; refine HY.out.mono ?_; rintro e w1 ⟨rfl, hI1⟩; have HI1 := Lib.hid hI1; clear hI1)
        refine bodyPost_ret (v := .tuple #[]) (by simp [results, Try.results59, go_sem]) rfl ?_
        exact ⟨rfl, k + 1, by omega, HR.out, .inr ⟨by omega, by simpa using hg⟩, HI1.out⟩
      | true =>
        rw [hg] at HY
        have HR : Hid (∀ j, j < k + 1 → go j = true) := fun j h => by
          by_cases e : j = k
          · subst e; exact hg
          · exact HG.out j (by omega)
        go_wp2_with (go_at_call 42; refine HY.out.mono ?_; rintro e w1 ⟨rfl, hI1⟩; have HI1 := Lib.hid hI1; clear hI1)
        go_roundw
        case rel => exact ⟨k + 1, by omega, by go_num, HI1.out, HR⟩
        case measure => simp [intOf]; omega
    · obtain rfl : k = n := by omega
      have HI := Lib.hid hI
      clear hI hIa hsb hcell hy hw
      go_wp2
      go_end0
      exact ⟨rfl, k, Nat.le_refl _, fun j h => HG.out j (by omega), .inl rfl, HI.out⟩

set_option maxHeartbeats 4000000 in
set_option maxRecDepth 100000 in
theorem in_clo (q base : Nat) (x y z : Int) (A : Option Addr) (n c : Nat) (L : List Rn) (W : World) (hq : Box W q 27 (.slice A n c)) (hown : OwnQ W base (.slice A n c) L) (hqb : q < base) (hb : base ≤ W.heap.size) (hL : L.length ≤ 9000) :
    Calls Try.prog 42 #[.agg #[.int .i64 x, .int .i64 y], .int .i64 z, .pointer (some ⟨q, 0, none⟩)] W fun e w' => e = .returned (.bool true) ∧ ∃ A' n' c', Box w' q 27 (.slice A' n' c') ∧ OwnQ w' base (.slice A' n' c') (L ++ [(x, y, z)]) ∧ Kept W w' q base := by
  obtain ⟨i0, hi, hz0, hz1, hz2⟩ := info_parts infoQ
  have hn := (RnAt.ownQ hown).1
  have hq0 := hq.cell
  have hqf := hq.free
  have hqz := hq.lt
  have E1 : Ext W ((W.alloc (.cells #[.int .i64 x, .int .i64 y] 35)).alloc (.cells #[.int .i64 x, .int .i64 y, .int .i64 z] 39)) := ((Below.refl _ _).alloc (Nat.le_refl _) _).alloc (by simp) _
  have hown2 : OwnQ ((W.alloc (.cells #[.int .i64 x, .int .i64 y] 35)).alloc (.cells #[.int .i64 x, .int .i64 y, .int .i64 z] 39)) base (.slice A n c) L := World.ownsRow.alloc (World.ownsRow.alloc hown _) _
  have HQ := Lib.hid hq; have HW := Lib.hid hown
  obtain ⟨v', w', hr, ho, hgr, _⟩ := run_append_own (P := Try.prog) ((W.alloc (.cells #[.int .i64 x, .int .i64 y] 35)).alloc (.cells #[.int .i64 x, .int .i64 y, .int .i64 z] 39)) base 27 27 39 i0 _ 3 24 Try.underlying27 hi hz0 hz1 hz2 rfl (by omega) _ L.length (flatR L) hown2 ⟨W.heap.size + 1, 0, none⟩ 1 1 [.int .i64 x, .int .i64 y, .int .i64 z] rfl
    (by have h := World.news_of_block (cs := #[.int .i64 x, .int .i64 y, .int .i64 z]) (t := 39) (fr := (0, 0)) (heap_alloc_new (W.alloc (.cells #[.int .i64 x, .int .i64 y] 35)) _); rw [World.size_alloc] at h; exact h) (by simp [Value.oneCell']) (by unfold maxLen; omega) (by omega) (by have := E1.size; omega)
  have hown' : OwnQ w' base v' (L ++ [(x, y, z)]) := by unfold OwnQ; rw [flatR_append, List.length_append]; exact ho
  obtain ⟨A', c', rfl⟩ : ∃ A' c', v' = .slice A' (L.length + 1) c' := by
    rcases ho.2 with ⟨e, h0⟩ | ⟨g', c', _, e, _⟩
    · omega
    · exact ⟨_, c', e⟩
  have hrow : ∀ k, (Value.slice A n c).ownBlock = some k → base ≤ k := fun k hk => (World.ownsRow.lt hown k hk).1
  have K : Kept W w' q base := (Kept.ext E1 hb).tr (Kept.grown hgr (by have := E1.size; omega) hrow)
  have hq' : Box w' q 27 (.slice A n c) := (hq.ext E1).kept hgr (fun e => by have := hrow q e; omega)
  have b0 := hq'.cell
  have b1 := hq'.free
  have HQ' := Lib.hid hq'; have HO' := Lib.hid hown'; have HK := Lib.hid K
  clear hq hown hown2 ho hgr hq' hown' K E1
  subst hn
  have hlt : (L.length : Int) + 1 < 10000 := by omega
  go_enter Try.func42, Try.ntmps42
  go_wp2_with (at_builtin; refine Lib.wpList_append_run _ rfl _ _ _ _ rfl _ _ rfl rfl _ _ hr ?_)
  go_ret
  exact ⟨rfl, A', _, c', HQ'.out.set _, ownQ_set HO'.out hqb _ _, HK.out.tr (Kept.set 0 _)⟩

set_option maxHeartbeats 4000000 in
set_option maxRecDepth 100000 in
/-- what of the runs lies in a span, as a list -/
theorem inl_any (M : Value) (A : Option Addr) (n c : Nat) (l : List Rn) (a b : Int) (w : World) (hM : Lists M w A n c) (hn : l.length = n) (hnc : n ≤ c) (hm : n ≤ 1000) (hg : Good 0 Option.none l) (hs : RnAt w w.heap.size A l) :
    Calls Try.prog 19 #[M, .agg #[.int .i64 a, .int .i64 b]] w fun e w' => ∃ A' n' c', e = .returned (.slice A' n' c') ∧ (inI l a b).length = n' ∧ RnAt w' w'.heap.size A' (inI l a b) ∧ Ext w w' := by
  have hmf : ∀ (fn : Fn) (first cap : Array Value) (w : World), (Instr.makeFunc fn first cap).run Try.prog w = .ok (.func fn first cap) w := fun _ _ _ _ => rfl
  have e1 : Ext w ((w.alloc (.cells #[.int .i64 a, .int .i64 b] 35)).alloc (.cells #[.slice none 0 0] 27)) := ((Below.refl _ _).alloc (Nat.le_refl _) _).alloc (by simp) _
  have HA := Lib.hid (In_any M A n c l a b _ (hM.ext e1) hn hnc hm hg (hs.ext e1))
  have B1 : Hid (Box ((w.alloc (.cells #[.int .i64 a, .int .i64 b] 35)).alloc (.cells #[.slice none 0 0] 27)) (w.heap.size + 1) 27 (.slice none 0 0)) := by
    have h := Box.new (w.alloc (.cells #[.int .i64 a, .int .i64 b] 35)) 27 (.slice none 0 0)
    rw [World.size_alloc] at h; exact h
  have hlen := inI_len l a b
  have HN := Lib.hid hn
  clear hM hs hg hn
  generalize inI l a b = D at *
  go_enter Try.func19, Try.ntmps19
  go_wp2_with (go_at_call 41; refine (Hid.out HA).mono ?_; rintro e w1 ⟨p, A1, n1, c1, rfl, hbox, hp, hown, E1⟩; have HB := Lib.hid hbox; have HO := Lib.hid hown; have BQ := Lib.hid (B1.out.ext E1); have hz1 : w.heap.size + 1 < w1.heap.size := (by have := E1.size; simp at this; omega); clear hbox hown)
  have hpl := HB.out.lt
  simp only [World.size_alloc] at hp
  have hn1 : D.length = n1 := (RnAt.own HO.out).1
  have hlb : n1 ≤ 1000 := by have := HN.out; omega
  have hrow : ∀ b o, A1 = some ⟨b, o, none⟩ → b ≠ w.heap.size + 1 := fun b o e hb => by
    subst e
    have := (World.ownsRow.lt HO.out b rfl).1
    simp at this; omega
  have hI0 : IAll w w1 p (w.heap.size + 1) A1 n1 c1 D 0 w1 := ⟨Kept.rf _ _ _, _, _, _, BQ.out, World.ownsRow_nil _ _ _ _⟩
  have hthr := thr_in1 (fun _ => true) (fun k W => IAll w w1 p (w.heap.size + 1) A1 n1 c1 D k W) #[.pointer (some ⟨w.heap.size + 1, 0, none⟩)] p A1 n1 c1 D hn1 (by omega)
    (fun k W o h => IAll.alloc h o) (fun W h => by
      have := h.kept.block p hpl (by omega)
      exact (World.cell?_of_block (a := ⟨p, 0, none⟩) this).trans HB.out.cell)
    (fun k W h => (RnAt.own HO.out).2.2.kept h.kept (Nat.le_refl _) hrow) (fun k hk W h => by
      obtain ⟨hK, A2, n2, c2, h1, h2⟩ := h
      have hlk : (D.take k).length = k := by rw [List.length_take]; omega
      refine (in_clo (w.heap.size + 1) w1.heap.size D[k].1 D[k].2.1 D[k].2.2 A2 n2 c2 (D.take k) W h1 h2 hz1 hK.size (by omega)).mono ?_
      rintro e w' ⟨rfl, A3, n3, c3, g1, g2, g3⟩
      refine ⟨rfl, hK.tr g3, A3, n3, c3, g1, ?_⟩
      rw [List.take_succ_eq_append_getElem hk]
      exact g2) w1 hI0
  have HT := Lib.hid hthr
  have HE := Lib.hid (Ext.tr e1 E1)
  clear hthr hI0 hrow e1 E1
  go_wp2_with (go_at_call 59; refine (Hid.out HT).mono ?_; rintro e w2 ⟨rfl, r, hr1, -, hr2, hI⟩; obtain rfl : r = n1 := (by rcases hr2 with h | ⟨_, h⟩; exact h; cases h); obtain ⟨hK, A2, n2, c2, h1, h2⟩ := hI; have k0 := h1.cell; have H2 := Lib.hid h2; have HK := Lib.hid hK; clear h1 h2 hK)
  go_ret
  have h2 := H2.out
  rw [List.take_of_length_le (by omega)] at h2
  have hK := HK.out
  have hE := HE.out
  exact ⟨A2, n2, c2, rfl, (RnAt.ownQ h2).1, (RnAt.ownQ h2).2, hK.os.trans hE.os, hK.tape.trans hE.tape, hK.output.trans hE.output, Nat.le_trans hE.size hK.size, fun k hk => (hK.block k (by have := hE.size; omega) (by omega)).trans (hE.block k hk)⟩
end Go.Proofs.Ytlnfpolhccbnpaa
