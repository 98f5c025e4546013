/-
  The reference's insert: a number into a rising list, once.
-/
import Derived.Test.YthbjhpfgfpkppaaGreatDoorRA
namespace Go.Proofs.YthbjhpfgfpkppaaGreatDoor
open Go Go.RowKit

/-- the call's own list of numbers, of spans -/
abbrev OwnI (w : World) (base : Nat) (v : Value) (l : List Int) : Prop := w.ownsRow base 2 1 v l.length (l.map (Value.int .i64))
abbrev OwnS (w : World) (base : Nat) (v : Value) (l : List Sp) : Prop := w.ownsRow base 41 2 v l.length (flat l)
/-- a slice of numbers reads so -/
def InAt (w : World) (B : Nat) (A : Option Addr) (l : List Int) : Prop :=
  0 < l.length → ∃ b o, A = some ⟨b, o, none⟩ ∧ b < B ∧ ∀ j (h : j < l.length), w.cell? ⟨b, o + j, none⟩ = some (.int .i64 l[j])
def IsIn (w : World) (v : Value) (l : List Int) : Prop := ∃ A c, v = .slice A l.length c ∧ l.length ≤ c ∧ InAt w w.heap.size A l
theorem InAt.below {w w' : World} {B B' : Nat} {A : Option Addr} {l : List Int} (h : InAt w B A l) (hb : Below B w w') (hB : B ≤ B') : InAt w' B' A l := fun hl => by
  obtain ⟨b, o, e, hlt, hc⟩ := h hl
  refine ⟨b, o, e, by omega, fun j hj => ?_⟩
  rw [hb.cell (p := ⟨b, o + j, none⟩) hlt]
  exact hc j hj
theorem IsIn.below {w w' : World} {v : Value} {l : List Int} (h : IsIn w v l) (hb : Below w.heap.size w w') : IsIn w' v l := by
  obtain ⟨A, c, e, hl, h⟩ := h
  exact ⟨A, c, e, hl, h.below hb hb.size⟩
theorem IsIn.own {w : World} {base : Nat} {v : Value} {l : List Int} (h : OwnI w base v l) : IsIn w v l := by
  rcases Nat.eq_zero_or_pos l.length with h0 | h0
  · have hl : l = [] := List.eq_nil_of_length_eq_zero h0
    subst hl
    rcases h.2 with ⟨rfl, _⟩ | ⟨g, cap, cur, rfl, _⟩
    · exact ⟨none, 0, rfl, Nat.le_refl _, fun h => absurd h (by simp)⟩
    · exact ⟨_, cap, rfl, Nat.zero_le _, fun h => absurd h (by simp)⟩
  · obtain ⟨g, cap, rfl, _, hlt⟩ := World.ownsRow.form h h0
    have hcap : l.length ≤ cap := by
      rcases h.2 with ⟨e, _⟩ | ⟨g', cap', cur, e, _, _, hc, _⟩
      · cases e
      · injection e with _ _ e; omega
    refine ⟨_, cap, rfl, hcap, fun _ => ⟨g, 0, rfl, hlt, fun j hj => ?_⟩⟩
    rw [Nat.zero_add, World.ownsRow.cellAt h j (by omega)]
    simp [hj]

theorem infoI64 : (Tryz.prog.info? 2).map (fun i => (i.zero, i.size, i.bytes)) = some (some (.int .i64 0), 1, 8) := by kernel_rfl
theorem infoSp : (Tryz.prog.info? 41).map (fun i => (i.zero, i.size, i.bytes)) = some (some (.agg #[.int .i64 0, .int .i64 0]), 2, 16) := by kernel_rfl

theorem own_ne {w : World} {base e size n b : Nat} {v : Value} {xs : List Value} (h : w.ownsRow base e size v n xs) (hb : b < base) : v.ownBlock ≠ some b := by
  obtain ⟨_, ⟨rfl, _⟩ | ⟨g, cap, cur, rfl, hg, _⟩⟩ := h
  · simp [Value.ownBlock]
  · simp only [Value.ownBlock]; intro q; injection q with q; omega
/-- behind an append onto a row of the call's own -/
theorem below_app {w W W1 : World} {B : Nat} {o : Obj} {v : Value} {e size n : Nat} {xs : List Value} (hbel : Below B w W) (hB : B ≤ W.heap.size) (hown : W.ownsRow B e size v n xs) (hg : (W.alloc o).grownBy W1 v.ownBlock) : Below B w W1 := by
  refine (hbel.alloc hB o).grown hg (by simp; omega) ?_
  intro k hk
  obtain ⟨_, ⟨rfl, _⟩ | ⟨g, cap, cur, rfl, hge, _⟩⟩ := hown
  · simp [Value.ownBlock] at hk
  · simp only [Value.ownBlock] at hk; injection hk with hk; omega

def InsR (n : Int) (l : List Int) (pt : Bool) (out : List Int) : Prop :=
  if pt then out = insL n l ∧ ∃ x ∈ l, n ≤ x else out = l ∧ ∀ x ∈ l, x < n
theorem InsR.start (n : Int) : InsR n [] false [] := by simp [InsR]
theorem InsR.done {n x : Int} {l out : List Int} (h : InsR n l true out) : InsR n (l ++ [x]) true (out ++ [x]) := by
  simp only [InsR, if_true] at h ⊢
  obtain ⟨rfl, y, hy, k⟩ := h
  exact ⟨(insL_snoc_done ⟨y, hy, k⟩).symm, y, List.mem_append_left _ hy, k⟩
theorem InsR.lt {n x : Int} {l out : List Int} (h : InsR n l false out) (hx : x < n) : InsR n (l ++ [x]) false (out ++ [x]) := by
  simp only [InsR, Bool.false_eq_true, if_false] at h ⊢
  obtain ⟨rfl, k⟩ := h
  refine ⟨rfl, fun y hy => ?_⟩
  rcases List.mem_append.1 hy with hy | hy
  · exact k y hy
  · simp at hy; omega
theorem InsR.eq {n : Int} {l out : List Int} (h : InsR n l false out) : InsR n (l ++ [n]) true (out ++ [n]) := by
  simp only [InsR, Bool.false_eq_true, if_false, if_true] at h ⊢
  obtain ⟨rfl, k⟩ := h
  exact ⟨by rw [insL_snoc_now k (Int.le_refl _), if_neg (by omega)], n, by simp, Int.le_refl _⟩
theorem InsR.gt {n x : Int} {l out : List Int} (h : InsR n l false out) (hx : n < x) : InsR n (l ++ [x]) true (out ++ [n] ++ [x]) := by
  simp only [InsR, Bool.false_eq_true, if_false, if_true] at h ⊢
  obtain ⟨rfl, k⟩ := h
  exact ⟨by rw [insL_snoc_now k (by omega), if_pos hx]; simp, x, by simp, by omega⟩
theorem InsR.end_t {n : Int} {l out : List Int} (h : InsR n l true out) : out = insL n l := by simp only [InsR, if_true] at h; exact h.1
theorem InsR.end_f {n : Int} {l out : List Int} (h : InsR n l false out) : out ++ [n] = insL n l := by
  simp only [InsR, Bool.false_eq_true, if_false] at h
  rw [h.1, insL_lt h.2]
theorem own_snoc {w : World} {base g cap : Nat} {out : List Int} {x : Int} (h : w.ownsRow base 2 1 (.slice (some ⟨g, 0, none⟩) (out.length + 1) cap) (out.length + 1) (out.map (Value.int .i64) ++ [.int .i64 x])) :
    OwnI w base (.slice (some ⟨g, 0, none⟩) (out.length + 1) cap) (out ++ [x]) := by
  unfold OwnI; simpa using h

/-- what insert leaves -/
def InsPost (n : Int) (l : List Int) (w w' : World) (e : Ending) : Prop := ∃ v, e = .returned v ∧ OwnI w' w.heap.size v (insL n l) ∧ Below w.heap.size w w'

set_option maxHeartbeats 4000000 in
set_option maxRecDepth 100000 in
theorem insert_any (A : Option Addr) (c : Nat) (l : List Int) (n0 : Int) (w : World) (hm : l.length ≤ 1000000) (hs : InAt w w.heap.size A l) :
    Calls Tryz.prog 71 #[.slice A l.length c, .int .i64 n0] w fun e w' => InsPost n0 l w w' e := by
  obtain ⟨i0, hi, hz0, hz1, hz2⟩ := info_parts infoI64
  have HS := Lib.hid hs
  clear hs
  obtain ⟨n, HL⟩ : ∃ n, Hid (l.length = n) := ⟨_, rfl⟩
  have hn : n ≤ 1000000 := by have := HL.out; omega
  rw [show l.length = n from HL.out]
  clear hm
  go_enter Tryz.func71, Tryz.ntmps71
  go_wp2
  go_loopw [5, 6, 7] (fun v pt i wr => ∃ (k : Nat) (p : Bool) (out : List Int), k ≤ n ∧ i = .int .i64 k ∧ pt = .bool p ∧ OwnI wr w.heap.size v out ∧ out.length ≤ k + 1 ∧ Hid (InsR n0 (l.take k) p out) ∧ Below w.heap.size w wr) (fun _ _ i _ => n - (intOf i).toNat)
  case atStart => exact ⟨0, false, [], Nat.zero_le _, rfl, rfl, World.ownsRow_nil _ _ _ _, by simp, by rw [List.take_zero]; exact InsR.start n0, Below.refl _ _⟩
  case round =>
    obtain ⟨k, p, out, hk, rfl, rfl, hown, hol, HG, hbel⟩ := hrel
    by_cases hlt : k < n
    · have hkl : k < l.length := by have := HL.out; omega
      obtain ⟨b, o, rfl, hb, hc⟩ := (HS.out.below hbel (Nat.le_refl _)) (by omega)
      have c0 := hc k hkl
      clear hc
      have HT := Lib.hid (List.take_succ_eq_append_getElem hkl)
      generalize l[k] = x at *
      have C0 : Hid (w.cell? ⟨b, o + k, none⟩ = some (.int .i64 x)) := by unfold Hid; rw [← hbel.cell (p := ⟨b, o + k, none⟩) hb]; exact c0
      have hbz : b < wr.heap.size := by have := hbel.size; omega
      have hB := hbel.size
      have ag := own_ne hown hb
      cases p with
      | true =>
        have HF : Hid (InsR n0 (l.take (k + 1)) true (out ++ [x])) := by unfold Hid; rw [HT.out]; exact HG.out.done
        clear HT HG
        go_wp2_with (at_builtin; refine wpList_append_lies _ (by rfl) _ _ _ (by rfl) w.heap.size 2 i0 _ 1 8 Tryz.underlying83 hi hz0 hz1 hz2 rfl (by omega) _ out.length (out.map (Value.int .i64)) (by rfl) (hown.alloc _) ⟨wr.heap.size, 0, none⟩ 1 1 [.int .i64 x] (by rfl) (by rfl) (World.news_of_block (cs := #[.int .i64 x]) (t := 2) (fr := (0, 0)) (heap_alloc_new wr _)) (by simp [Value.oneCell'])  (by omega) (by unfold maxLen; omega) (by omega) (by simp; omega) (wr.heap.size + 1) (by simp) ?_; intro g1 cap1 w1 hown1 hgrow hat hltw)
        have B1 := below_app hbel hB hown hgrow
        have hown2 := own_snoc hown1
        clear hgrow hat hltw hown hown1
        go_roundw
        case rel => exact ⟨k + 1, true, out ++ [x], by omega, by go_num, rfl, hown2, by simp; omega, HF, B1⟩
        case measure => simp [intOf]; omega
      | false =>
        have hol' : out.length ≤ k := by have h := HG.out; simp only [InsR, Bool.false_eq_true, if_false] at h; rw [h.1, List.length_take]; omega
        by_cases h1 : n0 ≤ x
        · by_cases h2 : n0 < x
          · have HF : Hid (InsR n0 (l.take (k + 1)) true (out ++ [n0] ++ [x])) := by unfold Hid; rw [HT.out]; exact HG.out.gt h2
            clear HT HG
            go_wp2_with (first | (at_builtin; refine wpList_append_lies _ (by rfl) _ _ _ (by rfl) w.heap.size 2 i0 _ 1 8 Tryz.underlying83 hi hz0 hz1 hz2 rfl (by omega) _ out.length (out.map (Value.int .i64)) (by rfl) (hown.alloc _) ⟨wr.heap.size, 0, none⟩ 1 1 [.int .i64 n0] (by rfl) (by rfl) (World.news_of_block (cs := #[.int .i64 n0]) (t := 2) (fr := (0, 0)) (heap_alloc_new wr _)) (by simp [Value.oneCell']) (by omega) (by unfold maxLen; omega) (by omega) (by simp; omega) (wr.heap.size + 1) (by simp) ?_; intro g1 cap1 w1 hown1 hgrow hat hltw; have B1 := below_app hbel hB hown hgrow; have hown2 : w1.ownsRow w.heap.size 2 1 (.slice (some ⟨g1, 0, none⟩) (out.length + 1) cap1) (out.length + 1) ((out ++ [n0]).map (Value.int .i64)) := (by simpa using hown1); have hB1 := B1.size; have c1 : w1.cell? ⟨b, o + k, none⟩ = some (.int .i64 x) := (by rw [B1.cell (p := ⟨b, o + k, none⟩) hb]; exact C0.out); clear hgrow hat hltw hown hown1 hbel) | (at_builtin; refine wpList_append_lies _ (by rfl) _ _ _ (by rfl) w.heap.size 2 i0 _ 1 8 Tryz.underlying83 hi hz0 hz1 hz2 rfl (by omega) _ (out.length + 1) ((out ++ [n0]).map (Value.int .i64)) (by rfl) (hown2.alloc _) ⟨w1.heap.size, 0, none⟩ 1 1 [.int .i64 x] (by rfl) (by rfl) (World.news_of_block (cs := #[.int .i64 x]) (t := 2) (fr := (0, 0)) (heap_alloc_new w1 _)) (by simp [Value.oneCell']) (by omega) (by unfold maxLen; omega) (by omega) (by simp; omega) (w1.heap.size + 1) (by simp) ?_; intro g2 cap2 w2 hown3 hgrow hat hltw; have B2 := below_app B1 hB1 hown2 hgrow; have hown4 : OwnI w2 w.heap.size (.slice (some ⟨g2, 0, none⟩) (out.length + 1 + 1) cap2) (out ++ [n0] ++ [x]) := (by simpa [OwnI] using hown3); clear hgrow hat hltw hown2 hown3 B1))
            go_roundw
            case rel => exact ⟨k + 1, true, out ++ [n0] ++ [x], by omega, by go_num, rfl, hown4, by simp; omega, HF, B2⟩
            case measure => simp [intOf]; omega
          · obtain rfl : n0 = x := by omega
            have HF : Hid (InsR n0 (l.take (k + 1)) true (out ++ [n0])) := by unfold Hid; rw [HT.out]; exact HG.out.eq
            clear HT HG
            go_wp2_with (at_builtin; refine wpList_append_lies _ (by rfl) _ _ _ (by rfl) w.heap.size 2 i0 _ 1 8 Tryz.underlying83 hi hz0 hz1 hz2 rfl (by omega) _ out.length (out.map (Value.int .i64)) (by rfl) (hown.alloc _) ⟨wr.heap.size, 0, none⟩ 1 1 [.int .i64 n0] (by rfl) (by rfl) (World.news_of_block (cs := #[.int .i64 n0]) (t := 2) (fr := (0, 0)) (heap_alloc_new wr _)) (by simp [Value.oneCell']) (by omega) (by unfold maxLen; omega) (by omega) (by simp; omega) (wr.heap.size + 1) (by simp) ?_; intro g1 cap1 w1 hown1 hgrow hat hltw; have B1 := below_app hbel hB hown hgrow; have hown2 := own_snoc hown1; clear hgrow hat hltw hown hown1 hbel)
            go_roundw
            case rel => exact ⟨k + 1, true, out ++ [n0], by omega, by go_num, rfl, hown2, by simp; omega, HF, B1⟩
            case measure => simp [intOf]; omega
        · have HF : Hid (InsR n0 (l.take (k + 1)) false (out ++ [x])) := by unfold Hid; rw [HT.out]; exact HG.out.lt (by omega)
          clear HT HG
          go_wp2_with (at_builtin; refine wpList_append_lies _ (by rfl) _ _ _ (by rfl) w.heap.size 2 i0 _ 1 8 Tryz.underlying83 hi hz0 hz1 hz2 rfl (by omega) _ out.length (out.map (Value.int .i64)) (by rfl) (hown.alloc _) ⟨wr.heap.size, 0, none⟩ 1 1 [.int .i64 x] (by rfl) (by rfl) (World.news_of_block (cs := #[.int .i64 x]) (t := 2) (fr := (0, 0)) (heap_alloc_new wr _)) (by simp [Value.oneCell']) (by omega) (by unfold maxLen; omega) (by omega) (by simp; omega) (wr.heap.size + 1) (by simp) ?_; intro g1 cap1 w1 hown1 hgrow hat hltw; have B1 := below_app hbel hB hown hgrow; have hown2 := own_snoc hown1; clear hgrow hat hltw hown hown1 hbel)
          go_roundw
          case rel => exact ⟨k + 1, false, out ++ [x], by omega, by go_num, rfl, hown2, by simp; omega, HF, B1⟩
          case measure => simp [intOf]; omega
    · obtain rfl : k = n := by omega
      have hB := hbel.size
      have HK : Hid (l.take k = l) := List.take_of_length_le (by have := HL.out; omega)
      cases p with
      | true =>
        have HF : Hid (out = insL n0 l) := by unfold Hid; rw [← HK.out]; exact HG.out.end_t
        clear HG HK
        go_wp2
        go_ret
        exact ⟨_, rfl, by rw [← HF.out]; exact hown, hbel⟩
      | false =>
        have HF : Hid (out ++ [n0] = insL n0 l) := by unfold Hid; rw [← HK.out]; exact (by rw [HK.out]; rw [HK.out] at HG; exact HG : Hid (InsR n0 (l.take k) false out)).out.end_f
        clear HG HK
        go_wp2_with (at_builtin; refine wpList_append_lies _ (by rfl) _ _ _ (by rfl) w.heap.size 2 i0 _ 1 8 Tryz.underlying83 hi hz0 hz1 hz2 rfl (by omega) _ out.length (out.map (Value.int .i64)) (by rfl) (hown.alloc _) ⟨wr.heap.size, 0, none⟩ 1 1 [.int .i64 n0] (by rfl) (by rfl) (World.news_of_block (cs := #[.int .i64 n0]) (t := 2) (fr := (0, 0)) (heap_alloc_new wr _)) (by simp [Value.oneCell']) (by omega) (by unfold maxLen; omega) (by omega) (by simp; omega) (wr.heap.size + 1) (by simp) ?_; intro g1 cap1 w1 hown1 hgrow hat hltw; have B1 := below_app hbel hB hown hgrow; have hown2 := own_snoc hown1; clear hgrow hat hltw hown hown1 hbel)
        go_ret
        exact ⟨_, rfl, by rw [← HF.out]; simpa using hown2, B1⟩
end Go.Proofs.YthbjhpfgfpkppaaGreatDoor
