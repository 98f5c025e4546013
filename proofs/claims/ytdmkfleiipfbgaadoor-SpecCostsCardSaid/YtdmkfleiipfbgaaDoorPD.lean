/-
  Costly: whether ranges ask for more than twice the bytes that there are, or are more than so many: the program's and the reference's.
-/
import Derived.Test.YtdmkfleiipfbgaaDoorPC
namespace Go.Proofs.YtdmkfleiipfbgaaDoor
open Go Go.RowKit

def lenQ (t : Int) (x : Sp) : Int := lenI (askA x.1 x.2 t) (askZ x.1 x.2 t)
/-- the bytes of all -/
def costL (t : Int) (l : List Sp) : Int := (l.map (lenQ t)).sum
/-- the bytes of spans -/
def sumL (l : List Sp) : Int := (l.map fun x => x.2 - x.1).sum
def cosB (t : Int) (l : List Sp) (n : Nat) (m : Int) : Bool := decide (m < n) || decide (2 * t < costL t l)

theorem lenQ_bnd {x : Sp} {t : Int} (hr : SR x.1 x.2) (h0 : 0 ≤ t) (h1 : t ≤ 1099511627776) : 0 ≤ lenQ t x ∧ lenQ t x ≤ t ∧ (0 < lenQ t x → lenQ t x = askZ x.1 x.2 t - askA x.1 x.2 t) := by
  have hb := ask_bnd hr h0
  have e : ∀ p q : Int, 0 ≤ p → 0 ≤ q → q ≤ t → 0 ≤ lenI p q ∧ lenI p q ≤ t ∧ (0 < lenI p q → lenI p q = q - p) := by
    intro p q h2 h3 h4
    unfold lenI
    cases hr : rtB p q with
    | false => simp; omega
    | true =>
      have := rtB_t hr
      have ho : opB p q = false := by unfold opB; simp; omega
      simp [ho]; omega
  exact e _ _ hb.1 hb.2.2 hb.2.1
theorem costL_take {t : Int} {l : List Sp} {k : Nat} (h : k < l.length) : costL t (l.take (k + 1)) = costL t (l.take k) + lenQ t l[k] := by
  unfold costL; rw [List.take_succ_eq_append_getElem h, List.map_append, List.sum_append]; simp
theorem costL_nonneg {t : Int} (h0 : 0 ≤ t) (h1 : t ≤ 1099511627776) : ∀ {l : List Sp}, SRL l → 0 ≤ costL t l
  | [], _ => by simp [costL]
  | x :: l, h => by
    have a := (lenQ_bnd (h x (List.mem_cons_self ..)) h0 h1).1
    have b := costL_nonneg h0 h1 (l := l) (fun y hy => h y (List.mem_cons_of_mem _ hy))
    unfold costL at *; simp only [List.map_cons, List.sum_cons]; omega
theorem costL_mono {t : Int} (h0 : 0 ≤ t) (h1 : t ≤ 1099511627776) {l : List Sp} (h : SRL l) (k : Nat) : costL t (l.take k) ≤ costL t l := by
  have e : costL t l = costL t (l.take k) + costL t (l.drop k) := by
    unfold costL; rw [← List.sum_append, ← List.map_append, List.take_append_drop]
  have := costL_nonneg h0 h1 (l := l.drop k) (fun y hy => h y (List.mem_of_mem_drop hy))
  omega
theorem sum_res {t : Int} (h0 : 0 ≤ t) (h1 : t ≤ 1099511627776) : ∀ {l : List Sp}, SRL l → sumL (resL t l) = costL t l
  | [], _ => by simp [costL, sumL, resL, solidL]
  | x :: l, h => by
    have a := lenQ_bnd (h x (List.mem_cons_self ..)) h0 h1
    have b := sum_res h0 h1 (l := l) (fun y hy => h y (List.mem_cons_of_mem _ hy))
    unfold resL solidL costL sumL at *
    simp only [List.map_cons, List.sum_cons, List.filter_cons]
    by_cases hp : 0 < lenQ t x
    · have hp' : decide (0 < lenI (askS t x).1 (askS t x).2) = true := decide_eq_true hp
      rw [if_pos hp']
      simp only [List.map_cons, List.sum_cons]
      rw [b, a.2.2 hp]; simp [askS]
    · have hp' : ¬ decide (0 < lenI (askS t x).1 (askS t x).2) = true := by rw [decide_eq_true_eq]; exact hp
      rw [if_neg hp', b]; omega

set_option maxHeartbeats 4000000 in
theorem costly_any (t m : Int) (A : Option Addr) (n c : Nat) (l : List Sp) (w : World) (hn : l.length = n) (hm : n ≤ 1000000) (hr : SRL l) (h0 : 0 ≤ t) (h1 : t ≤ 1099511627776) (hs : SpAt w w.heap.size A l) :
    Calls Tryd.prog 34 #[.slice A n c, .int .i64 t, .int .i64 m] w fun e w' => e = .returned (.bool (cosB t l n m)) ∧ Below w.heap.size w w' := by
  have HS := Lib.hid hs
  clear hs
  have HL := Lib.hid hn
  clear hn
  have HR := Lib.hid hr
  clear hr
  by_cases hmn : m < n
  · have HF : Hid (cosB t l n m = true) := by unfold Hid cosB; simp [hmn]
    go_enter Tryd.func34, Tryd.ntmps34
    go_wp2
    go_ret
    exact ⟨ret_bool HF.out.symm, Below.refl _ _⟩
  · have HC : Hid (cosB t l n m = decide (2 * t < costL t l)) := by unfold Hid cosB; simp [hmn]
    have HM := Lib.hid (costL_mono h0 h1 HR.out)
    go_enter Tryd.func34, Tryd.ntmps34
    go_wp2
    go_loopw [7, 16] (fun v i wr => ∃ (k : Nat) (s : Int), k ≤ n ∧ i = .int .i64 k ∧ v = .int .i64 s ∧ 0 ≤ s ∧ s ≤ 2 * t ∧ Hid (s = costL t (l.take k)) ∧ Below w.heap.size w wr) (fun _ i _ => n - (intOf i).toNat)
    case atStart => exact ⟨0, 0, Nat.zero_le _, rfl, rfl, by omega, by omega, rfl, Below.refl _ _⟩
    case round =>
      obtain ⟨k, s, hk, rfl, rfl, hs0, hs1, HG, hbel⟩ := hrel
      by_cases hlt : k < n
      · have hkl : k < l.length := by have := HL.out; omega
        obtain ⟨b, o, rfl, hbb, hc⟩ := (HS.out.below hbel (Nat.le_refl _)) (by omega)
        obtain ⟨c0, c1⟩ := hc k hkl
        clear hc
        have HT := Lib.hid (costL_take (t := t) hkl)
        have hmk := HM.out (k + 1)
        have hsr := HR.out l[k] (List.getElem_mem hkl)
        have hlb := lenQ_bnd hsr h0 h1
        unfold lenQ at HT hlb
        generalize l[k] = X at *
        obtain ⟨x, y⟩ := X
        simp only at HT c0 c1 hsr hlb
        have hask := fun W => asked_any x y t W hsr h0 (by omega)
        have hwz := hbel.size
        have hbz : b < wr.heap.size := by omega
        have e1 : Ext wr (wr.alloc (.cells #[.int .i64 x, .int .i64 y] 32)) := (Below.refl _ _).alloc (Nat.le_refl _) _
        generalize askA x y t = p at *
        generalize askZ x y t = q at *
        clear hsr
        have hlen := fun W => len_any p q W
        generalize lenI p q = L at *
        obtain ⟨hl0, hl1, -⟩ := hlb
        rw [HT.out, ← HG.out] at hmk
        have HMK := Lib.hid hmk
        clear hmk
        by_cases hbig : 2 * t < s + L
        · have HF : Hid (cosB t l n m = true) := by unfold Hid; rw [HC.out]; have := HMK.out; simp; omega
          clear HT HG HMK HC
          have hgt : decide (s + L > 2 * t) = true := by simpa using hbig
          go_wp2_with (first
            | (go_at_call 47; with_reducible refine (hask _).mono ?_; rintro e w0 ⟨rfl, hb0⟩; have e2 := e1.tr hb0; clear hb0 hask)
            | (go_at_call 48; with_reducible refine (hlen _).mono ?_; rintro e w1 ⟨rfl, hb1⟩; have e3 := e2.tr hb1; have B1 : Below w.heap.size w w1 := hbel.trans (e3.mono hwz); clear hb1 e2 e3 hlen))
          go_ret
          exact ⟨ret_bool HF.out.symm, B1⟩
        · have HF : Hid (s + L = costL t (l.take (k + 1))) := by unfold Hid; rw [HT.out, HG.out]
          clear HT HG HMK
          have hgt : decide (s + L > 2 * t) = false := by simpa using hbig
          go_wp2_with (first
            | (go_at_call 47; with_reducible refine (hask _).mono ?_; rintro e w0 ⟨rfl, hb0⟩; have e2 := e1.tr hb0; clear hb0 hask)
            | (go_at_call 48; with_reducible refine (hlen _).mono ?_; rintro e w1 ⟨rfl, hb1⟩; have e3 := e2.tr hb1; have B1 : Below w.heap.size w w1 := hbel.trans (e3.mono hwz); clear hb1 e2 e3 hlen))
          go_roundw
          case rel => exact ⟨k + 1, s + L, by omega, by go_num, by go_num, by omega, by omega, HF, B1⟩
          case measure => simp [intOf]; omega
      · obtain rfl : k = n := by omega
        have HF : Hid (cosB t l k m = false) := by
          unfold Hid; rw [HC.out]
          have := HG.out
          rw [List.take_of_length_le (by have := HL.out; omega)] at this
          simp; omega
        clear HG
        go_wp2
        go_ret
        exact ⟨ret_bool HF.out.symm, hbel⟩

theorem sumL_take {l : List Sp} {k : Nat} (h : k < l.length) : sumL (l.take (k + 1)) = sumL (l.take k) + (l[k].2 - l[k].1) := by
  unfold sumL; rw [List.take_succ_eq_append_getElem h, List.map_append, List.sum_append]; simp
theorem sumL_mono {l : List Sp} (h : ∀ x ∈ l, x.1 < x.2) (k : Nat) : sumL (l.take k) ≤ sumL l := by
  have e : sumL l = sumL (l.take k) + sumL (l.drop k) := by
    unfold sumL; rw [← List.sum_append, ← List.map_append, List.take_append_drop]
  have f : ∀ {m : List Sp}, (∀ x ∈ m, x.1 < x.2) → 0 ≤ sumL m := by
    intro m
    induction m with
    | nil => intro _; simp [sumL]
    | cons x m ih =>
      intro h
      have a := h x (List.mem_cons_self ..)
      have b := ih fun y hy => h y (List.mem_cons_of_mem _ hy)
      unfold sumL at *; simp only [List.map_cons, List.sum_cons]; omega
  have := f (m := l.drop k) fun x hx => h x (List.mem_of_mem_drop hx)
  omega
theorem res_within {t : Int} {l : List Sp} (hr : SRL l) (h0 : 0 ≤ t) : ∀ x ∈ resL t l, 0 ≤ x.1 ∧ x.1 < x.2 ∧ x.2 ≤ t := by
  intro x hx
  obtain ⟨h1, h2⟩ := solidL_mem hx
  obtain ⟨y, hy, rfl⟩ := List.mem_map.1 h1
  have := ask_bnd (hr y hy) h0
  unfold Solid at h2; unfold askS at *; simp only at h2 ⊢; omega

set_option maxHeartbeats 4000000 in
theorem rcostly_any (t m : Int) (A : Option Addr) (n c : Nat) (l : List Sp) (w : World) (hn : l.length = n) (hm : n ≤ 1000000) (hr : SRL l) (h0 : 0 ≤ t) (h1 : t ≤ 1099511627776) (hs : SpAt w w.heap.size A l) :
    Calls Tryd.prog 35 #[.slice A n c, .int .i64 t, .int .i64 m] w fun e w' => e = .returned (.bool (cosB t l n m)) ∧ Below w.heap.size w w' := by
  have HRE := Lib.hid (fun W (hW : Ext w W) => rresolve_any t A n c l W hn hm hr h0 (by omega) (hs.below hW hW.size))
  have HWI := Lib.hid (res_within hr h0)
  have HSU := Lib.hid (sum_res h0 h1 hr)
  have HLE := Lib.hid (resL_len t l)
  have HL := Lib.hid hn
  clear hs hn hr
  go_enter Tryd.func35, Tryd.ntmps35
  go_wp2_with (go_at_call 21; refine ((Hid.out HRE) _ (Ext.rf _)).mono ?_; rintro e w1 ⟨v, rfl, hown, B1⟩; obtain ⟨A2, n2, c2, rfl, HN2, hc2, hs2⟩ := (IsSp.own hown).split; have HS2 := Lib.hid hs2; clear hs2 hown)
  generalize resL t l = R at *
  have hn2 : n2 ≤ 1000000 := by have := HN2.out; have := HLE.out; have := HL.out; omega
  have HMO := Lib.hid (fun k => sumL_mono (l := R) (fun x hx => (HWI.out x hx).2.1) k)
  go_loopw [7, 20] (fun v i wr => ∃ (k : Nat) (s : Int), k ≤ n2 ∧ i = .int .i64 k ∧ v = .int .i64 s ∧ 0 ≤ s ∧ s ≤ 2 * t ∧ Hid (s = sumL (R.take k)) ∧ Below w1.heap.size w1 wr) (fun _ i _ => n2 - (intOf i).toNat)
  case atStart => exact ⟨0, 0, Nat.zero_le _, rfl, rfl, by omega, by omega, rfl, Below.refl _ _⟩
  case round =>
    obtain ⟨k, s, hk, rfl, rfl, hs0, hs1, HG, hbel⟩ := hrel
    by_cases hlt : k < n2
    · have hkl : k < R.length := by have := HN2.out; omega
      obtain ⟨b, o, rfl, hbb, hc⟩ := (HS2.out.below hbel (Nat.le_refl _)) (by omega)
      obtain ⟨c0, c1⟩ := hc k hkl
      clear hc
      have HT := Lib.hid (sumL_take hkl)
      have hmk := HMO.out (k + 1)
      have hx := HWI.out R[k] (List.getElem_mem hkl)
      generalize R[k] = X at *
      obtain ⟨x, y⟩ := X
      simp only at HT c0 c1 hx
      have hwz := hbel.size
      have hbz : b < wr.heap.size := by omega
      have e1 : Ext wr (wr.alloc (.cells #[.int .i64 x, .int .i64 y] 39)) := (Below.refl _ _).alloc (Nat.le_refl _) _
      have B2 := B1.trans ((hbel.trans (e1.mono hwz)).mono B1.size)
      rw [HT.out, ← HG.out] at hmk
      have HMK := Lib.hid hmk
      clear hmk
      by_cases hbig : 2 * t < s + y - x
      · have HF : Hid (cosB t l n m = true) := by unfold Hid cosB; have := HMK.out; have := HSU.out; simp; right; omega
        clear HT HG HMK
        have hgt : decide (s + y - x > 2 * t) = true := by simpa using hbig
        go_wp2
        go_ret
        exact ⟨ret_bool HF.out.symm, B2⟩
      · have HF : Hid (s + y - x = sumL (R.take (k + 1))) := by unfold Hid; rw [HT.out, HG.out]; omega
        clear HT HG HMK
        have hgt : decide (s + y - x > 2 * t) = false := by simpa using hbig
        go_wp2
        go_roundw
        case rel => exact ⟨k + 1, s + y - x, by omega, by go_num, by go_num, by omega, by omega, HF, hbel.trans (e1.mono hwz)⟩
        case measure => simp [intOf]; omega
    · obtain rfl : k = n2 := by omega
      have HF : Hid (cosB t l n m = decide (m < n)) := by
        unfold Hid cosB
        have := HG.out
        rw [List.take_of_length_le (by have := HN2.out; omega), HSU.out] at this
        simp; omega
      clear HG
      go_wp2
      go_ret
      exact ⟨ret_bool (by rw [HF.out]), B1.trans (hbel.mono B1.size)⟩
end Go.Proofs.YtdmkfleiipfbgaaDoor
