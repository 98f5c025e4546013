/-
  How great conditions are: the reference's Few.
-/
import Derived.Test.YtomcoacndppkcaaGreatDoorUB
import Derived.Test.YtomcoacndppkcaaGreatDoorTE
namespace Go.Proofs.YtomcoacndppkcaaGreatDoor
open Go Go.RowKit
open T (Tg TgAt)

/-- two lists of tags that came in -/
structure TwoArg (w : World) (A B : Option Addr) (n m : Nat) (l1 l2 : List Tg) : Prop where
  n1 : l1.length = n
  m1 : n ≤ maxLen
  M1 : T.Mx l1
  s1 : TgAt w w.heap.size A l1
  n2 : l2.length = m
  m2 : m ≤ maxLen
  M2 : T.Mx l2
  s2 : TgAt w w.heap.size B l2
theorem TwoArg.below {w W : World} {A B : Option Addr} {n m : Nat} {l1 l2 : List Tg} (h : TwoArg w A B n m l1 l2) (e : Below w.heap.size w W) : TwoArg W A B n m l1 l2 :=
  ⟨h.n1, h.m1, h.M1, h.s1.below e e.size, h.n2, h.m2, h.M2, h.s2.below e e.size⟩

def wsum (l : List Tg) : Nat := (l.map fun t => t.1.size).sum
theorem wsum_append (l m : List Tg) : wsum (l ++ m) = wsum l + wsum m := by unfold wsum; rw [List.map_append, List.sum_append]
theorem wsum_one (x : Tg) : wsum [x] = x.1.size := by unfold wsum; simp
theorem wsum_take {l : List Tg} {k : Nat} (h : k < l.length) : wsum (l.take (k + 1)) = wsum (l.take k) + l[k].1.size := by
  rw [List.take_succ_eq_append_getElem h, wsum_append, wsum_one]
theorem wsum_at {l : List Tg} {x : Tg} (h : x ∈ l) : x.1.size ≤ wsum l := by
  unfold wsum
  induction l with
  | nil => cases h
  | cons y l ih =>
    simp only [List.map_cons, List.sum_cons]
    rcases List.mem_cons.1 h with rfl | h
    · omega
    · have := ih h; omega
/-- are conditions small? -/
def fewD (l1 l2 : List Tg) (rs : Nat) : Bool := decide (l1.length ≤ 40) && decide (l2.length ≤ 40) && decide (rs + wsum l1 + wsum l2 ≤ 400)
theorem few_iff {l1 l2 : List Tg} {rs : Nat} : fewD l1 l2 rs = true ↔ l1.length ≤ 40 ∧ l2.length ≤ 40 ∧ rs + wsum l1 + wsum l2 ≤ 400 := by
  unfold fewD; simp [and_assoc]
theorem few_no {l1 l2 : List Tg} {rs : Nat} (h : ¬ (l1.length ≤ 40 ∧ l2.length ≤ 40 ∧ rs + wsum l1 + wsum l2 ≤ 400)) : fewD l1 l2 rs = false := by
  cases e : fewD l1 l2 rs with
  | false => rfl
  | true => exact absurd (few_iff.1 e) h
theorem TwoArg.two {w : World} {A B : Option Addr} {n m rs : Nat} {l1 l2 : List Tg} (h : TwoArg w A B n m l1 l2) (hf : fewD l1 l2 rs = true) : TwoAt w A B n m l1 l2 := by
  obtain ⟨h1, h2, -⟩ := few_iff.1 hf
  exact ⟨h.n1, by have := h.n1; omega, h.M1, h.s1, h.n2, by have := h.n2; omega, h.M2, h.s2⟩

/-- so far -/
def FewTo (l1 l2 : List Tg) (rs k g : Nat) : Prop := g = rs + (if 1 ≤ k then wsum l1 else 0) + (if 2 ≤ k then wsum l2 else 0) ∧ (1 ≤ k → l1.length ≤ 40) ∧ (2 ≤ k → l2.length ≤ 40)
theorem FewTo.pick {l1 l2 : List Tg} {rs k g : Nat} {W : World} {q : Nat} {A B : Option Addr} {n c m d : Nat} (h : FewTo l1 l2 rs k g) (hk : k < 2) (hT : TwoArg W A B n m l1 l2) (hq : ∀ i, W.cell? ⟨q, i, none⟩ = (#[Value.slice A n c, Value.slice B m d] : Array Value)[i]?) :
    ∃ (A' : Option Addr) (n' c' : Nat) (l : List Tg), W.cell? ⟨q, k, none⟩ = some (.slice A' n' c') ∧ l.length = n' ∧ n' ≤ maxLen ∧ T.Mx l ∧ TgAt W W.heap.size A' l ∧
      (n' ≤ 40 → FewTo l1 l2 rs (k + 1) (g + wsum l)) ∧ (40 < n' → fewD l1 l2 rs = false) ∧ (∀ x ∈ l, 400 < x.1.size → fewD l1 l2 rs = false) := by
  obtain ⟨h1, h2, h3⟩ := h
  rcases (show k = 0 ∨ k = 1 by omega) with rfl | rfl
  · refine ⟨A, n, c, l1, hq 0, hT.n1, hT.m1, hT.M1, hT.s1, fun hn => ⟨by simp at h1 ⊢; omega, fun _ => by have := hT.n1; omega, fun h => by omega⟩, fun hn => few_no (by have := hT.n1; omega), fun x hx hs => few_no (by have := wsum_at hx; omega)⟩
  · refine ⟨B, m, d, l2, hq 1, hT.n2, hT.m2, hT.M2, hT.s2, fun hn => ⟨by simp at h1 ⊢; omega, fun _ => h2 (by omega), fun h => by have := hT.n2; omega⟩, fun hn => few_no (by have := hT.n2; omega), fun x hx hs => few_no (by have := wsum_at hx; omega)⟩
theorem FewTo.fin {l1 l2 : List Tg} {rs g : Nat} (h : FewTo l1 l2 rs 2 g) : fewD l1 l2 rs = decide (g ≤ 400) := by
  obtain ⟨h1, h2, h3⟩ := h
  have a := h2 (by omega)
  have b := h3 (by omega)
  simp at h1
  unfold fewD
  simp [a, b, h1]
theorem two_cells {w W : World} {q : Nat} {C : Array Value} {ty : TypeId} (hq : w.heap.size = q) (h : Below (w.alloc (.cells C ty)).heap.size (w.alloc (.cells C ty)) W) : (∀ i, W.cell? ⟨q, i, none⟩ = C[i]?) ∧ q < W.heap.size := by
  subst hq
  have hz := h.size
  simp only [World.size_alloc] at hz
  exact ⟨fun i => by rw [h.cell (p := ⟨w.heap.size, i, none⟩) (by simp only [World.size_alloc]; omega)]; simp, by omega⟩

set_option maxHeartbeats 4000000 in
set_option maxRecDepth 20000 in
theorem few_any (A B : Option Addr) (n c m d : Nat) (am an : Bool) (s u : Int) (rt : ByteArray) (rw : Bool) (l1 l2 : List Tg) (w : World) (h : TwoArg w A B n m l1 l2) (hr : rt.size ≤ T.szM) :
    Calls Tryz.prog 11 #[cdV A B n c m d am an s u rt rw] w fun e w' => e = .returned (.bool (fewD l1 l2 rt.size)) ∧ Below w.heap.size w w' := by
  have HH := Lib.hid h
  clear h
  unfold T.szM at hr
  obtain ⟨F, HF⟩ : ∃ F, Hid (fewD l1 l2 rt.size = F) := ⟨_, rfl⟩
  rw [HF.out]
  have hz0 : (w.alloc (.cells #[.slice A n c, .slice B m d, .bool am, .bool an, .int .i64 s, .int .i64 u, .string rt, .bool rw] 29)).heap.size = w.heap.size + 1 := by simp
  have bw2 : Below w.heap.size w ((w.alloc (.cells #[.slice A n c, .slice B m d, .bool am, .bool an, .int .i64 s, .int .i64 u, .string rt, .bool rw] 29)).alloc (.cells #[.slice A n c, .slice B m d] 25)) := by go_grown
  go_enter Tryz.func11, Tryz.ntmps11
  go_wp2
  go_loopw [3, 18] (fun v i wr => ∃ k g : Nat, k ≤ 2 ∧ v = .int .i64 g ∧ i = .int .i64 k ∧ Hid (FewTo l1 l2 rt.size k g) ∧ g ≤ 140737488351232 + 16000 * k ∧ Below (w.heap.size + 1 + 1) ((w.alloc (.cells #[.slice A n c, .slice B m d, .bool am, .bool an, .int .i64 s, .int .i64 u, .string rt, .bool rw] 29)).alloc (.cells #[.slice A n c, .slice B m d] 25)) wr) (fun _ i _ => 2 - (intOf i).toNat)
  case atStart => exact ⟨0, rt.size, Nat.zero_le _, rfl, rfl, ⟨by simp, fun h => by omega, fun h => by omega⟩, by omega, Below.refl _ _⟩
  case round =>
    obtain ⟨k, g, hk, rfl, rfl, HG, hgb, hbel⟩ := hrel
    have bw : Below w.heap.size w wr := bw2.trans (hbel.mono (by omega))
    by_cases hlt : k < 2
    · obtain ⟨hq, hql⟩ := two_cells (q := w.heap.size + 1) hz0 (by simpa using hbel)
      obtain ⟨A', n', c', l, hc, hn, hm, hM, hs, hstep, hbig, hlong⟩ := HG.out.pick hlt (HH.out.below bw) hq
      have HN := Lib.hid hn
      have HM := Lib.hid hM
      have HS := Lib.hid hs
      have HST := Lib.hid hstep
      have HBI := Lib.hid hbig
      have HLO := Lib.hid hlong
      clear hn hM hs hstep hbig hlong hq HG
      by_cases hn40 : n' ≤ 40
      · generalize hwr : wr = w3 at *
        clear hwr
        go_wp2
        go_loopw [3, 27] (fun v i wx => ∃ j e : Nat, j ≤ n' ∧ v = .int .i64 ((g : Int) + (e : Int)) ∧ i = .int .i64 j ∧ Hid (wsum (l.take j) = e) ∧ e ≤ 400 * j ∧ Below w3.heap.size w3 wx) (fun _ i _ => n' - (intOf i).toNat)
        case atStart => exact ⟨0, 0, Nat.zero_le _, rfl, rfl, by unfold Hid wsum; simp, by omega, Below.refl _ _⟩
        case round =>
          obtain ⟨j, e, hj, rfl, rfl, HE, heb, hbx⟩ := hrel
          by_cases hjl : j < n'
          · have hjn : j < l.length := by have := HN.out; omega
            obtain ⟨b, o, rfl, hb, hcc⟩ := (HS.out.below hbx (Nat.le_refl _)) (by omega)
            obtain ⟨c0, c1⟩ := hcc j hjn
            clear hcc
            have hx := HM.out.at0 hjn
            have HT := Lib.hid (wsum_take hjn)
            have HA := Lib.hid (fun h : 400 < l[j].1.size => HLO.out l[j] (List.getElem_mem hjn) h)
            obtain ⟨X, hX⟩ : ∃ X, Hid (l[j] = X) := ⟨l[j], rfl⟩
            rw [hX.out] at HT HA c0 c1 hx
            clear hX
            obtain ⟨x, p⟩ := X
            simp only at c0 c1 hx
            unfold T.szM at hx
            have hbz : b < wr.heap.size := by have := hbx.size; omega
            by_cases h4 : x.size ≤ 400
            · have HK : Hid (wsum (l.take (j + 1)) = e + x.size) := by unfold Hid; rw [HT.out, HE.out]
              clear HA HT HST
              go_wp2
              go_roundw
              case rel => exact ⟨j + 1, e + x.size, by omega, by go_num, by go_num, HK, by omega, hbx.alloc hbx.size _⟩
              case measure => simp [intOf]; omega
            · have hF : Hid (false = F) := by unfold Hid; rw [← HF.out, HA.out (by show 400 < x.size; omega)]
              clear HA HT HST
              go_wp2
              go_ret
              exact ⟨T.ret_bool hF.out, Below.trans bw ((hbx.alloc hbx.size _).mono bw.size)⟩
          · obtain rfl : j = n' := by omega
            have HE2 : Hid (wsum l = e) := by have h := HE.out; rwa [List.take_of_length_le (by have := HN.out; omega)] at h
            have HS2 : Hid (FewTo l1 l2 rt.size (k + 1) (g + e)) := by have h := HST.out hn40; rwa [HE2.out] at h
            clear HE HE2 HST
            go_wp2
            go_roundw
            case rel => exact ⟨k + 1, g + e, by omega, by go_num, by go_num, HS2, by omega, hbel.trans (hbx.mono (by omega))⟩
            case measure => simp [intOf]; omega
      · have hF : Hid (false = F) := by unfold Hid; rw [← HF.out, HBI.out (by omega)]
        clear HBI HST HLO
        go_wp2
        go_ret
        exact ⟨T.ret_bool hF.out, by first | exact bw | go_grown⟩
    · obtain rfl : k = 2 := by omega
      have hF : Hid (decide (g ≤ 400) = F) := by unfold Hid; rw [← HF.out, HG.out.fin]
      clear HG
      by_cases h4 : g ≤ 400
      · go_wp2
        go_ret
        exact ⟨T.ret_bool (by rw [← hF.out]; simp; omega), bw⟩
      · go_wp2
        go_ret
        exact ⟨T.ret_bool (by rw [← hF.out]; simp; omega), bw⟩
end Go.Proofs.YtomcoacndppkcaaGreatDoor
