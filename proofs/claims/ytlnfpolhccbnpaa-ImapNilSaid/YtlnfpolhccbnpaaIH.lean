/-
  made: a map out of acts; Same; the example.
-/
import Derived.Test.YtlnfpolhccbnpaaIG
namespace Go.Proofs.Ytlnfpolhccbnpaa
open Go Go.RowKit

/-- an act: a drop?, from, to, what is told -/
abbrev Ac := Bool × Int × Int × Int
def AcAt (w : World) (B : Nat) (A : Option Addr) (l : List Ac) : Prop :=
  0 < l.length → ∃ b o, A = some ⟨b, o, none⟩ ∧ b < B ∧ ∀ j (h : j < l.length), w.cell? ⟨b, o + j * 4, none⟩ = some (.bool l[j].1) ∧ w.cell? ⟨b, o + j * 4 + 1, none⟩ = some (.int .i64 l[j].2.1) ∧ w.cell? ⟨b, o + j * 4 + 2, none⟩ = some (.int .i64 l[j].2.2.1) ∧ w.cell? ⟨b, o + j * 4 + 3, none⟩ = some (.int .i64 l[j].2.2.2)
theorem AcAt.below {w w' : World} {B B' : Nat} {A : Option Addr} {l : List Ac} (h : AcAt w B A l) (hb : Below B w w') (hB : B ≤ B') : AcAt w' B' A l := fun hl => by
  obtain ⟨b, o, e, hlt, hc⟩ := h hl
  refine ⟨b, o, e, by omega, fun j hj => ?_⟩
  rw [hb.cell (p := ⟨b, o + j * 4, none⟩) hlt, hb.cell (p := ⟨b, o + j * 4 + 1, none⟩) hlt, hb.cell (p := ⟨b, o + j * 4 + 2, none⟩) hlt, hb.cell (p := ⟨b, o + j * 4 + 3, none⟩) hlt]
  exact hc j hj
theorem AcAt.ext {w w' : World} {A : Option Addr} {l : List Ac} (h : AcAt w w.heap.size A l) (hb : Ext w w') : AcAt w' w'.heap.size A l := h.below hb hb.size
/-- what one act makes of runs; what acts make of none -/
def actI (D : List Rn) (x : Ac) : List Rn := if x.1 then dropI D x.2.1 x.2.2.1 else putI D x.2.1 x.2.2.1 x.2.2.2
def actsI (D : List Rn) (l : List Ac) : List Rn := l.foldl actI D
theorem actI_good {D : List Rn} (h : Good 0 none D) (x : Ac) : Good 0 none (actI D x) := by
  unfold actI; split
  · exact dropI_good _ _ h
  · exact putI_good _ _ _ h
theorem actI_len {D : List Rn} (h : Good 0 none D) (x : Ac) : (actI D x).length ≤ D.length + 2 := by
  unfold actI; split
  · have := dropI_len x.2.1 x.2.2.1 h; omega
  · exact putI_len _ _ _ h
theorem actsI_good : ∀ (l : List Ac) {D : List Rn}, Good 0 none D → Good 0 none (actsI D l)
  | [], _, h => h
  | x :: l, _, h => actsI_good l (actI_good h x)
theorem actsI_len : ∀ (l : List Ac) {D : List Rn}, Good 0 none D → (actsI D l).length ≤ D.length + 2 * l.length
  | [], _, _ => by simp [actsI]
  | x :: l, D, h => by
    have h1 := actsI_len l (actI_good h x)
    have h2 := actI_len h x
    show (actsI (actI D x) l).length ≤ _
    simp only [List.length_cons]; omega
theorem actsI_take {D : List Rn} {l : List Ac} {k : Nat} (h : k < l.length) : actsI D (l.take (k + 1)) = actI (actsI D (l.take k)) l[k] := by
  unfold actsI
  rw [List.take_succ_eq_append_getElem h, List.foldl_append]; rfl
theorem ext_post {w W W' : World} {base mb : Nat} {A : Option Addr} {n c : Nat} {l l' : List Rn} (hE : Ext w W) (hm : MapAt W base mb A n c l) (hb : w.heap.size ≤ base) (hmb : w.heap.size ≤ mb) (hp : MapPost base mb A n c l' W W') : Ext w W' := by
  obtain ⟨A', n', c', h1, h2, h3⟩ := hp
  exact hE.trans (h2.below hE.size hmb (fun k hk => by have := (World.ownsRow.lt hm.own k hk).1; omega))

set_option maxHeartbeats 8000000 in
set_option maxRecDepth 100000 in
theorem made_any (A : Option Addr) (n c : Nat) (l : List Ac) (w : World) (hn : l.length = n) (hm : n ≤ 1000) (hs : AcAt w w.heap.size A l) :
    Calls Try.prog 12 #[.slice A n c] w fun e w' => e = .returned (.tuple #[.pointer (some ⟨w.heap.size, 0, none⟩), .bool true]) ∧ (∃ A' n' c', MapAt w' w.heap.size w.heap.size A' n' c' (actsI [] l)) ∧ Ext w w' := by
  have HS := Lib.hid hs; have HN := Lib.hid hn
  clear hs hn
  go_enter Try.func12, Try.ntmps12
  go_wp2_with (go_at_call 34; refine (new_any _).mono ?_; rintro e w1 ⟨rfl, rfl⟩)
  go_loopw [11] (fun i wr => ∃ k : Nat, k ≤ n ∧ i = .int .i64 k ∧ (∃ A' n' c', MapAt wr w.heap.size w.heap.size A' n' c' (actsI [] (l.take k))) ∧ Ext w wr) (fun i _ => n - (intOf i).toNat)
  case atStart => exact ⟨0, Nat.zero_le _, rfl, ⟨_, _, _, new_map w⟩, (Below.refl _ _).alloc (Nat.le_refl _) _⟩
  case round =>
    obtain ⟨k, hk, rfl, ⟨A2, n2, c2, hmap⟩, hE⟩ := hrel
    by_cases hlt : k < n
    · have hkl : k < l.length := by have := HN.out; omega
      obtain ⟨b, o, rfl, hbb, hc⟩ := (HS.out.ext hE) (by have := HN.out; omega)
      obtain ⟨c0, c1, c2', c3⟩ := hc k hkl
      clear hc
      have HT := Lib.hid (actsI_take (D := []) hkl)
      have hg := actsI_good (l.take k) (D := []) trivial
      have hl := actsI_len (l.take k) (D := []) trivial
      rw [List.length_take] at hl
      generalize actsI [] (l.take k) = D at *
      generalize l[k] = X at *
      obtain ⟨d, x, y, v⟩ := X
      simp only at c0 c1 c2' c3
      have hln := hmap.len
      have e1 : Ext wr (wr.alloc (.cells #[.bool d, .int .i64 x, .int .i64 y, .int .i64 v] 63)) := (Below.refl _ _).alloc (Nat.le_refl _) _
      have E1 : Ext w (wr.alloc (.cells #[.bool d, .int .i64 x, .int .i64 y, .int .i64 v] 63)) := hE.tr e1
      have hmap1 := hmap.ext e1
      have hwz := hE.size
      have HD := Lib.hid (drop_any w.heap.size w.heap.size A2 n2 c2 D x y _ hmap1 hg (by simp at hl; omega) (by simp; omega))
      have HP := Lib.hid (put_any w.heap.size w.heap.size A2 n2 c2 D x y v _ hmap1 hg (by simp at hl; omega) (by simp; omega))
      have HX : Hid (∀ l' W', MapPost w.heap.size w.heap.size A2 n2 c2 l' (wr.alloc (.cells #[.bool d, .int .i64 x, .int .i64 y, .int .i64 v] 63)) W' → (∃ A' n' c', MapAt W' w.heap.size w.heap.size A' n' c' l') ∧ Ext w W') := fun l' W' h => ⟨by obtain ⟨A', n', c', h1, _, _⟩ := h; exact ⟨A', n', c', h1⟩, ext_post E1 hmap1 (Nat.le_refl _) (Nat.le_refl _) h⟩
      clear hmap hmap1 e1 hE hg hl hln
      cases d with
      | true =>
        have HF : Hid (dropI D x y = actsI [] (l.take (k + 1))) := by unfold Hid; rw [HT.out]; rfl
        clear HT HP
        go_wp2_with (go_at_call 29; refine (Hid.out HD).mono ?_; rintro e w3 ⟨rfl, hp⟩; have HR := Lib.hid (HX.out _ _ hp); clear hp)
        go_roundw
        case rel => exact ⟨k + 1, by omega, by go_num, by rw [← HF.out]; exact HR.out.1, HR.out.2⟩
        case measure => simp [intOf]; omega
      | false =>
        have HF : Hid (putI D x y v = actsI [] (l.take (k + 1))) := by unfold Hid; rw [HT.out]; rfl
        clear HT HD
        by_cases hp0 : 0 < lenI x y
        · have hab := len_pos.1 hp0
          rw [if_pos hp0] at HP
          have q1 : ¬ (x < 0) := by omega
          have q2 : ¬ (y ≤ x) := by omega
          have q3 : ¬ (4611686018427387904 < y) := by omega
          clear hp0 hab
          go_wp2_with (go_at_call 30; refine (Hid.out HP).mono ?_; rintro e w3 ⟨rfl, hp⟩; have HR := Lib.hid (HX.out _ _ hp); clear hp)
          go_roundw
          case rel => exact ⟨k + 1, by omega, by go_num, by rw [← HF.out]; exact HR.out.1, HR.out.2⟩
          case measure => simp [intOf]; omega
        · rw [if_neg hp0] at HP
          rw [len_pos] at hp0
          by_cases q1 : x < 0
          · clear hp0
            go_wp2_with (go_at_call 30; refine (Hid.out HP).mono ?_; rintro e w3 ⟨rfl, hp⟩; have HR := Lib.hid (HX.out _ _ hp); clear hp)
            go_roundw
            case rel => exact ⟨k + 1, by omega, by go_num, by rw [← HF.out]; exact HR.out.1, HR.out.2⟩
            case measure => simp [intOf]; omega
          · by_cases q2 : y ≤ x
            · clear hp0
              go_wp2_with (go_at_call 30; refine (Hid.out HP).mono ?_; rintro e w3 ⟨rfl, hp⟩; have HR := Lib.hid (HX.out _ _ hp); clear hp)
              go_roundw
              case rel => exact ⟨k + 1, by omega, by go_num, by rw [← HF.out]; exact HR.out.1, HR.out.2⟩
              case measure => simp [intOf]; omega
            · have q3 : 4611686018427387904 < y := by omega
              clear hp0
              go_wp2_with (go_at_call 30; refine (Hid.out HP).mono ?_; rintro e w3 ⟨rfl, hp⟩; have HR := Lib.hid (HX.out _ _ hp); clear hp)
              go_roundw
              case rel => exact ⟨k + 1, by omega, by go_num, by rw [← HF.out]; exact HR.out.1, HR.out.2⟩
              case measure => simp [intOf]; omega
    · obtain rfl : k = n := by omega
      have hlk : l.take k = l := List.take_of_length_le (by have := HN.out; omega)
      rw [hlk] at hmap
      have HM := Lib.hid hmap; have HE := Lib.hid hE
      clear hmap hE
      go_wp2
      exact bodyPost_ret (v := .tuple #[.pointer (some ⟨w.heap.size, 0, none⟩), .bool true]) (by simp [results, Try.results12, go_sem]) rfl ⟨rfl, ⟨A2, n2, c2, HM.out⟩, HE.out⟩

set_option maxHeartbeats 1600000 in
theorem same_q (A A' : Option Addr) (n c n' c' : Nat) (l m : List Rn) (w : World) (hl : l.length = n) (hl' : m.length = n') (hm : n ≤ 1000000) (hs : RnAt w w.heap.size A l) (hs' : RnAt w w.heap.size A' m) :
    Calls Try.prog 15 #[.slice A n c, .slice A' n' c'] w fun e w' => e = .returned (.bool (decide (l = m))) ∧ Below w.heap.size w w' := by
  have HS := Lib.hid hs; have HS' := Lib.hid hs'
  clear hs hs'
  subst hl; subst hl'
  by_cases hlen : l.length = m.length
  · obtain ⟨n, HL, HL'⟩ : ∃ n, Hid (l.length = n) ∧ Hid (m.length = n) := ⟨l.length, rfl, hlen.symm⟩
    have hn : n ≤ 1000000 := by have := HL.out; omega
    rw [show l.length = n from HL.out, show m.length = n from HL'.out]
    clear hlen hm
    go_enter Try.func15, Try.ntmps15
    go_wp2
    go_loopw [13] (fun i wr => ∃ k : Nat, k ≤ n ∧ i = .int .i64 k ∧ Hid (l.take k = m.take k) ∧ Below w.heap.size w wr) (fun i _ => n - (intOf i).toNat)
    case atStart => exact ⟨0, Nat.zero_le _, rfl, rfl, Below.refl _ _⟩
    case round =>
      obtain ⟨k, hk, rfl, HG, hbel⟩ := hrel
      by_cases hlt : k < n
      · have hkl : k < l.length := by have := HL.out; omega
        have hkm : k < m.length := by have := HL'.out; omega
        obtain ⟨b, o, rfl, hb, hc⟩ := (HS.out.below hbel (Nat.le_refl _)) (by omega)
        obtain ⟨b', o', rfl, hb', hc'⟩ := (HS'.out.below hbel (Nat.le_refl _)) (by omega)
        obtain ⟨c0, c1, c2⟩ := hc k hkl
        obtain ⟨d0, d1, d2⟩ := hc' k hkm
        clear hc hc'
        have HT : Hid (l[k] = m[k] → l.take (k + 1) = m.take (k + 1)) := fun h => by rw [List.take_succ_eq_append_getElem hkl, List.take_succ_eq_append_getElem hkm, HG.out, h]
        have HA : Hid (l[k] ≠ m[k] → l ≠ m) := fun h e => h (by subst e; rfl)
        generalize l[k] = X at *
        generalize m[k] = Y at *
        obtain ⟨x, y, z⟩ := X
        obtain ⟨x', y', z'⟩ := Y
        simp only at c0 c1 c2 d0 d1 d2
        by_cases h1 : x = x'
        · subst h1
          by_cases h2 : y = y'
          · subst h2
            by_cases h3 : z = z'
            · subst h3
              have HF : Hid (l.take (k + 1) = m.take (k + 1)) := HT.out rfl
              clear HT HA HG
              go_wp2
              go_quiet (fail)
              go_wp2
              go_roundw
              case rel => exact ⟨k + 1, by omega, by go_num, HF, Ext.tr hbel (ext_drewN _ _)⟩
              case measure => simp [intOf]; omega
            · have HF : Hid (l ≠ m) := HA.out (by intro h; injection h with _ h; injection h with _ h; exact h3 h)
              clear HT HA HG
              go_wp2
              go_quiet (fail)
              go_wp2
              go_ret
              exact ⟨ret_bool (by have := HF.out; simp [this]), Ext.tr hbel (ext_drewN _ _)⟩
          · have HF : Hid (l ≠ m) := HA.out (by intro h; injection h with _ h; injection h with h _; exact h2 h)
            clear HT HA HG
            go_wp2
            go_quiet (fail)
            go_wp2
            go_ret
            exact ⟨ret_bool (by have := HF.out; simp [this]), Ext.tr hbel (ext_drewN _ _)⟩
        · have HF : Hid (l ≠ m) := HA.out (by intro h; injection h with h _; exact h1 h)
          clear HT HA HG
          go_wp2
          go_quiet (fail)
          go_wp2
          go_ret
          exact ⟨ret_bool (by have := HF.out; simp [this]), Ext.tr hbel (ext_drewN _ _)⟩
      · obtain rfl : k = n := by omega
        have HF : Hid (l = m) := by
          have := HG.out
          rwa [List.take_of_length_le (by have := HL.out; omega), List.take_of_length_le (by have := HL'.out; omega)] at this
        clear HG
        go_wp2
        go_ret
        exact ⟨ret_bool (by have := HF.out; simp [this]), hbel⟩
  · have h2 : l ≠ m := fun e => hlen (by rw [e])
    have hb1 : ((l.length : Int) == (m.length : Int)) = false := by simpa using (by omega : ¬ (l.length : Int) = m.length)
    have HF : Hid (l ≠ m) := h2
    clear h2
    go_enter Try.func15, Try.ntmps15
    go_wp2
    go_ret
    exact ⟨ret_bool (by have := HF.out; simp [this]), Below.refl _ _⟩
end Go.Proofs.Ytlnfpolhccbnpaa
