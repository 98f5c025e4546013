/-
  The fields of conditions, by the reference; the walk of CondFields.
-/
import Derived.Test.YtomcoacndppkcaaGreatDoorYD
import Derived.Deep.Cut
import Derived.Deep.CutRange
import Derived.Deep.DeepCutAuto
import Derived.Test.YtomcoacndppkcaaGreatDoorYG
import Derived.Test.YtomcoacndppkcaaGreatDoorUD
namespace Go.Proofs.YtomcoacndppkcaaGreatDoor
open Go Go.RowKit
open T (Tg TgAt okS)
open F (OwnF)

theorem fields_no (A B : Option Addr) (n c m d : Nat) (am an : Bool) (s u : Int) (rt : ByteArray) (rw : Bool) (l1 l2 : List Tg) (w : World) (h : TwoAt w A B n m l1 l2) (hr : rt.size ≤ maxLen) (hw : D.LaidD w) (hR : rightD l1 l2 am an s u rt = false) :
    Calls Tryz.prog 12 #[cdV A B n c m d am an s u rt rw] w fun e w' => e = .returned (.tuple #[.slice none 0 0, .int .i64 1]) ∧ Below w.heap.size w w' := by
  have FB0 : Below w.heap.size w (w.alloc (.cells #[.slice A n c, .slice B m d, .bool am, .bool an, .int .i64 s, .int .i64 u, .string rt, .bool rw] 29)) := by go_grown
  have hRt : ∀ W, Below w.heap.size w W → Calls Tryz.prog 13 #[cdV A B n c m d am an s u rt rw] W fun e w' => e = .returned (.bool false) ∧ Below W.heap.size W w' := fun W e => by
    have := right_any A B n c m d am an s u rt rw l1 l2 W (h.below e) hr (hw.below e)
    rw [hR] at this
    exact this
  clear h hw hR
  go_enter Tryz.func12, Tryz.ntmps12
  go_wp2_with fail
  with_reducible refine (hRt _ FB0).mono ?_
  rintro e w1 ⟨rfl, hb1⟩
  go_wp2_with fail
  go_ret2
  exact ⟨rfl, Ext.tr ((Below.refl _ _).alloc (Nat.le_refl _) _) hb1⟩
theorem tick_ge {t : Int} (h : tkOk t = true) : decide (0 ≤ t) = (t != -1) := by
  unfold tkOk at h
  rw [Bool.or_eq_true] at h
  rcases h with h | h
  · rw [D.inT_iff] at h
    have : (t != -1) = true := by simp; omega
    rw [this]; simp; omega
  · have : t = -1 := by simpa using h
    subst this; rfl

set_option maxHeartbeats 16000000 in
set_option maxRecDepth 100000 in
theorem rfields8_any (A B : Option Addr) (n c m d : Nat) (am an : Bool) (s u : Int) (rt : ByteArray) (rw : Bool) (l1 l2 : List Tg) (w : World) (h : TwoAt w A B n m l1 l2) (hr : rt.size ≤ maxLen) (hR : rightD l1 l2 am an s u rt = true) :
    Calls Tryz.prog 15 #[cdV A B n c m d am an s u rt rw] w fun e w' => ∃ v, e = .returned v ∧ F.IsFd w' v (fdL l1 l2 am an s u rt rw) ∧ Below w.heap.size w w' := by
  have FB0 : Below w.heap.size w (w.alloc (.cells #[.slice A n c, .slice B m d, .bool am, .bool an, .int .i64 s, .int .i64 u, .string rt, .bool rw] 29)) := by go_grown
  have hR' := hR
  unfold rightD rtD at hR'
  simp only [Bool.and_eq_true, decide_eq_true_eq] at hR'
  have n32 : n ≤ 400 := by have h1 := h.n1; omega
  have m32 : m ≤ 400 := by have h1 := h.n2; omega
  have hus := tick_ge hR'.1.2
  have hss := tick_ge hR'.1.1.2
  have hU := fun W => D.rtext_any u W
  have hS := fun W => D.rtext_any s W
  have HPM : Hid ((am || decide (0 < n)) = (am || decide (0 < l1.length))) := by unfold Hid; rw [h.n1]
  have HPN : Hid ((an || decide (0 < m)) = (an || decide (0 < l2.length))) := by unfold Hid; rw [h.n2]
  have HPR : Hid (someR rt rw = (!decide (rt = ⟨#[]⟩) || rw)) := rfl
  have hT1 := fun W (e : Below w.heap.size w W) => T.rtexts_any A n c l1 am W h.n1 n32 h.M1 (h.below e).s1
  have hT2 := fun W (e : Below w.heap.size w W) => T.rtexts_any B m d l2 an W h.n2 m32 h.M2 (h.below e).s2
  have hT3 := fun W => T.rtext_any rt rw W hr
  have HF : Hid (fdL l1 l2 am an s u rt rw = addF (addF (addF (addF (addF [] (am || decide (0 < l1.length)) nmM (txB l1 am)) (u != -1) nmU (D.txV u)) (an || decide (0 < l2.length)) nmN (txB l2 an)) (s != -1) nmS (D.txV s)) (someR rt rw) nmR (spB rt rw)) := rfl
  clear h hR hR' n32 m32
  unfold D.txR at hU hS
  generalize fdL l1 l2 am an s u rt rw = FL at *
  generalize (am || decide (0 < l1.length)) = pm at *
  generalize (an || decide (0 < l2.length)) = pn at *
  generalize someR rt rw = pr at *
  simp only [txB, spB] at HF
  generalize (⟨(T.txtD l1 am).toArray⟩ : ByteArray) = t1 at *
  generalize (⟨(T.txtD l2 an).toArray⟩ : ByteArray) = t2 at *
  generalize (⟨(T.spellL (rt, rw)).toArray⟩ : ByteArray) = t3 at *
  generalize D.txV u = tu at *
  generalize D.txV s = ts at *
  generalize D.txE u = eu at *
  generalize D.txE s = es at *
  generalize hpu : (u != -1) = pu at *
  generalize hps : (s != -1) = ps at *
  clear hpu hps
  have HUS := Lib.hid hus
  have HSS := Lib.hid hss
  clear hus hss
  go_enter Tryz.func15, Tryz.ntmps15
  go_upto_region 2 with fail
  generalize hw0 : (w.alloc (.cells #[.slice A n c, .slice B m d, .bool am, .bool an, .int .i64 s, .int .i64 u, .string rt, .bool rw] 29)) = w0 at *
  have C0 : Below (w.heap.size + 1) (w.alloc (.cells #[.slice A n c, .slice B m d, .bool am, .bool an, .int .i64 s, .int .i64 u, .string rt, .bool rw] 29)) w0 := by rw [hw0]; exact Below.refl _ _
  have C0' : Below (w.alloc (.cells #[.slice A n c, .slice B m d, .bool am, .bool an, .int .i64 s, .int .i64 u, .string rt, .bool rw] 29)).heap.size (w.alloc (.cells #[.slice A n c, .slice B m d, .bool am, .bool an, .int .i64 s, .int .i64 u, .string rt, .bool rw] 29)) w0 := by rw [hw0]; exact Below.refl _ _
  obtain ⟨x0, x1, x2, x3, x4, x5, x6, x7, z, B0⟩ := cd_cells C0'
  have zz0 : w.heap.size + 1 ≤ w0.heap.size := z
  have o0 : OwnF w0 (w.heap.size + 1) (.slice none 0 0) [] := World.ownsRow_nil _ _ _ _
  obtain ⟨l0, hl0⟩ : ∃ l0, Hid (([] : List F.Fd) = l0) := ⟨[], rfl⟩
  rw [hl0.out] at o0
  have hlen0 : l0.length ≤ 0 := by rw [← hl0.out]; simp
  go_upto_region 2 with fail
  go_cut [15] (fun qq wx => qq = .bool pm ∧ wx = w0)
  case first =>
    cases am with
    | true =>
      go_wp2_with fail
      go_meet
      exact ⟨by rw [← HPM.out]; rfl, rfl⟩
    | false =>
      by_cases h0 : 0 < n
      · go_wp2_with fail
        go_meet
        exact ⟨by rw [← HPM.out]; simp [h0], rfl⟩
      · go_wp2_with fail
        go_meet
        exact ⟨by rw [← HPM.out]; simp [h0], rfl⟩
  case rest =>
  obtain ⟨rfl, rfl⟩ := hcut
  generalize hwc : wc = w0 at *
  clear hwc
  go_upto_if 15 with fail
  go_cut [3] (fun q3 wx => OwnF wx (w.heap.size + 1) q3 (addF l0 pm nmM t1) ∧ Below (w.heap.size + 1) (w.alloc (.cells #[.slice A n c, .slice B m d, .bool am, .bool an, .int .i64 s, .int .i64 u, .string rt, .bool rw] 29)) wx)
  case first =>
    cases pm with
    | false =>
      go_wp2_with fail
      go_meet
      exact ⟨by unfold addF; exact o0, C0⟩
    | true =>
      go_wp2_with (first
        | (go_at_call 41; with_reducible refine (hT1 _ B0).mono ?_; rintro e w8 ⟨rfl, hb8⟩; have C8 := C0.trans (hb8.mono zz0); have o8 := F.Below.ownF o0 hb8; have z8 : w.heap.size + 1 ≤ w8.heap.size := Nat.le_trans zz0 hb8.size; clear hb8; have tok : True := trivial)
        | (at_builtin; have _t := tok; refine F.app_fd_at w8 w8.heap.size rfl (by rfl) _ _ (by rfl) (w.heap.size + 1) _ l0 nmM t1 (by rfl) o8 (by rfl) (by omega) z8 ?_; intro v9 w9 hown9 hgrow; have C9 : Below (w.heap.size + 1) (w.alloc (.cells #[.slice A n c, .slice B m d, .bool am, .bool an, .int .i64 s, .int .i64 u, .string rt, .bool rw] 29)) w9 := F.below_app C8 z8 o8 hgrow; clear hgrow tok))
      go_meet
      exact ⟨by unfold addF; exact hown9, C9⟩
  case rest =>
  obtain ⟨o1, C1⟩ := hcut
  generalize hwc : wc = w1 at *
  clear hwc x0 x1 x2 x3 x4 x5 x6 x7 o0 C0 B0 z
  have C1' : Below (w.alloc (.cells #[.slice A n c, .slice B m d, .bool am, .bool an, .int .i64 s, .int .i64 u, .string rt, .bool rw] 29)).heap.size (w.alloc (.cells #[.slice A n c, .slice B m d, .bool am, .bool an, .int .i64 s, .int .i64 u, .string rt, .bool rw] 29)) w1 := by simpa using C1
  obtain ⟨x0, x1, x2, x3, x4, x5, x6, x7, z, B1⟩ := cd_cells C1'
  have zz1 : w.heap.size + 1 ≤ w1.heap.size := z
  obtain ⟨l1, hl1⟩ : ∃ l1, Hid (addF l0 pm nmM t1 = l1) := ⟨addF l0 pm nmM t1, rfl⟩
  rw [hl1.out] at o1
  have hlen1 : l1.length ≤ 1 := by have := addF_len l0 pm nmM t1; rw [hl1.out] at this; omega
  go_upto_if 27 with fail
  go_cut [3] (fun q3 wx => OwnF wx (w.heap.size + 1) q3 (addF l1 pu nmU tu) ∧ Below (w.heap.size + 1) (w.alloc (.cells #[.slice A n c, .slice B m d, .bool am, .bool an, .int .i64 s, .int .i64 u, .string rt, .bool rw] 29)) wx)
  case first =>
    cases pu with
    | false =>
      have hu0 : ¬ (0 ≤ u) := by simpa using HUS.out
      go_wp2_with fail
      go_meet
      exact ⟨by unfold addF; exact o1, C1⟩
    | true =>
      have hu0 : 0 ≤ u := by simpa using HUS.out
      go_wp2_with (first
        | (go_at_call 42; with_reducible refine (hU _).mono ?_; rintro e w8 ⟨rfl, hb8⟩; have C8 := C1.trans (hb8.mono zz1); have o8 := F.Below.ownF o1 hb8; have z8 : w.heap.size + 1 ≤ w8.heap.size := Nat.le_trans zz1 hb8.size; clear hb8; have tok : True := trivial)
        | (at_builtin; have _t := tok; refine F.app_fd_at w8 w8.heap.size rfl (by rfl) _ _ (by rfl) (w.heap.size + 1) _ l1 nmU tu (by rfl) o8 (by rfl) (by omega) z8 ?_; intro v9 w9 hown9 hgrow; have C9 : Below (w.heap.size + 1) (w.alloc (.cells #[.slice A n c, .slice B m d, .bool am, .bool an, .int .i64 s, .int .i64 u, .string rt, .bool rw] 29)) w9 := F.below_app C8 z8 o8 hgrow; clear hgrow tok))
      go_meet
      exact ⟨by unfold addF; exact hown9, C9⟩
  case rest =>
  obtain ⟨o2, C2⟩ := hcut
  generalize hwc : wc = w2 at *
  clear hwc x0 x1 x2 x3 x4 x5 x6 x7 o1 C1 B1 z
  have C2' : Below (w.alloc (.cells #[.slice A n c, .slice B m d, .bool am, .bool an, .int .i64 s, .int .i64 u, .string rt, .bool rw] 29)).heap.size (w.alloc (.cells #[.slice A n c, .slice B m d, .bool am, .bool an, .int .i64 s, .int .i64 u, .string rt, .bool rw] 29)) w2 := by simpa using C2
  obtain ⟨x0, x1, x2, x3, x4, x5, x6, x7, z, B2⟩ := cd_cells C2'
  have zz2 : w.heap.size + 1 ≤ w2.heap.size := z
  obtain ⟨l2, hl2⟩ : ∃ l2, Hid (addF l1 pu nmU tu = l2) := ⟨addF l1 pu nmU tu, rfl⟩
  rw [hl2.out] at o2
  have hlen2 : l2.length ≤ 2 := by have := addF_len l1 pu nmU tu; rw [hl2.out] at this; omega
  go_upto_region 7 with fail
  go_cut [46] (fun qq wx => qq = .bool pn ∧ wx = w2)
  case first =>
    cases an with
    | true =>
      go_wp2_with fail
      go_meet
      exact ⟨by rw [← HPN.out]; rfl, rfl⟩
    | false =>
      by_cases h0 : 0 < m
      · go_wp2_with fail
        go_meet
        exact ⟨by rw [← HPN.out]; simp [h0], rfl⟩
      · go_wp2_with fail
        go_meet
        exact ⟨by rw [← HPN.out]; simp [h0], rfl⟩
  case rest =>
  obtain ⟨rfl, rfl⟩ := hcut
  generalize hwc : wc = w2 at *
  clear hwc
  go_upto_if 46 with fail
  go_cut [3] (fun q3 wx => OwnF wx (w.heap.size + 1) q3 (addF l2 pn nmN t2) ∧ Below (w.heap.size + 1) (w.alloc (.cells #[.slice A n c, .slice B m d, .bool am, .bool an, .int .i64 s, .int .i64 u, .string rt, .bool rw] 29)) wx)
  case first =>
    cases pn with
    | false =>
      go_wp2_with fail
      go_meet
      exact ⟨by unfold addF; exact o2, C2⟩
    | true =>
      go_wp2_with (first
        | (go_at_call 41; with_reducible refine (hT2 _ B2).mono ?_; rintro e w8 ⟨rfl, hb8⟩; have C8 := C2.trans (hb8.mono zz2); have o8 := F.Below.ownF o2 hb8; have z8 : w.heap.size + 1 ≤ w8.heap.size := Nat.le_trans zz2 hb8.size; clear hb8; have tok : True := trivial)
        | (at_builtin; have _t := tok; refine F.app_fd_at w8 w8.heap.size rfl (by rfl) _ _ (by rfl) (w.heap.size + 1) _ l2 nmN t2 (by rfl) o8 (by rfl) (by omega) z8 ?_; intro v9 w9 hown9 hgrow; have C9 : Below (w.heap.size + 1) (w.alloc (.cells #[.slice A n c, .slice B m d, .bool am, .bool an, .int .i64 s, .int .i64 u, .string rt, .bool rw] 29)) w9 := F.below_app C8 z8 o8 hgrow; clear hgrow tok))
      go_meet
      exact ⟨by unfold addF; exact hown9, C9⟩
  case rest =>
  obtain ⟨o3, C3⟩ := hcut
  generalize hwc : wc = w3 at *
  clear hwc x0 x1 x2 x3 x4 x5 x6 x7 o2 C2 B2 z
  have C3' : Below (w.alloc (.cells #[.slice A n c, .slice B m d, .bool am, .bool an, .int .i64 s, .int .i64 u, .string rt, .bool rw] 29)).heap.size (w.alloc (.cells #[.slice A n c, .slice B m d, .bool am, .bool an, .int .i64 s, .int .i64 u, .string rt, .bool rw] 29)) w3 := by simpa using C3
  obtain ⟨x0, x1, x2, x3, x4, x5, x6, x7, z, B3⟩ := cd_cells C3'
  have zz3 : w.heap.size + 1 ≤ w3.heap.size := z
  obtain ⟨l3, hl3⟩ : ∃ l3, Hid (addF l2 pn nmN t2 = l3) := ⟨addF l2 pn nmN t2, rfl⟩
  rw [hl3.out] at o3
  have hlen3 : l3.length ≤ 3 := by have := addF_len l2 pn nmN t2; rw [hl3.out] at this; omega
  go_upto_if 58 with fail
  go_cut [3] (fun q3 wx => OwnF wx (w.heap.size + 1) q3 (addF l3 ps nmS ts) ∧ Below (w.heap.size + 1) (w.alloc (.cells #[.slice A n c, .slice B m d, .bool am, .bool an, .int .i64 s, .int .i64 u, .string rt, .bool rw] 29)) wx)
  case first =>
    cases ps with
    | false =>
      have hu0 : ¬ (0 ≤ s) := by simpa using HSS.out
      go_wp2_with fail
      go_meet
      exact ⟨by unfold addF; exact o3, C3⟩
    | true =>
      have hu0 : 0 ≤ s := by simpa using HSS.out
      go_wp2_with (first
        | (go_at_call 42; with_reducible refine (hS _).mono ?_; rintro e w8 ⟨rfl, hb8⟩; have C8 := C3.trans (hb8.mono zz3); have o8 := F.Below.ownF o3 hb8; have z8 : w.heap.size + 1 ≤ w8.heap.size := Nat.le_trans zz3 hb8.size; clear hb8; have tok : True := trivial)
        | (at_builtin; have _t := tok; refine F.app_fd_at w8 w8.heap.size rfl (by rfl) _ _ (by rfl) (w.heap.size + 1) _ l3 nmS ts (by rfl) o8 (by rfl) (by omega) z8 ?_; intro v9 w9 hown9 hgrow; have C9 : Below (w.heap.size + 1) (w.alloc (.cells #[.slice A n c, .slice B m d, .bool am, .bool an, .int .i64 s, .int .i64 u, .string rt, .bool rw] 29)) w9 := F.below_app C8 z8 o8 hgrow; clear hgrow tok))
      go_meet
      exact ⟨by unfold addF; exact hown9, C9⟩
  case rest =>
  obtain ⟨o4, C4⟩ := hcut
  generalize hwc : wc = w4 at *
  clear hwc x0 x1 x2 x3 x4 x5 x6 x7 o3 C3 B3 z
  have C4' : Below (w.alloc (.cells #[.slice A n c, .slice B m d, .bool am, .bool an, .int .i64 s, .int .i64 u, .string rt, .bool rw] 29)).heap.size (w.alloc (.cells #[.slice A n c, .slice B m d, .bool am, .bool an, .int .i64 s, .int .i64 u, .string rt, .bool rw] 29)) w4 := by simpa using C4
  obtain ⟨x0, x1, x2, x3, x4, x5, x6, x7, z, B4⟩ := cd_cells C4'
  have zz4 : w.heap.size + 1 ≤ w4.heap.size := z
  obtain ⟨l4, hl4⟩ : ∃ l4, Hid (addF l3 ps nmS ts = l4) := ⟨addF l3 ps nmS ts, rfl⟩
  rw [hl4.out] at o4
  have hlen4 : l4.length ≤ 4 := by have := addF_len l3 ps nmS ts; rw [hl4.out] at this; omega
  go_upto_region 12 with fail
  go_cut [78] (fun qq wx => qq = .bool pr ∧ wx = w4)
  case first =>
    by_cases he : rt = ⟨#[]⟩
    · have hs : rw = pr := by rw [HPR.out]; simp [he]
      clear HPR HF
      subst he
      subst hs
      go_wp2_with fail
      go_meet
      exact ⟨rfl, rfl⟩
    · have hs : true = pr := by rw [HPR.out]; simp [he]
      clear HPR HF
      subst hs
      have hx : ¬ rt.toList = [] := fun q => he (by rw [ByteArray.toList_eq] at q; exact ByteArray.ext (Array.toList_inj.1 q))
      go_wp2_with fail
      go_meet
      exact ⟨rfl, rfl⟩
  case rest =>
  obtain ⟨rfl, rfl⟩ := hcut
  generalize hwc : wc = w4 at *
  clear hwc
  go_upto_if 78 with fail
  go_cut [3] (fun q3 wx => OwnF wx (w.heap.size + 1) q3 (addF l4 pr nmR t3) ∧ Below (w.heap.size + 1) (w.alloc (.cells #[.slice A n c, .slice B m d, .bool am, .bool an, .int .i64 s, .int .i64 u, .string rt, .bool rw] 29)) wx)
  case first =>
    cases pr with
    | false =>
      go_wp2_with fail
      go_meet
      exact ⟨by unfold addF; exact o4, C4⟩
    | true =>
      go_wp2_with (first
        | (go_at_call 43; with_reducible refine (hT3 _).mono ?_; rintro e w8 ⟨rfl, hb8⟩; have C8 := C4.trans (hb8.mono zz4); have o8 := F.Below.ownF o4 hb8; have z8 : w.heap.size + 1 ≤ w8.heap.size := Nat.le_trans zz4 hb8.size; clear hb8; have tok : True := trivial)
        | (at_builtin; have _t := tok; refine F.app_fd_at w8 w8.heap.size rfl (by rfl) _ _ (by rfl) (w.heap.size + 1) _ l4 nmR t3 (by rfl) o8 (by rfl) (by omega) z8 ?_; intro v9 w9 hown9 hgrow; have C9 : Below (w.heap.size + 1) (w.alloc (.cells #[.slice A n c, .slice B m d, .bool am, .bool an, .int .i64 s, .int .i64 u, .string rt, .bool rw] 29)) w9 := F.below_app C8 z8 o8 hgrow; clear hgrow tok))
      go_meet
      exact ⟨by unfold addF; exact hown9, C9⟩
  case rest =>
  obtain ⟨o5, C5⟩ := hcut
  generalize hwc : wc = w5 at *
  clear hwc x0 x1 x2 x3 x4 x5 x6 x7 o4 C4 B4 z
  have C5' : Below (w.alloc (.cells #[.slice A n c, .slice B m d, .bool am, .bool an, .int .i64 s, .int .i64 u, .string rt, .bool rw] 29)).heap.size (w.alloc (.cells #[.slice A n c, .slice B m d, .bool am, .bool an, .int .i64 s, .int .i64 u, .string rt, .bool rw] 29)) w5 := by simpa using C5
  obtain ⟨x0, x1, x2, x3, x4, x5, x6, x7, z, B5⟩ := cd_cells C5'
  have zz5 : w.heap.size + 1 ≤ w5.heap.size := z
  obtain ⟨l5, hl5⟩ : ∃ l5, Hid (addF l4 pr nmR t3 = l5) := ⟨addF l4 pr nmR t3, rfl⟩
  rw [hl5.out] at o5
  have hlen5 : l5.length ≤ 5 := by have := addF_len l4 pr nmR t3; rw [hl5.out] at this; omega
  have hFL : Hid (FL = l5) := by unfold Hid; rw [HF.out, ← hl5.out, ← hl4.out, ← hl3.out, ← hl2.out, ← hl1.out, ← hl0.out]
  have HO := Lib.hid (F.IsFd.own o5)
  have B5' := B5
  go_wp2_with fail
  go_ret
  exact ⟨_, rfl, by rw [hFL.out]; exact HO.out, B5'⟩
end Go.Proofs.YtomcoacndppkcaaGreatDoor

namespace Go.Proofs.YtomcoacndppkcaaGreatDoor
open Go Go.RowKit
open T (Tg TgAt IsTg)
open F (FdAt)

set_option maxHeartbeats 16000000 in
set_option maxRecDepth 100000 in
theorem walk_CondFields (A B : Option Addr) (n c m d : Nat) (am an : Bool) (s u : Int) (rt : ByteArray) (rw : Bool) (l1 l2 : List Tg) (w : World) (hw : D.LaidD w) (h : TwoArg w A B n m l1 l2) (hr : rt.size ≤ T.szM) (_ws : (Lit.int .i64 s).wf = true) (_wu : (Lit.int .i64 u).wf = true) :
    Calls Tryz.prog 4 #[cdV A B n c m d am an s u rt rw] w fun e w' => e = .returned (.bool true) ∧ Below w.heap.size w w' := by
  have HH := Lib.hid h
  clear h
  have FB0 : Below w.heap.size w (w.alloc (.cells #[.slice A n c, .slice B m d, .bool am, .bool an, .int .i64 s, .int .i64 u, .string rt, .bool rw] 29)) := by go_grown
  have hFW : ∀ W, Below w.heap.size w W → Calls Tryz.prog 11 #[cdV A B n c m d am an s u rt rw] W fun e w' => e = .returned (.bool (fewD l1 l2 rt.size)) ∧ Below W.heap.size W w' :=
    fun W e => few_any A B n c m d am an s u rt rw l1 l2 W (HH.out.below e) hr
  have hrm := T.szM_max hr
  cases hf : fewD l1 l2 rt.size with
  | false =>
    rw [hf] at hFW
    clear hf
    go_enter Tryz.func4, Tryz.ntmps4
    go_wp2_with fail
    with_reducible refine (hFW _ FB0).mono ?_
    rintro e w1 ⟨rfl, hb1⟩
    go_wp2_with fail
    with_reducible refine (awake_any _).mono ?_
    rintro e w2 ⟨rfl, hb2⟩
    go_wp2_with fail
    go_ret
    exact ⟨rfl, Ext.tr (Ext.tr ((Below.refl _ _).alloc (Nat.le_refl _) _) hb1) hb2⟩
  | true =>
  rw [hf] at hFW
  obtain ⟨p40, q40, -⟩ := few_iff.1 hf
  have HT := Lib.hid (HH.out.two hf)
  have hRa : ∀ W, Below w.heap.size w W → Calls Tryz.prog 13 #[cdV A B n c m d am an s u rt rw] W fun e w' => e = .returned (.bool (rightD l1 l2 am an s u rt)) ∧ Below W.heap.size W w' := fun W e => right_any A B n c m d am an s u rt rw l1 l2 W (HT.out.below e) hrm (hw.below e)
  have hRb : ∀ W, Below w.heap.size w W → Calls Tryz.prog 14 #[cdV A B n c m d am an s u rt rw] W fun e w' => e = .returned (.bool (rightD l1 l2 am an s u rt)) ∧ Below W.heap.size W w' := fun W e => rright8_any A B n c m d am an s u rt rw l1 l2 W (HT.out.below e) hrm
  clear hf HH
  cases hR : rightD l1 l2 am an s u rt with
  | false =>
    have hFa := fun W (e : Below w.heap.size w W) => fields_no A B n c m d am an s u rt rw l1 l2 W (HT.out.below e) hrm (hw.below e) hR
    rw [hR] at hRa hRb
    clear hR hw HT
    go_enter Tryz.func4, Tryz.ntmps4
    go_wp2_with fail
    with_reducible refine (hFW _ FB0).mono ?_
    rintro e w1 ⟨rfl, hb1⟩
    have C1 := hb1
    obtain ⟨x0, x1, x2, x3, x4, x5, x6, x7, z, B1⟩ := cd_cells C1
    go_wp2_with fail
    with_reducible refine (hFa _ B1).mono ?_
    rintro e w2 ⟨rfl, hb2⟩
    have C2 := C1.trans (hb2.mono C1.size)
    clear x0 x1 x2 x3 x4 x5 x6 x7 hb1 hb2 C1 B1
    obtain ⟨x0, x1, x2, x3, x4, x5, x6, x7, z, B2⟩ := cd_cells C2
    have g0 : ∀ W, Ext w2 W → W.cell? ⟨w.heap.size, 0, none⟩ = some (.slice A n c) := fun W h => by rw [h.cell (p := ⟨w.heap.size, 0, none⟩) z]; exact x0
    have g1 : ∀ W, Ext w2 W → W.cell? ⟨w.heap.size, 1, none⟩ = some (.slice B m d) := fun W h => by rw [h.cell (p := ⟨w.heap.size, 1, none⟩) z]; exact x1
    have g2 : ∀ W, Ext w2 W → W.cell? ⟨w.heap.size, 2, none⟩ = some (.bool am) := fun W h => by rw [h.cell (p := ⟨w.heap.size, 2, none⟩) z]; exact x2
    have g3 : ∀ W, Ext w2 W → W.cell? ⟨w.heap.size, 3, none⟩ = some (.bool an) := fun W h => by rw [h.cell (p := ⟨w.heap.size, 3, none⟩) z]; exact x3
    have g4 : ∀ W, Ext w2 W → W.cell? ⟨w.heap.size, 4, none⟩ = some (.int .i64 s) := fun W h => by rw [h.cell (p := ⟨w.heap.size, 4, none⟩) z]; exact x4
    have g5 : ∀ W, Ext w2 W → W.cell? ⟨w.heap.size, 5, none⟩ = some (.int .i64 u) := fun W h => by rw [h.cell (p := ⟨w.heap.size, 5, none⟩) z]; exact x5
    have g6 : ∀ W, Ext w2 W → W.cell? ⟨w.heap.size, 6, none⟩ = some (.string rt) := fun W h => by rw [h.cell (p := ⟨w.heap.size, 6, none⟩) z]; exact x6
    have g7 : ∀ W, Ext w2 W → W.cell? ⟨w.heap.size, 7, none⟩ = some (.bool rw) := fun W h => by rw [h.cell (p := ⟨w.heap.size, 7, none⟩) z]; exact x7
    have hXa : ∀ W, Ext w2 W → Calls Tryz.prog 13 #[cdV A B n c m d am an s u rt rw] W fun e w' => e = .returned (.bool false) ∧ Below W.heap.size W w' := fun W e => hRa W (Ext.tr B2 e)
    have hXb : ∀ W, Ext w2 W → Calls Tryz.prog 14 #[cdV A B n c m d am an s u rt rw] W fun e w' => e = .returned (.bool false) ∧ Below W.heap.size W w' := fun W e => hRb W (Ext.tr B2 e)
    clear x0 x1 x2 x3 x4 x5 x6 x7
    go_wp2_with fail
    refine' wp_region_made (rels := relsOf ((.val _) :: (.val _) :: (.val _) :: (.val _) :: (.val _) :: [])) (w := w2) 77 (by kernel_rfl) (by kernel_rfl) (by rfl) (relsOf_stable ?stf) ?wkf
    case stf => exact stable_val (stable_val (stable_val (stable_val (stable_val (stable_nil)))))
    case wkf =>
      refine' walk_val (by rfl) ?af0 (fun K hK => ?bf0); (case af0 => (intro W hW hd; clear hd; go_simp; first | exact ⟨Ext.rf _, rfl⟩ | rfl)); (go_simp; refine hK _ ?_; clear hK K)
      refine' walk_val (by rfl) ?af1 (fun K hK => ?bf1); (case af1 => (intro W hW hd; go_simp; (clear hd; exact makes_val (hXa W hW)))); (go_simp; refine hK _ ?_; clear hK K)
      refine' walk_val (by rfl) ?af2 (fun K hK => ?bf2); (case af2 => (intro W hW hd; clear hd; go_simp; first | exact ⟨Ext.rf _, rfl⟩ | rfl)); (go_simp; refine hK _ ?_; clear hK K)
      refine' walk_val (by rfl) ?af3 (fun K hK => ?bf3); (case af3 => (intro W hW hd; go_simp; (clear hd; exact makes_val (hXb W hW)))); (go_simp; refine hK _ ?_; clear hK K)
      refine' walk_val (by rfl) ?af4 (fun K hK => ?bf4); (case af4 => (intro W hW hd; clear hd; go_simp; first | exact ⟨Ext.rf _, rfl⟩ | rfl)); (go_simp; refine hK _ ?_; clear hK K)
      refine walk_end (fun W hW hfin => ?_)
      clear hfin g0 g1 g2 g3 g4 g5 g6 g7 hXa hXb
      have C3 := C2.trans (hW.mono C2.size)
      obtain ⟨x0, x1, x2, x3, x4, x5, x6, x7, z, B3⟩ := cd_cells C3
      go_wp2_with fail
      with_reducible refine (hRb _ B3).mono ?_
      rintro e w4 ⟨rfl, hb4⟩
      go_wp2_with fail
      with_reducible refine (awake_any _).mono ?_
      rintro e w5 ⟨rfl, hb5⟩
      go_wp2_with fail
      go_ret
      exact ⟨rfl, Ext.tr (Ext.tr B3 hb4) hb5⟩
  | true =>
    have hFa := fun W (e : Below w.heap.size w W) => fields_yes A B n c m d am an s u rt rw l1 l2 W (HT.out.below e) hrm (hw.below e) hR
    have hFb := fun W (e : Below w.heap.size w W) => rfields8_any A B n c m d am an s u rt rw l1 l2 W (HT.out.below e) hrm hR
    obtain ⟨hs5, hsg⟩ := fdL_small p40 q40 am an s u rt rw
    have HPB := Lib.hid (par_back (rw := rw) hR)
    have hPa : ∀ (A0 : Option Addr) (n0 c0 : Nat) W, Below w.heap.size w W → FdIn W A0 n0 (fdL l1 l2 am an s u rt rw) → Calls Tryz.prog 8 #[.slice A0 n0 c0] W fun e w' => ∃ v, e = .returned (.tuple #[v, .int .i64 0]) ∧ PVal ⟨l1, l2, am, an, s, u, (rt, rw), 0⟩ w' v ∧ Below W.heap.size W w' := fun A0 n0 c0 W e hI => by
      have := parse_any A0 n0 c0 (fdL l1 l2 am an s u rt rw) W hI (hw.below e)
      rw [HPB.out] at this
      exact this
    rw [hR] at hRa hRb
    have HZ := Lib.hid (And.intro hs5 hsg)
    clear hR HPB hs5 hsg
    generalize fdL l1 l2 am an s u rt rw = FL at *
    go_enter Tryz.func4, Tryz.ntmps4
    go_wp2_with fail
    with_reducible refine (hFW _ FB0).mono ?_
    rintro e w1 ⟨rfl, hb1⟩
    have C1 := hb1
    obtain ⟨x0, x1, x2, x3, x4, x5, x6, x7, z, B1⟩ := cd_cells C1
    go_wp2_with fail
    with_reducible refine (hFa _ B1).mono ?_
    rintro e w2 ⟨v2, rfl, hi2, hb2⟩
    have C2 := C1.trans (hb2.mono C1.size)
    have HI2 := Lib.hid hi2
    obtain ⟨A2, n2, c2, rfl, HN2, -, -⟩ := hi2.split
    clear x0 x1 x2 x3 x4 x5 x6 x7 hb1 hb2 C1 B1 hi2
    obtain ⟨x0, x1, x2, x3, x4, x5, x6, x7, z, B2⟩ := cd_cells C2
    have g0 : ∀ W, Ext w2 W → W.cell? ⟨w.heap.size, 0, none⟩ = some (.slice A n c) := fun W h => by rw [h.cell (p := ⟨w.heap.size, 0, none⟩) z]; exact x0
    have g1 : ∀ W, Ext w2 W → W.cell? ⟨w.heap.size, 1, none⟩ = some (.slice B m d) := fun W h => by rw [h.cell (p := ⟨w.heap.size, 1, none⟩) z]; exact x1
    have g2 : ∀ W, Ext w2 W → W.cell? ⟨w.heap.size, 2, none⟩ = some (.bool am) := fun W h => by rw [h.cell (p := ⟨w.heap.size, 2, none⟩) z]; exact x2
    have g3 : ∀ W, Ext w2 W → W.cell? ⟨w.heap.size, 3, none⟩ = some (.bool an) := fun W h => by rw [h.cell (p := ⟨w.heap.size, 3, none⟩) z]; exact x3
    have g4 : ∀ W, Ext w2 W → W.cell? ⟨w.heap.size, 4, none⟩ = some (.int .i64 s) := fun W h => by rw [h.cell (p := ⟨w.heap.size, 4, none⟩) z]; exact x4
    have g5 : ∀ W, Ext w2 W → W.cell? ⟨w.heap.size, 5, none⟩ = some (.int .i64 u) := fun W h => by rw [h.cell (p := ⟨w.heap.size, 5, none⟩) z]; exact x5
    have g6 : ∀ W, Ext w2 W → W.cell? ⟨w.heap.size, 6, none⟩ = some (.string rt) := fun W h => by rw [h.cell (p := ⟨w.heap.size, 6, none⟩) z]; exact x6
    have g7 : ∀ W, Ext w2 W → W.cell? ⟨w.heap.size, 7, none⟩ = some (.bool rw) := fun W h => by rw [h.cell (p := ⟨w.heap.size, 7, none⟩) z]; exact x7
    have hXa : ∀ W, Ext w2 W → Calls Tryz.prog 13 #[cdV A B n c m d am an s u rt rw] W fun e w' => e = .returned (.bool true) ∧ Below W.heap.size W w' := fun W e => hRa W (Ext.tr B2 e)
    have hXb : ∀ W, Ext w2 W → Calls Tryz.prog 14 #[cdV A B n c m d am an s u rt rw] W fun e w' => e = .returned (.bool true) ∧ Below W.heap.size W w' := fun W e => hRb W (Ext.tr B2 e)
    clear x0 x1 x2 x3 x4 x5 x6 x7
    go_wp2_with fail
    refine' wp_region_made (rels := relsOf ((.val _) :: (.val _) :: (.val _) :: (.val _) :: (.val _) :: [])) (w := w2) 77 (by kernel_rfl) (by kernel_rfl) (by rfl) (relsOf_stable ?stt) ?wkt
    case stt => exact stable_val (stable_val (stable_val (stable_val (stable_val (stable_nil)))))
    case wkt =>
      refine' walk_val (by rfl) ?at0 (fun K hK => ?bt0); (case at0 => (intro W hW hd; clear hd; go_simp; first | exact ⟨Ext.rf _, rfl⟩ | rfl)); (go_simp; refine hK _ ?_; clear hK K)
      refine' walk_val (by rfl) ?at1 (fun K hK => ?bt1); (case at1 => (intro W hW hd; go_simp; (clear hd; exact makes_val (hXa W hW)))); (go_simp; refine hK _ ?_; clear hK K)
      refine' walk_val (by rfl) ?at2 (fun K hK => ?bt2); (case at2 => (intro W hW hd; clear hd; go_simp; first | exact ⟨Ext.rf _, rfl⟩ | rfl)); (go_simp; refine hK _ ?_; clear hK K)
      refine' walk_val (by rfl) ?at3 (fun K hK => ?bt3); (case at3 => (intro W hW hd; go_simp; (clear hd; exact makes_val (hXb W hW)))); (go_simp; refine hK _ ?_; clear hK K)
      refine' walk_val (by rfl) ?at4 (fun K hK => ?bt4); (case at4 => (intro W hW hd; clear hd; go_simp; first | exact ⟨Ext.rf _, rfl⟩ | rfl)); (go_simp; refine hK _ ?_; clear hK K)
      refine walk_end (fun W hW hfin => ?_)
      clear hfin g0 g1 g2 g3 g4 g5 g6 g7 hXa hXb
      have C3 := C2.trans (hW.mono C2.size)
      have HI3 := Lib.hid (HI2.out.below hW)
      clear HI2 C2 B2 hW
      obtain ⟨x0, x1, x2, x3, x4, x5, x6, x7, z, B3⟩ := cd_cells C3
      go_wp2_with fail
      with_reducible refine (hRb _ B3).mono ?_
      rintro e w4 ⟨rfl, hb4⟩
      have C4 := C3.trans (hb4.mono C3.size)
      have HI4 := Lib.hid (HI3.out.below hb4)
      clear x0 x1 x2 x3 x4 x5 x6 x7 HI3 C3 B3 hb4
      obtain ⟨x0, x1, x2, x3, x4, x5, x6, x7, z, B4⟩ := cd_cells C4
      go_wp2_with fail
      with_reducible refine (hFb _ B4).mono ?_
      rintro e w5 ⟨v5, rfl, hi5, hb5⟩
      have C5 := C4.trans (hb5.mono C4.size)
      have HI5 := Lib.hid (HI4.out.below hb5)
      have HJ5 := Lib.hid hi5
      obtain ⟨A5, n5, c5, rfl, HN5, -, -⟩ := hi5.split
      obtain rfl : n5 = n2 := by have := HN2.out; have := HN5.out; omega
      clear x0 x1 x2 x3 x4 x5 x6 x7 HI4 C4 B4 hb5 hi5 HN5
      obtain ⟨x0, x1, x2, x3, x4, x5, x6, x7, z, B5⟩ := cd_cells C5
      have hn5 : n5 ≤ 5 := by have := HZ.out.1; have := HN2.out; omega
      go_wp2_with fail
      go_loopw [49] (fun i wr => ∃ k : Nat, k ≤ n5 ∧ i = .int .i64 k ∧ Below w5.heap.size w5 wr) (fun i _ => n5 - (intOf i).toNat)
      case atStart => exact ⟨0, Nat.zero_le _, rfl, Below.refl _ _⟩
      case round =>
        obtain ⟨k, hk, rfl, hbel⟩ := hrel
        by_cases hlt : k < n5
        · have hkl : k < FL.length := by have := HN2.out; omega
          obtain ⟨A6, n6, c6, e6, HN6, -, hs6⟩ := (HI5.out.below hbel).split
          obtain ⟨A7, n7, c7, e7, HN7, -, hs7⟩ := (HJ5.out.below hbel).split
          injection e6 with e61 e62 e63
          injection e7 with e71 e72 e73
          subst e61; subst e71
          clear e62 e63 e72 e73 HN6 HN7
          obtain ⟨b, o, rfl, hb, hc⟩ := hs6 (by omega)
          obtain ⟨b', o', rfl, hb', hc'⟩ := hs7 (by omega)
          obtain ⟨c0, c1⟩ := hc k hkl
          obtain ⟨d0, d1⟩ := hc' k hkl
          clear hc hc' hs6 hs7
          obtain ⟨Y, hY⟩ : ∃ Y, Hid (FL[k] = Y) := ⟨FL[k], rfl⟩
          rw [hY.out] at c0 c1 d0 d1
          clear hY
          obtain ⟨x, y⟩ := Y
          simp only at c0 c1 d0 d1
          have e1 : (x.toList == x.toList) = true := by simp
          have e2 : (y.toList == y.toList) = true := by simp
          go_wp2
          go_quiet (fail)
          go_wp2
          go_roundw
          case rel => exact ⟨k + 1, by omega, by go_num, T.below_drewN hbel _⟩
          case measure => simp [intOf]; omega
        · obtain rfl : k = n5 := by omega
          have C6 := C5.trans (hbel.mono C5.size)
          obtain ⟨A6, n6, c6, e6, HN6, -, hs6⟩ := (HI5.out.below hbel).split
          injection e6 with e61 e62 e63
          subst e61
          have HI := Lib.hid (FdIn.mk HN2.out (by omega) HZ.out.2 hs6)
          clear e62 e63 HN6 hs6 x0 x1 x2 x3 x4 x5 x6 x7 C5 B5
          obtain ⟨x0, x1, x2, x3, x4, x5, x6, x7, z, B6⟩ := cd_cells C6
          have hPw := hPa A2 k c2 wr B6 HI.out
          clear HI HI5 HJ5
          go_wp2_with fail
          with_reducible refine hPw.mono ?_
          rintro e w7 ⟨v7, rfl, hv7, hb7⟩
          have C7 := C6.trans (hb7.mono C6.size)
          obtain ⟨V1, V2, rfl, i1, i2⟩ := hv7
          obtain ⟨A8, n8, c8, rfl, N8, -, s8⟩ := i1.split
          obtain ⟨A9, n9, c9, rfl, N9, -, s9⟩ := i2.split
          simp only at N8 N9 s8 s9
          obtain rfl : n8 = n := by have := (HT.out).n1; have := N8.out; omega
          obtain rfl : n9 = m := by have := (HT.out).n2; have := N9.out; omega
          have e7 : Ext w7 (w7.alloc (.cells #[.slice A8 n8 c8, .slice A9 n9 c9, .bool am, .bool an, .int .i64 s, .int .i64 u, .string rt, .bool rw] 29)) := (Below.refl _ _).alloc (Nat.le_refl _) _
          clear i1 i2 x0 x1 x2 x3 x4 x5 x6 x7 C6 hPw hPa hFa hFb hRa hRb hFW
          obtain ⟨x0, x1, x2, x3, x4, x5, x6, x7, z, B7⟩ := cd_cells C7
          have T7 := (HT.out.below B7).below e7
          have hS := rsame8_at A8 A9 A B n8 n9 c8 c9 c d am an s u rt rw l1 l2 _ N8.out N9.out (s8.below e7 e7.size) (s9.below e7 e7.size) T7.s1 T7.s2 (by omega) (by omega)
          have B7' := Ext.tr B7 e7
          clear s8 s9 T7 N8 N9 hb7
          go_wp2_with fail
          with_reducible refine hS.mono ?_
          rintro e w8 ⟨rfl, hb8⟩
          go_wp2_with fail
          with_reducible refine (awake_any _).mono ?_
          rintro e w9 ⟨rfl, hb9⟩
          go_wp2_with fail
          go_ret
          exact ⟨rfl, Ext.tr (Ext.tr B7' hb8) hb9⟩
end Go.Proofs.YtomcoacndppkcaaGreatDoor

