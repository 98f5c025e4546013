/-
  The conditions of fields: what they are; the small readers of the program and of the reference.
-/
import Derived.Test.YtomcoacndppkcaaGreatDoorTW
import Derived.Test.YtomcoacndppkcaaGreatDoorDR
import Derived.Test.YtomcoacndppkcaaGreatDoorEE
import Derived.Test.YtomcoacndppkcaaGreatDoorUC
namespace Go.Proofs.YtomcoacndppkcaaGreatDoor
open Go Go.RowKit
open T (Tg TgAt IsTg)
open F (FdAt OwnX IsTx TxAt)

abbrev nmM : ByteArray := ⟨#[73, 102, 45, 77, 97, 116, 99, 104]⟩
abbrev nmU : ByteArray := ⟨#[73, 102, 45, 85, 110, 109, 111, 100, 105, 102, 105, 101, 100, 45, 83, 105, 110, 99, 101]⟩
abbrev nmN : ByteArray := ⟨#[73, 102, 45, 78, 111, 110, 101, 45, 77, 97, 116, 99, 104]⟩
abbrev nmS : ByteArray := ⟨#[73, 102, 45, 77, 111, 100, 105, 102, 105, 101, 100, 45, 83, 105, 110, 99, 101]⟩
abbrev nmR : ByteArray := ⟨#[73, 102, 45, 82, 97, 110, 103, 101]⟩

/-- fields, as they are read, not many of them -/
structure FdIn (w : World) (A : Option Addr) (n : Nat) (l : List F.Fd) : Prop where
  n1 : l.length = n
  m1 : n ≤ 1000
  g1 : F.gsum l ≤ 50000
  s1 : FdAt w w.heap.size A l
theorem FdIn.below {w W : World} {A : Option Addr} {n : Nat} {l : List F.Fd} (h : FdIn w A n l) (e : Below w.heap.size w W) : FdIn W A n l := ⟨h.n1, h.m1, h.g1, h.s1.below e e.size⟩
theorem FdIn.mx {w : World} {A : Option Addr} {n : Nat} {l : List F.Fd} (h : FdIn w A n l) : F.Mx l := fun x hx => by
  have := F.gsum_at hx
  have := h.g1
  unfold F.szM; omega

/-- the texts of a name's values -/
abbrev joinL (v : List ByteArray) : List UInt8 := Lib.join (v.map (·.data.toList)) [44, 32]
theorem joinL_len : ∀ v : List ByteArray, (joinL v).length ≤ F.xsum v + 2 * v.length
  | [] => by simp [joinL, Lib.join]
  | [x] => by rw [F.xsum_one, Lib.size_eq]; simp [joinL, Lib.join]
  | x :: y :: r => by
    have ih := joinL_len (y :: r)
    have e : joinL (x :: y :: r) = x.data.toList ++ ([44, 32] ++ joinL (y :: r)) := by simp [joinL, Lib.join]
    have hs : F.xsum (x :: y :: r) = x.size + F.xsum (y :: r) := by simp [F.xsum]
    rw [e, hs, List.length_append, List.length_append, Lib.size_eq]
    simp only [List.length_cons, List.length_nil] at ih ⊢
    omega
theorem xsum_of (l : List F.Fd) (name : ByteArray) : F.xsum (F.ofD l name) ≤ F.gsum l := by
  induction l with
  | nil => simp [F.ofD, F.xsum, F.gsum]
  | cons f r ih =>
    have hg : F.gsum (f :: r) = f.1.size + f.2.size + F.gsum r := by simp [F.gsum]
    rw [hg]
    unfold F.ofD at ih ⊢
    rw [List.filter_cons]
    split
    · have : F.xsum (f.2 :: (r.filter fun f => F.alikeD f.1 name).map (·.2)) = f.2.size + F.xsum ((r.filter fun f => F.alikeD f.1 name).map (·.2)) := by simp [F.xsum]
      rw [List.map_cons, this]; omega
    · omega
theorem joinL_of {w : World} {A : Option Addr} {n : Nat} {l : List F.Fd} (h : FdIn w A n l) (name : ByteArray) : (joinL (F.ofD l name)).length ≤ 52000 := by
  have h1 := joinL_len (F.ofD l name)
  have h2 := xsum_of l name
  have h3 := F.ofD_len l name
  have := h.g1; have := h.m1; have := h.n1
  omega
theorem size_of {w : World} {A : Option Addr} {n : Nat} {l : List F.Fd} (h : FdIn w A n l) (name : ByteArray) {x : ByteArray} (hx : x ∈ F.ofD l name) : x.size ≤ 50000 := by
  have h1 := F.xsum_at hx
  have h2 := xsum_of l name
  have := h.g1
  omega

/-- the tags of a name's values -/
def tgD (v : List ByteArray) : List Tg × Bool × Int :=
  if v = [] then ([], false, 0) else if 32 < (T.listD (joinL v)).1.length then ([], false, 4) else T.listD (joinL v)
theorem tgD_nil : tgD [] = ([], false, 0) := rfl
theorem tgD_big {v : List ByteArray} (h : v ≠ []) (h2 : 32 < (T.listD (joinL v)).1.length) : tgD v = ([], false, 4) := by unfold tgD; rw [if_neg h, if_pos h2]
theorem tgD_else {v : List ByteArray} (h : v ≠ []) (h2 : ¬ 32 < (T.listD (joinL v)).1.length) : tgD v = T.listD (joinL v) := by unfold tgD; rw [if_neg h, if_neg h2]
theorem listD_bad {s : List UInt8} (h : (T.listD s).2.2 ≠ 0) : (T.listD s).1 = [] ∧ (T.listD s).2.1 = false := by
  unfold T.listD at h ⊢
  split at h
  · exact absurd rfl h
  · rename_i h0
    rw [if_neg h0]
    refine ⟨?_, rfl⟩
    revert h
    cases T.restP true s [] with
    | none => intro _; rfl
    | some l =>
      simp only [T.endP]
      split
      · intro _; rfl
      · split
        · intro _; rfl
        · intro h; exact absurd rfl h
theorem tgD_bad {v : List ByteArray} (h : v ≠ []) (h2 : (T.listD (joinL v)).2.2 ≠ 0) : tgD v = ([], false, (T.listD (joinL v)).2.2) := by
  obtain ⟨a, b⟩ := listD_bad h2
  rw [tgD_else h (by rw [a]; simp)]
  rw [← a, ← b]
/-- the tick of a name's first value -/
noncomputable def tkD : List ByteArray → Int
  | [] => -1
  | x :: _ => if D.parE x = 0 then D.parV x else -1
/-- the tag of a name's first value -/
def rgD : List ByteArray → Tg
  | [] => (⟨#[]⟩, false)
  | x :: _ => if (T.readL (T.trimB x.data.toList)).2 then (T.readL (T.trimB x.data.toList)).1 else (⟨#[]⟩, true)
theorem parse_empty : D.parE ⟨#[]⟩ = 2 := (D.parse_size (by decide)).2
theorem getD_fst (l : List F.Fd) (name : ByteArray) : (F.getD l name).1 = (F.ofD l name).headD ⟨#[]⟩ := by
  unfold F.getD; cases F.ofD l name <;> rfl
theorem getD_snd (l : List F.Fd) (name : ByteArray) : (F.getD l name).2 = decide (F.ofD l name ≠ []) := by
  unfold F.getD; cases F.ofD l name <;> simp

theorem ret_tp {j : IntKind} {u : Value} {b b' : Bool} {i i' : Int} (h1 : b = b') (h2 : i = i') : Ending.returned (.tuple #[u, .bool b, .int j i]) = .returned (.tuple #[u, .bool b', .int j i']) := by rw [h1, h2]
set_option maxHeartbeats 4000000 in
set_option maxRecDepth 20000 in
theorem readTags_any (A : Option Addr) (n c : Nat) (l : List F.Fd) (name : ByteArray) (w : World) (h : FdIn w A n l) (hname : name.size ≤ F.szM) :
    Calls Tryz.prog 19 #[.slice A n c, .string name] w fun e w' => ∃ v, e = .returned (.tuple #[v, .bool (tgD (F.ofD l name)).2.1, .int .i64 (tgD (F.ofD l name)).2.2]) ∧ IsTg w' v (tgD (F.ofD l name)).1 ∧ Below w.heap.size w w' := by
  have hO := fun W (e : Below w.heap.size w W) => F.of_any A n c l name W h.n1 (by have := h.m1; omega) h.mx hname (h.below e).s1
  have hJ := joinL_of h name
  have hL : (F.ofD l name).length ≤ 1000 := Nat.le_trans (F.ofD_len l name) (by have := h.n1; have := h.m1; omega)
  clear h hname
  generalize F.ofD l name = vs at *
  go_enter Tryz.func19, Tryz.ntmps19
  go_wp2_with fail
  with_reducible refine (hO _ (Below.refl _ _)).mono ?_
  rintro e w1 ⟨v1, rfl, ho1, hb1⟩
  clear hO
  obtain ⟨A1, n1, c1, rfl, HN1, hc1, hs1⟩ := (IsTx.own ho1).split
  rcases Nat.eq_zero_or_pos n1 with h0 | h0
  · subst h0
    have hv : vs = [] := List.eq_nil_of_length_eq_zero HN1.out
    have HF : Hid (tgD vs = ([], false, 0)) := by unfold Hid; rw [hv]; rfl
    clear hv
    go_wp2_with fail
    go_ret3
    exact ⟨_, by rw [HF.out]; rfl, by rw [HF.out]; exact IsTg.nil _, hb1⟩
  · obtain ⟨bk, o, rfl, hbk, hcells⟩ := hs1 (by have := HN1.out; omega)
    have hv : vs ≠ [] := by intro q; have := HN1.out; rw [q] at this; simp at this; omega
    have hz : vs.length ≤ c1 := by have := HN1.out; omega
    have hN : vs.length ≤ 140737488355328 := by have := hL; omega
    have hJn : ∀ W, Below w1.heap.size w1 W → Calls Tryz.prog 49 #[.slice (some ⟨bk, o, none⟩) n1 c1, .string ⟨#[44, 32]⟩] W fun e w' => e = .returned (.string ⟨(joinL vs).toArray⟩) ∧ Below W.heap.size W w' := fun W e => by
      have hn1 := HN1.out
      subst hn1
      exact Tryz.strings_Join bk o c1 vs ⟨#[44, 32]⟩ W (fun j x hx => by
        obtain ⟨hj, hx'⟩ := List.getElem?_eq_some_iff.1 hx
        have := hcells j hj
        rw [e.cell (p := ⟨bk, o + j, none⟩) hbk, this, hx']) (Nat.lt_of_lt_of_le hbk e.size) hN hz (by unfold joinL at hJ; show (Lib.join _ [44, 32]).length ≤ _; omega)
    have hT : ∀ W, Calls Tryz.prog 48 #[.string ⟨(joinL vs).toArray⟩] W fun e w' => T.ListPost (joinL vs) W w' e := fun W => T.plist_any _ W (by rw [T.ba_size]; omega)
    have HB := Lib.hid (fun h => tgD_big hv h)
    have HE := Lib.hid (fun h => tgD_else hv h)
    clear hv hcells ho1 hs1 hz hN hJ hL
    go_wp2_with fail
    with_reducible refine (hJn _ (Below.refl _ _)).mono ?_
    rintro e w2 ⟨rfl, hb2⟩
    go_wp2_with fail
    with_reducible refine (hT _).mono ?_
    rintro e w3 ⟨v3, rfl, hi3, hb3⟩
    have B3 : Ext w w3 := Ext.tr (Ext.tr hb1 hb2) hb3
    clear hb1 hb2 hb3 hT hJn
    obtain ⟨A3, n3, c3, rfl, HN3, hc3, hs3⟩ := hi3.split
    by_cases h32 : n3 ≤ 32
    · have HF : Hid (tgD vs = T.listD (joinL vs)) := HE.out (by have := HN3.out; omega)
      clear HB HE
      generalize hX : T.listD (joinL vs) = X at *
      clear hX
      go_wp2_with fail
      go_ret3
      exact ⟨_, by rw [HF.out]; rfl, by rw [HF.out]; exact IsTg.mk' HN3.out hc3 hs3, B3⟩
    · have HF : Hid (tgD vs = ([], false, 4)) := HB.out (by have := HN3.out; omega)
      clear HB HE
      generalize hX : T.listD (joinL vs) = X at *
      clear hX
      go_wp2_with fail
      go_ret3
      exact ⟨_, by rw [HF.out]; rfl, by rw [HF.out]; exact IsTg.nil _, B3⟩

theorem ret_i {a b : Int} (h : a = b) : Ending.returned (.int .i64 a) = .returned (.int .i64 b) := by rw [h]
set_option maxHeartbeats 4000000 in
theorem readTick_any (A : Option Addr) (n c : Nat) (l : List F.Fd) (name : ByteArray) (w : World) (h : FdIn w A n l) (hname : name.size ≤ F.szM) (hw : D.LaidD w) :
    Calls Tryz.prog 20 #[.slice A n c, .string name] w fun e w' => e = .returned (.int .i64 (tkD (F.ofD l name))) ∧ Below w.heap.size w w' := by
  have hG := fun W (e : Below w.heap.size w W) => F.get_any A n c l name W h.n1 (by have := h.m1; omega) h.mx hname (h.below e).s1
  have hP := fun W (e : Below w.heap.size w W) => D.parse_any (F.getD l name).1 W (hw.below e)
  have HF : Hid (tkD (F.ofD l name) = if D.parE (F.getD l name).1 = 0 then D.parV (F.getD l name).1 else -1) := by
    unfold Hid
    rw [getD_fst]
    cases F.ofD l name with
    | nil => rw [show List.headD ([] : List ByteArray) ⟨#[]⟩ = ⟨#[]⟩ from rfl, parse_empty]; rfl
    | cons x r => rfl
  clear h hname hw
  generalize (F.getD l name).1 = x at *
  generalize (F.getD l name).2 = q at *
  generalize tkD (F.ofD l name) = T0 at *
  by_cases he : D.parE x = 0
  · have HT : Hid (T0 = D.parV x) := by unfold Hid; rw [HF.out, if_pos he]
    rw [he] at hP
    clear HF he
    generalize D.parV x = v at *
    go_enter Tryz.func20, Tryz.ntmps20
    go_wp2_with fail
    with_reducible refine (hG _ (Below.refl _ _)).mono ?_
    rintro e w1 ⟨rfl, hb1⟩
    go_wp2_with fail
    with_reducible refine (hP _ hb1).mono ?_
    rintro e w2 ⟨rfl, hb2⟩
    go_wp2_with fail
    go_ret
    exact ⟨ret_i HT.out.symm, Ext.tr hb1 hb2⟩
  · have HT : Hid (T0 = -1) := by unfold Hid; rw [HF.out, if_neg he]
    clear HF
    generalize D.parV x = v at *
    generalize D.parE x = f at *
    go_enter Tryz.func20, Tryz.ntmps20
    go_wp2_with fail
    with_reducible refine (hG _ (Below.refl _ _)).mono ?_
    rintro e w1 ⟨rfl, hb1⟩
    go_wp2_with fail
    with_reducible refine (hP _ hb1).mono ?_
    rintro e w2 ⟨rfl, hb2⟩
    go_wp2_with fail
    go_ret
    exact ⟨ret_i HT.out.symm, Ext.tr hb1 hb2⟩
end Go.Proofs.YtomcoacndppkcaaGreatDoor
