/-
  Mathematics of dates' texts. No word of the program.
-/
import Derived.Test.YtomcoacndppkcaaGreatDoorDM
import Derived.Lib.Atoi
import Derived.Lib.ItoaNum
namespace Go.Proofs.YtomcoacndppkcaaGreatDoor.D
open Go

def wkB (w : Int) : ByteArray :=
  if w = 0 then ⟨#[83, 117, 110]⟩ else if w = 1 then ⟨#[77, 111, 110]⟩ else if w = 2 then ⟨#[84, 117, 101]⟩ else if w = 3 then ⟨#[87, 101, 100]⟩ else if w = 4 then ⟨#[84, 104, 117]⟩ else if w = 5 then ⟨#[70, 114, 105]⟩ else ⟨#[83, 97, 116]⟩
def moB (m : Int) : ByteArray :=
  if m = 1 then ⟨#[74, 97, 110]⟩ else if m = 2 then ⟨#[70, 101, 98]⟩ else if m = 3 then ⟨#[77, 97, 114]⟩ else if m = 4 then ⟨#[65, 112, 114]⟩ else if m = 5 then ⟨#[77, 97, 121]⟩ else if m = 6 then ⟨#[74, 117, 110]⟩ else if m = 7 then ⟨#[74, 117, 108]⟩ else if m = 8 then ⟨#[65, 117, 103]⟩ else if m = 9 then ⟨#[83, 101, 112]⟩ else if m = 10 then ⟨#[79, 99, 116]⟩ else if m = 11 then ⟨#[78, 111, 118]⟩ else ⟨#[68, 101, 99]⟩
def dg (k : Int) : UInt8 := UInt8.ofNat (48 + k.toNat)
def d2B (n : Int) : ByteArray := ⟨#[dg (n / 10 % 10), dg (n % 10)]⟩
/-- the text of the second s of the day n -/
def textB (n s : Int) : ByteArray :=
  wkB ((n + 4) % 7) ++ ⟨#[44, 32]⟩ ++ d2B (dO n) ++ ⟨#[32]⟩ ++ moB (mO n) ++ ⟨#[32]⟩ ++ d2B (yO n / 100) ++ d2B (yO n % 100) ++ ⟨#[32]⟩ ++ d2B (s / 3600) ++ ⟨#[58]⟩ ++ d2B (s / 60 % 60) ++ ⟨#[58]⟩ ++ d2B (s % 60) ++ ⟨#[32, 71, 77, 84]⟩

def Three (x : ByteArray) : Prop := ∃ a b c, x = ⟨#[a, b, c]⟩
theorem three_ite {p : Prop} [Decidable p] {x y : ByteArray} (h1 : Three x) (h2 : Three y) : Three (if p then x else y) := by
  split <;> assumption
theorem three_lit (a b c : UInt8) : Three ⟨#[a, b, c]⟩ := ⟨a, b, c, rfl⟩
theorem wkB_three (w : Int) : Three (wkB w) := by
  unfold wkB
  repeat (first | exact three_lit _ _ _ | refine three_ite (three_lit _ _ _) ?_)
theorem moB_three (m : Int) : Three (moB m) := by
  unfold moB
  repeat (first | exact three_lit _ _ _ | refine three_ite (three_lit _ _ _) ?_)

theorem text_mk (n s : Int) : ∃ a b c x y z, moB (mO n) = ⟨#[x, y, z]⟩ ∧ textB n s = ⟨#[a, b, c, 44, 32, dg (dO n / 10 % 10), dg (dO n % 10), 32, x, y, z, 32, dg (yO n / 100 / 10 % 10), dg (yO n / 100 % 10), dg (yO n % 100 / 10 % 10), dg (yO n % 100 % 10), 32,
    dg (s / 3600 / 10 % 10), dg (s / 3600 % 10), 58, dg (s / 60 % 60 / 10 % 10), dg (s / 60 % 60 % 10), 58, dg (s % 60 / 10 % 10), dg (s % 60 % 10), 32, 71, 77, 84]⟩ := by
  obtain ⟨a, b, c, h1⟩ := wkB_three ((n + 4) % 7)
  obtain ⟨x, y, z, h2⟩ := moB_three (mO n)
  refine ⟨a, b, c, x, y, z, h2, ?_⟩
  unfold textB
  rw [h1, h2]
  unfold d2B
  apply ByteArray.ext
  simp [ByteArray.data_append]

theorem text_size (n s : Int) : (textB n s).size = 29 := by
  obtain ⟨a, b, c, x, y, z, h1, h2⟩ := text_mk n s
  rw [h2]; rfl
theorem text_cut (n s : Int) : (textB n s).extract 5 7 = d2B (dO n) ∧ (textB n s).extract 8 11 = moB (mO n) ∧ (textB n s).extract 12 16 = d2B (yO n / 100) ++ d2B (yO n % 100) ∧
    (textB n s).extract 17 19 = d2B (s / 3600) ∧ (textB n s).extract 20 22 = d2B (s / 60 % 60) ∧ (textB n s).extract 23 25 = d2B (s % 60) := by
  obtain ⟨a, b, c, x, y, z, h1, h2⟩ := text_mk n s
  rw [h2, h1]
  unfold d2B
  refine ⟨?_, ?_, ?_, ?_, ?_, ?_⟩ <;> (apply ByteArray.ext; simp [ByteArray.data_extract, ByteArray.data_append])

/- numbers of texts -/
theorem dg_nat {k : Int} (h0 : 0 ≤ k) (h9 : k ≤ 9) : (dg k).toNat = 48 + k.toNat := by
  unfold dg; rw [UInt8.toNat_ofNat']; omega
theorem dg_val {k : Int} (h0 : 0 ≤ k) (h9 : k ≤ 9) : Lib.digitVal (dg k) = some k.toNat := by
  unfold Lib.digitVal; rw [dg_nat h0 h9, if_pos (by omega)]; congr 1; omega
theorem dg_sign {k : Int} (h0 : 0 ≤ k) (h9 : k ≤ 9) : (dg k == 45) = false ∧ (dg k == 43) = false := by
  have e := dg_nat h0 h9
  constructor <;>
  · rw [beq_eq_false_iff_ne]
    intro h
    have := congrArg UInt8.toNat h
    rw [e] at this
    simp at this; omega
/-- what the program takes a text for -/
def numP (x : ByteArray) : Int := (Lib.atoi x.data.toList).getD 0
theorem numP_two {a b : Int} (a0 : 0 ≤ a) (a9 : a ≤ 9) (b0 : 0 ≤ b) (b9 : b ≤ 9) : numP ⟨#[dg a, dg b]⟩ = 10 * a + b := by
  unfold numP Lib.atoi Lib.decNat
  simp [dg_sign a0 a9, Lib.decFrom, dg_val a0 a9, dg_val b0 b9]; omega
theorem numP_d2 {k : Int} (h0 : 0 ≤ k) (h9 : k ≤ 99) : numP (d2B k) = k := by
  unfold d2B; rw [numP_two (by omega) (by omega) (by omega) (by omega)]; omega
theorem numP_d4 {a b : Int} (h0 : 0 ≤ a) (h9 : a ≤ 99) (b0 : 0 ≤ b) (b9 : b ≤ 99) : numP (d2B a ++ d2B b) = 100 * a + b := by
  have e : d2B a ++ d2B b = ⟨#[dg (a / 10 % 10), dg (a % 10), dg (b / 10 % 10), dg (b % 10)]⟩ := by
    unfold d2B; apply ByteArray.ext; simp [ByteArray.data_append]
  rw [e]
  have p1 := dg_val (k := a / 10 % 10) (by omega) (by omega)
  have p2 := dg_val (k := a % 10) (by omega) (by omega)
  have p3 := dg_val (k := b / 10 % 10) (by omega) (by omega)
  have p4 := dg_val (k := b % 10) (by omega) (by omega)
  have q := dg_sign (k := a / 10 % 10) (by omega) (by omega)
  unfold numP Lib.atoi Lib.decNat
  simp [q, Lib.decFrom, p1, p2, p3, p4]; omega
theorem digitVal_le {b : UInt8} {d : Nat} (h : Lib.digitVal b = some d) : d ≤ 9 := by
  unfold Lib.digitVal at h; split at h
  · injection h with h; omega
  · cases h
theorem decFrom_bd : ∀ (l : List UInt8) (acc n : Nat), Lib.decFrom acc l = some n → n + 1 ≤ (acc + 1) * 10 ^ l.length
  | [], acc, n, h => by simp [Lib.decFrom] at h; simp; omega
  | b :: r, acc, n, h => by
    unfold Lib.decFrom at h
    split at h
    · rename_i d hd
      have := decFrom_bd r _ n h
      have hd9 := digitVal_le hd
      have e : (acc + 1) * 10 ^ (b :: r).length = (acc * 10 + 10) * 10 ^ r.length := by simp only [List.length_cons, Nat.pow_succ]; rw [Nat.mul_comm (10 ^ r.length) 10, ← Nat.mul_assoc, Nat.add_mul, Nat.one_mul]
      rw [e]
      exact Nat.le_trans this (Nat.mul_le_mul_right _ (by omega))
    · cases h
theorem decNat_bd {l : List UInt8} {n : Nat} (h : Lib.decNat l = some n) (hl : l.length ≤ 4) : n ≤ 9999 := by
  unfold Lib.decNat at h
  split at h
  · cases h
  · have := decFrom_bd l 0 n h
    have h4 := Nat.pow_le_pow_right (n := 10) (by omega) hl
    simp at this; omega
theorem numP_bd {x : ByteArray} (h : x.size ≤ 4) : -9999 ≤ numP x ∧ numP x ≤ 9999 := by
  have hl : x.data.toList.length ≤ 4 := by simpa using h
  unfold numP
  generalize x.data.toList = l at *
  match l, hl with
  | [], _ => simp [Lib.atoi]
  | b :: r, hl =>
    unfold Lib.atoi
    simp only
    split
    · cases e : Lib.decNat r with
      | none => simp
      | some n => have := decNat_bd e (by simp at hl; omega); simp; omega
    · split
      · cases e : Lib.decNat r with
        | none => simp
        | some n => have := decNat_bd e (by simp at hl; omega); simp; omega
      · cases e : Lib.decNat (b :: r) with
        | none => simp
        | some n => have := decNat_bd e hl; simp; omega

/-- what the reference takes a text for -/
def numRF : Int → List UInt8 → Int
  | acc, [] => acc
  | acc, b :: r => if 48 ≤ b.toNat ∧ b.toNat ≤ 57 then numRF (10 * acc + ((b.toNat : Int) - 48)) r else -1
def numR (x : ByteArray) : Int := numRF 0 x.data.toList
theorem numRF_dg {k acc : Int} (h0 : 0 ≤ k) (h9 : k ≤ 9) (r : List UInt8) : numRF acc (dg k :: r) = numRF (10 * acc + k) r := by
  have e := dg_nat h0 h9
  show (if 48 ≤ (dg k).toNat ∧ (dg k).toNat ≤ 57 then numRF (10 * acc + (((dg k).toNat : Int) - 48)) r else -1) = _
  rw [if_pos (by omega)]; congr 2; omega
theorem numR_d2 {k : Int} (h0 : 0 ≤ k) (h9 : k ≤ 99) : numR (d2B k) = k := by
  unfold numR d2B
  show numRF 0 [dg (k / 10 % 10), dg (k % 10)] = k
  rw [numRF_dg (by omega) (by omega), numRF_dg (by omega) (by omega)]
  show 10 * (10 * 0 + k / 10 % 10) + k % 10 = k
  omega
theorem numR_d4 {a b : Int} (h0 : 0 ≤ a) (h9 : a ≤ 99) (b0 : 0 ≤ b) (b9 : b ≤ 99) : numR (d2B a ++ d2B b) = 100 * a + b := by
  have e : d2B a ++ d2B b = ⟨#[dg (a / 10 % 10), dg (a % 10), dg (b / 10 % 10), dg (b % 10)]⟩ := by
    unfold d2B; apply ByteArray.ext; simp [ByteArray.data_append]
  rw [e]
  unfold numR
  show numRF 0 [dg (a / 10 % 10), dg (a % 10), dg (b / 10 % 10), dg (b % 10)] = _
  rw [numRF_dg (by omega) (by omega), numRF_dg (by omega) (by omega), numRF_dg (by omega) (by omega), numRF_dg (by omega) (by omega)]
  show 10 * (10 * (10 * (10 * 0 + a / 10 % 10) + a % 10) + b / 10 % 10) + b % 10 = _
  omega
theorem numRF_bd : ∀ (l : List UInt8) (acc : Int), 0 ≤ acc → -1 ≤ numRF acc l ∧ numRF acc l + 1 ≤ (acc + 1) * 10 ^ l.length
  | [], acc, h => by simp [numRF]; omega
  | b :: r, acc, h => by
    unfold numRF
    have hp : (0 : Int) < 10 ^ r.length := Int.pow_pos (by omega)
    have e : (acc + 1) * 10 ^ (b :: r).length = (acc * 10 + 10) * 10 ^ r.length := by
      simp only [List.length_cons, Int.pow_succ]; rw [Int.mul_comm (10 ^ r.length) 10, ← Int.mul_assoc, Int.add_mul, Int.one_mul]
    split
    · have := numRF_bd r (10 * acc + ((b.toNat : Int) - 48)) (by omega)
      refine ⟨this.1, ?_⟩
      rw [e]
      exact Int.le_trans this.2 (Int.mul_le_mul_of_nonneg_right (by omega) (by omega))
    · refine ⟨by omega, ?_⟩
      rw [e]
      have : (0 : Int) ≤ (acc * 10 + 10) * 10 ^ r.length := Int.mul_nonneg (by omega) (by omega)
      omega
theorem numR_bd {x : ByteArray} (h : x.size ≤ 4) : -1 ≤ numR x ∧ numR x ≤ 9999 := by
  have hl : x.data.toList.length ≤ 4 := by simpa using h
  have := numRF_bd x.data.toList 0 (by omega)
  refine ⟨this.1, ?_⟩
  unfold numR
  have h4 : ((10 : Int) ^ x.data.toList.length) ≤ 10000 := by
    have := Nat.pow_le_pow_right (n := 10) (by omega) hl
    have e : ((10 ^ x.data.toList.length : Nat) : Int) = (10 : Int) ^ x.data.toList.length := by simp
    omega
  omega

/-- the month of a name -/
def moX (x : ByteArray) : Int :=
  if x = moB 1 then 1 else if x = moB 2 then 2 else if x = moB 3 then 3 else if x = moB 4 then 4 else if x = moB 5 then 5 else if x = moB 6 then 6 else if x = moB 7 then 7 else if x = moB 8 then 8 else if x = moB 9 then 9 else if x = moB 10 then 10 else if x = moB 11 then 11 else if x = moB 12 then 12 else 0
theorem moX_bd (x : ByteArray) : 0 ≤ moX x ∧ moX x ≤ 12 := by unfold moX; repeat' split
                                                              all_goals omega
theorem moX_moB : ∀ m : Int, 1 ≤ m → m ≤ 12 → moX (moB m) = m := by
  refine months ?_ ?_ ?_ ?_ ?_ ?_ ?_ ?_ ?_ ?_ ?_ ?_ <;> decide +kernel
theorem moX_of (x : ByteArray) : ∀ m : Int, 1 ≤ m → m ≤ 12 → moB m = x → moX x = m := fun m a b h => by rw [← h]; exact moX_moB m a b
theorem moX_none {x : ByteArray} (h : ∀ m : Int, 1 ≤ m → m ≤ 12 → moB m ≠ x) : moX x = 0 := by
  unfold moX
  repeat' split
  all_goals first | rfl | (rename_i e; exact absurd e.symm (h _ (by omega) (by omega)))

/- ticks -/
def lastT : Int := 253402300799
def inT (t : Int) : Bool := decide (0 ≤ t ∧ t ≤ 253402300799)
theorem inT_iff {t : Int} : inT t = true ↔ 0 ≤ t ∧ t ≤ 253402300799 := by simp [inT]
def txB (t : Int) : ByteArray := textB (t / 86400) (t % 86400)
def isT (x : ByteArray) (t : Int) : Prop := (0 ≤ t ∧ t ≤ 253402300799) ∧ txB t = x
theorem parts {x : ByteArray} {t : Int} (h : isT x t) : x.size = 29 ∧ rdB (yO (t / 86400)) (mO (t / 86400)) (dO (t / 86400)) = true ∧ num (yO (t / 86400)) (mO (t / 86400)) (dO (t / 86400)) = t / 86400 ∧
    x.extract 5 7 = d2B (dO (t / 86400)) ∧ x.extract 8 11 = moB (mO (t / 86400)) ∧ x.extract 12 16 = d2B (yO (t / 86400) / 100) ++ d2B (yO (t / 86400) % 100) ∧
    x.extract 17 19 = d2B (t % 86400 / 3600) ∧ x.extract 20 22 = d2B (t % 86400 / 60 % 60) ∧ x.extract 23 25 = d2B (t % 86400 % 60) := by
  obtain ⟨⟨h0, h9⟩, rfl⟩ := h
  obtain ⟨r, e⟩ := of_num (n := t / 86400) (by omega) (by omega)
  exact ⟨text_size _ _, r, e, text_cut _ _⟩
def secP (x : ByteArray) : Int := numP (x.extract 17 19) * 3600 + numP (x.extract 20 22) * 60 + numP (x.extract 23 25)
theorem parts_P {x : ByteArray} {t : Int} (h : isT x t) : x.size = 29 ∧ rdB (numP (x.extract 12 16)) (moX (x.extract 8 11)) (numP (x.extract 5 7)) = true ∧ 0 ≤ secP x ∧ secP x < 86400 ∧
    num (numP (x.extract 12 16)) (moX (x.extract 8 11)) (numP (x.extract 5 7)) * 86400 + secP x = t := by
  have hh := h.1
  obtain ⟨hs, r, e, c1, c2, c3, c4, c5, c6⟩ := parts h
  obtain ⟨p1, p2, p3, p4, p5, p6⟩ := rd_iff.1 r
  have hm := mdays_bd (yO (t / 86400)) (mO (t / 86400))
  unfold secP
  rw [c1, c2, c3, c4, c5, c6, numP_d2 (by omega) (by omega), numP_d2 (by omega) (by omega), numP_d2 (by omega) (by omega), numP_d2 (by omega) (by omega), numP_d4 (by omega) (by omega) (by omega) (by omega), moX_moB _ p3 p4,
    show 100 * (yO (t / 86400) / 100) + yO (t / 86400) % 100 = yO (t / 86400) by omega]
  refine ⟨hs, r, by omega, by omega, ?_⟩
  rw [e]; omega
theorem parts_R {x : ByteArray} {t : Int} (h : isT x t) : x.size = 29 ∧ rdB (numR (x.extract 12 16)) (moX (x.extract 8 11)) (numR (x.extract 5 7)) = true ∧
    (0 ≤ numR (x.extract 17 19) ∧ numR (x.extract 17 19) ≤ 23) ∧ (0 ≤ numR (x.extract 20 22) ∧ numR (x.extract 20 22) ≤ 59) ∧ (0 ≤ numR (x.extract 23 25) ∧ numR (x.extract 23 25) ≤ 59) ∧
    num (numR (x.extract 12 16)) (moX (x.extract 8 11)) (numR (x.extract 5 7)) * 86400 + (3600 * numR (x.extract 17 19) + 60 * numR (x.extract 20 22) + numR (x.extract 23 25)) = t := by
  have hh := h.1
  obtain ⟨hs, r, e, c1, c2, c3, c4, c5, c6⟩ := parts h
  obtain ⟨p1, p2, p3, p4, p5, p6⟩ := rd_iff.1 r
  have hm := mdays_bd (yO (t / 86400)) (mO (t / 86400))
  rw [c1, c2, c3, c4, c5, c6, numR_d2 (by omega) (by omega), numR_d2 (by omega) (by omega), numR_d2 (by omega) (by omega), numR_d2 (by omega) (by omega), numR_d4 (by omega) (by omega) (by omega) (by omega), moX_moB _ p3 p4,
    show 100 * (yO (t / 86400) / 100) + yO (t / 86400) % 100 = yO (t / 86400) by omega]
  refine ⟨hs, r, by omega, by omega, by omega, ?_⟩
  rw [e]; omega

/-- what a text says -/
def ParP (x : ByteArray) (v e : Int) : Prop := (e = 0 ∧ isT x v) ∨ (e = 2 ∧ v = 0 ∧ ∀ t, ¬ isT x t)
theorem isT_uniq {x : ByteArray} {t u : Int} (h : isT x t) (h' : isT x u) : t = u := by rw [← (parts_P h).2.2.2.2, ← (parts_P h').2.2.2.2]
theorem ParP.uniq {x : ByteArray} {v e v' e' : Int} (h : ParP x v e) (h' : ParP x v' e') : v = v' ∧ e = e' := by
  rcases h with ⟨rfl, h⟩ | ⟨rfl, rfl, h⟩ <;> rcases h' with ⟨rfl, h'⟩ | ⟨rfl, rfl, h'⟩
  · exact ⟨isT_uniq h h', rfl⟩
  · exact absurd h (h' _)
  · exact absurd h' (h _)
  · exact ⟨rfl, rfl⟩
theorem ParP.ex (x : ByteArray) : ∃ p : Int × Int, ParP x p.1 p.2 := by
  by_cases h : ∃ t, isT x t
  · obtain ⟨t, h⟩ := h; exact ⟨(t, 0), Or.inl ⟨rfl, h⟩⟩
  · exact ⟨(0, 2), Or.inr ⟨rfl, rfl, fun t ht => h ⟨t, ht⟩⟩⟩
noncomputable def parV (x : ByteArray) : Int := (Classical.choose (ParP.ex x)).1
noncomputable def parE (x : ByteArray) : Int := (Classical.choose (ParP.ex x)).2
theorem par_spec (x : ByteArray) : ParP x (parV x) (parE x) := Classical.choose_spec (ParP.ex x)
theorem par_eq {x : ByteArray} {v e : Int} (h : ParP x v e) : parV x = v ∧ parE x = e := (par_spec x).uniq h
theorem par_tx {t : Int} (h : 0 ≤ t ∧ t ≤ 253402300799) : parV (txB t) = t ∧ parE (txB t) = 0 := par_eq (Or.inl ⟨rfl, h, rfl⟩)
end Go.Proofs.YtomcoacndppkcaaGreatDoor.D
