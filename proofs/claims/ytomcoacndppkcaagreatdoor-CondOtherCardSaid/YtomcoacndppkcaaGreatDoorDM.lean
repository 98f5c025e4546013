/-
  Mathematics of dates: years, months, days, ticks. No word of the program.
-/
import Derived.Test.YtomcoacndppkcaaGreatDoorProg
import Derived.Lib.Hide
namespace Go.Proofs.YtomcoacndppkcaaGreatDoor.D

/-- has a year a day more -/
def lpB (y : Int) : Bool := (y.tmod 4 == 0) && ((y.tmod 100 != 0) || (y.tmod 400 == 0))
theorem lpB_pos {y : Int} (h : 0 ≤ y) : lpB y = ((y % 4 == 0) && ((y % 100 != 0) || (y % 400 == 0))) := by
  unfold lpB; rw [Int.tmod_eq_emod_of_nonneg h, Int.tmod_eq_emod_of_nonneg h, Int.tmod_eq_emod_of_nonneg h]
def lpI (y : Int) : Int := if lpB y = true then 1 else 0
theorem lpI_bd (y : Int) : 0 ≤ lpI y ∧ lpI y ≤ 1 := by unfold lpI; split <;> omega

/-- days ahead of a year, from 1970 on -/
def ahead (y : Int) : Int := 365 * (y - 1970) + (y - 1) / 4 - (y - 1) / 100 + (y - 1) / 400 - 477
theorem ahead_succ {y : Int} (h : 1 ≤ y) : ahead (y + 1) = ahead y + 365 + lpI y := by
  unfold lpI
  rw [lpB_pos (by omega)]
  unfold ahead
  by_cases h4 : y % 4 = 0
  · by_cases h100 : y % 100 = 0
    · by_cases h400 : y % 400 = 0
      · simp [h4, h100, h400]; omega
      · simp [h4, h100, h400]; omega
    · simp [h4, h100]; omega
  · simp [h4]; omega
theorem ahead_mono {a b : Int} (h : a ≤ b) : ahead a ≤ ahead b := by unfold ahead; omega
theorem ahead_lt {a b : Int} (h : a < b) (h1 : 1 ≤ a) : ahead a + 365 ≤ ahead b := by
  have := ahead_succ h1
  have := lpI_bd a
  have := ahead_mono (a := a + 1) (b := b) (by omega)
  omega
theorem ahead_1970 : ahead 1970 = 0 := by decide
theorem ahead_10000 : ahead 10000 = 2932897 := by decide
theorem ahead_bd {y : Int} (h1 : 1970 ≤ y) (h2 : y ≤ 10000) : 0 ≤ ahead y ∧ ahead y ≤ 2932897 := by
  have := ahead_mono h1; have := ahead_mono h2
  rw [ahead_1970] at *; rw [ahead_10000] at *; exact ⟨by omega, by omega⟩

/-- how many days a month of a year has -/
def mdays (y m : Int) : Int := if m = 2 then 28 + lpI y else if m = 4 ∨ m = 6 ∨ m = 9 ∨ m = 11 then 30 else 31
/-- how many days of a year lie ahead of a month -/
def cumB (m : Int) : Int :=
  if m = 1 then 0 else if m = 2 then 31 else if m = 3 then 59 else if m = 4 then 90 else if m = 5 then 120 else if m = 6 then 151 else if m = 7 then 181 else if m = 8 then 212 else if m = 9 then 243 else if m = 10 then 273 else if m = 11 then 304 else if m = 12 then 334 else 365
def cum (y m : Int) : Int := cumB m + (if 3 ≤ m then lpI y else 0)
theorem months {P : Int → Prop} (h1 : P 1) (h2 : P 2) (h3 : P 3) (h4 : P 4) (h5 : P 5) (h6 : P 6) (h7 : P 7) (h8 : P 8) (h9 : P 9) (h10 : P 10) (h11 : P 11) (h12 : P 12) :
    ∀ m : Int, 1 ≤ m → m ≤ 12 → P m := by
  intro m a b
  have : m = 1 ∨ m = 2 ∨ m = 3 ∨ m = 4 ∨ m = 5 ∨ m = 6 ∨ m = 7 ∨ m = 8 ∨ m = 9 ∨ m = 10 ∨ m = 11 ∨ m = 12 := by omega
  rcases this with rfl | rfl | rfl | rfl | rfl | rfl | rfl | rfl | rfl | rfl | rfl | rfl <;> assumption
theorem cum_succ (y : Int) : ∀ m : Int, 1 ≤ m → m ≤ 12 → cum y (m + 1) = cum y m + mdays y m := by
  refine months ?_ ?_ ?_ ?_ ?_ ?_ ?_ ?_ ?_ ?_ ?_ ?_ <;> simp [cum, cumB, mdays] <;> omega
theorem cum_1 (y : Int) : cum y 1 = 0 := by simp [cum, cumB]
theorem cum_13 (y : Int) : cum y 13 = 365 + lpI y := by simp [cum, cumB]
theorem mdays_bd (y m : Int) : 28 ≤ mdays y m ∧ mdays y m ≤ 31 := by
  have := lpI_bd y
  unfold mdays; split
  · omega
  · split <;> omega
theorem cum_bd (y : Int) : ∀ m : Int, 1 ≤ m → m ≤ 12 → 0 ≤ cum y m ∧ cum y m ≤ 335 := by
  have := lpI_bd y
  refine months ?_ ?_ ?_ ?_ ?_ ?_ ?_ ?_ ?_ ?_ ?_ ?_ <;> simp [cum, cumB] <;> omega
theorem cum_step {y a b : Int} (h1 : 1 ≤ a) (h : a < b) (h2 : b ≤ 13) : cum y a + mdays y a ≤ cum y b := by
  obtain ⟨k, hk⟩ : ∃ k : Nat, b = a + 1 + k := ⟨(b - a - 1).toNat, by omega⟩
  induction k generalizing b with
  | zero => subst hk; rw [← cum_succ y a h1 (by omega)]; simp
  | succ k ih =>
    have e := ih (b := b - 1) (by omega) (by omega) (by omega)
    have s := cum_succ y (b - 1) (by omega) (by omega)
    have d := mdays_bd y (b - 1)
    rw [show b - 1 + 1 = b by omega] at s
    omega

/-- a day that may be -/
def rdB (y m d : Int) : Bool := decide (1970 ≤ y ∧ y ≤ 9999 ∧ 1 ≤ m ∧ m ≤ 12 ∧ 1 ≤ d ∧ d ≤ mdays y m)
/-- the number of a day -/
def num (y m d : Int) : Int := ahead y + cum y m + d - 1
theorem rd_iff {y m d : Int} : rdB y m d = true ↔ 1970 ≤ y ∧ y ≤ 9999 ∧ 1 ≤ m ∧ m ≤ 12 ∧ 1 ≤ d ∧ d ≤ mdays y m := by simp [rdB]
theorem num_in {y m d : Int} (h : rdB y m d = true) : ahead y ≤ num y m d ∧ num y m d < ahead (y + 1) ∧ cum y m ≤ num y m d - ahead y ∧ num y m d - ahead y < cum y m + mdays y m := by
  obtain ⟨a, b, c, d1, e, f⟩ := rd_iff.1 h
  have := cum_step (y := y) c (show m < 13 by omega) (by omega)
  rw [cum_13] at this
  have := ahead_succ (y := y) (by omega)
  have := cum_bd y m c d1
  unfold num
  omega
theorem num_bd {y m d : Int} (h : rdB y m d = true) : 0 ≤ num y m d ∧ num y m d ≤ 2932896 := by
  have h' := num_in h
  obtain ⟨a, b, c, d1, e, f⟩ := rd_iff.1 h
  have := ahead_bd a (by omega)
  have := ahead_bd (y := y + 1) (by omega) (by omega)
  omega
theorem num_inj {y m d y' m' d' : Int} (h : rdB y m d = true) (h' : rdB y' m' d' = true) (e : num y m d = num y' m' d') : y = y' ∧ m = m' ∧ d = d' := by
  have a := num_in h
  have a' := num_in h'
  obtain ⟨p1, p2, p3, p4, p5, p6⟩ := rd_iff.1 h
  obtain ⟨q1, q2, q3, q4, q5, q6⟩ := rd_iff.1 h'
  have hy : y = y' := by
    rcases Int.lt_trichotomy y y' with l | l | l
    · have := ahead_mono (show y + 1 ≤ y' by omega); omega
    · exact l
    · have := ahead_mono (show y' + 1 ≤ y by omega); omega
  subst hy
  have hm : m = m' := by
    rcases Int.lt_trichotomy m m' with l | l | l
    · have := cum_step (y := y) p3 l (by omega); omega
    · exact l
    · have := cum_step (y := y) q3 l (by omega); omega
  subst hm
  refine ⟨rfl, rfl, ?_⟩
  unfold num at e; omega

/-- the year of a day's number -/
def yrF : Nat → Int → Int → Int
  | 0, y, _ => y
  | k + 1, y, n => if ahead (y + 1) ≤ n then yrF k (y + 1) n else y
theorem yrF_spec : ∀ (k : Nat) (y n : Int), ahead y ≤ n → n < ahead (y + k + 1) → ahead (yrF k y n) ≤ n ∧ n < ahead (yrF k y n + 1) ∧ y ≤ yrF k y n ∧ yrF k y n ≤ y + k
  | 0, y, n, h1, h2 => by simp [yrF] at *; omega
  | k + 1, y, n, h1, h2 => by
    unfold yrF
    by_cases h : ahead (y + 1) ≤ n
    · rw [if_pos h]
      have := yrF_spec k (y + 1) n h (by rw [show y + 1 + (k : Int) + 1 = y + (k + 1 : Nat) + 1 by omega]; exact h2)
      omega
    · rw [if_neg h]; omega
def yrO (n : Int) : Int := yrF 8029 1970 n
theorem yrO_spec {n : Int} (h1 : 0 ≤ n) (h2 : n ≤ 2932896) : ahead (yrO n) ≤ n ∧ n < ahead (yrO n + 1) ∧ 1970 ≤ yrO n ∧ yrO n ≤ 9999 := by
  have := yrF_spec 8029 1970 n (by rw [ahead_1970]; exact h1) (by show n < ahead 10000; rw [ahead_10000]; omega)
  unfold yrO; omega
/-- the month of a day of a year -/
def moF : Nat → Int → Int → Int → Int
  | 0, _, m, _ => m
  | k + 1, y, m, l => if cum y (m + 1) ≤ l then moF k y (m + 1) l else m
theorem moF_spec : ∀ (k : Nat) (y m l : Int), cum y m ≤ l → l < cum y (m + k + 1) → cum y (moF k y m l) ≤ l ∧ l < cum y (moF k y m l + 1) ∧ m ≤ moF k y m l ∧ moF k y m l ≤ m + k
  | 0, y, m, l, h1, h2 => by simp [moF] at *; omega
  | k + 1, y, m, l, h1, h2 => by
    unfold moF
    by_cases h : cum y (m + 1) ≤ l
    · rw [if_pos h]
      have := moF_spec k y (m + 1) l h (by rw [show m + 1 + (k : Int) + 1 = m + (k + 1 : Nat) + 1 by omega]; exact h2)
      omega
    · rw [if_neg h]; omega
def yO (n : Int) : Int := yrO n
def lO (n : Int) : Int := n - ahead (yrO n)
def mO (n : Int) : Int := moF 11 (yO n) 1 (lO n)
def dO (n : Int) : Int := lO n - cum (yO n) (mO n) + 1
theorem mO_spec {n : Int} (h1 : 0 ≤ n) (h2 : n ≤ 2932896) : cum (yO n) (mO n) ≤ lO n ∧ lO n < cum (yO n) (mO n + 1) ∧ 1 ≤ mO n ∧ mO n ≤ 12 := by
  have a := yrO_spec h1 h2
  have b := ahead_succ (y := yrO n) (by omega)
  have := moF_spec 11 (yO n) 1 (lO n) (by rw [cum_1]; unfold lO; omega) (by show _ < cum _ 13; rw [cum_13]; unfold lO yO; omega)
  unfold mO; omega
theorem of_num {n : Int} (h1 : 0 ≤ n) (h2 : n ≤ 2932896) : rdB (yO n) (mO n) (dO n) = true ∧ num (yO n) (mO n) (dO n) = n := by
  have a := yrO_spec h1 h2
  have b := mO_spec h1 h2
  have c := cum_succ (yO n) (mO n) (by omega) (by omega)
  refine ⟨rd_iff.2 ⟨a.2.2.1, a.2.2.2, b.2.2.1, b.2.2.2, ?_, ?_⟩, ?_⟩
  · unfold dO; omega
  · unfold dO; omega
  · unfold num dO lO yO; omega
theorem of_uniq {y m d n : Int} (h : rdB y m d = true) (e : num y m d = n) : yO n = y ∧ mO n = m ∧ dO n = d := by
  have b := num_bd h
  obtain ⟨r, s⟩ := of_num (n := n) (by omega) (by omega)
  exact num_inj r h (by rw [s, e])
/-- where the year and the month of a number are found -/
theorem year_uniq {n y : Int} (a : ahead y ≤ n) (b : n < ahead (y + 1)) (h0 : 0 ≤ n) (h9 : n ≤ 2932896) : yO n = y := by
  have s := yrO_spec h0 h9
  unfold yO
  rcases Int.lt_trichotomy (yrO n) y with l | l | l
  · have := ahead_mono (show yrO n + 1 ≤ y by omega); omega
  · exact l
  · have := ahead_mono (show y + 1 ≤ yrO n by omega); omega
theorem month_uniq {n m : Int} (h1 : 1 ≤ m) (h2 : m ≤ 12) (a : cum (yO n) m ≤ lO n) (b : lO n < cum (yO n) (m + 1)) (h0 : 0 ≤ n) (h9 : n ≤ 2932896) : mO n = m := by
  have s := mO_spec h0 h9
  have c1 := cum_succ (yO n) m h1 h2
  have c2 := cum_succ (yO n) (mO n) s.2.2.1 s.2.2.2
  rcases Int.lt_trichotomy (mO n) m with l | l | l
  · have := cum_step (y := yO n) s.2.2.1 l (by omega); omega
  · exact l
  · have := cum_step (y := yO n) h1 l (by omega); omega

/-- a day later -/
theorem next_day {n : Int} (h0 : 0 ≤ n) (h9 : n + 1 ≤ 2932896) :
    (dO n < mdays (yO n) (mO n) ∧ dO (n + 1) = dO n + 1 ∧ mO (n + 1) = mO n ∧ yO (n + 1) = yO n) ∨
    (dO n = mdays (yO n) (mO n) ∧ mO n < 12 ∧ dO (n + 1) = 1 ∧ mO (n + 1) = mO n + 1 ∧ yO (n + 1) = yO n) ∨
    (dO n = 31 ∧ mO n = 12 ∧ dO (n + 1) = 1 ∧ mO (n + 1) = 1 ∧ yO (n + 1) = yO n + 1) := by
  obtain ⟨r, e⟩ := of_num h0 (by omega)
  obtain ⟨p1, p2, p3, p4, p5, p6⟩ := rd_iff.1 r
  by_cases c : dO n < mdays (yO n) (mO n)
  · left
    have := of_uniq (n := n + 1) (rd_iff.2 ⟨p1, p2, p3, p4, by omega, by omega⟩ : rdB (yO n) (mO n) (dO n + 1) = true) (by unfold num at e ⊢; omega)
    exact ⟨c, this.2.2, this.2.1, this.1⟩
  · have hd : dO n = mdays (yO n) (mO n) := by omega
    have hc := cum_succ (yO n) (mO n) p3 p4
    by_cases c2 : mO n < 12
    · right; left
      have hb := mdays_bd (yO n) (mO n + 1)
      have := of_uniq (n := n + 1) (rd_iff.2 ⟨p1, p2, by omega, by omega, by omega, by omega⟩ : rdB (yO n) (mO n + 1) 1 = true) (by unfold num at e ⊢; omega)
      exact ⟨hd, c2, this.2.2, this.2.1, this.1⟩
    · right; right
      have hm : mO n = 12 := by omega
      have ha := ahead_succ (y := yO n) (by omega)
      rw [hm] at hd hc e
      rw [show (12 : Int) + 1 = 13 by rfl, cum_13] at hc
      have h31 : mdays (yO n) 12 = 31 := by simp [mdays]
      have hy : yO n + 1 ≤ 9999 := by
        refine Int.not_lt.1 fun h => ?_
        have : yO n = 9999 := by omega
        have h10 := ahead_10000
        rw [this] at ha; rw [show (9999 : Int) + 1 = 10000 by rfl] at ha
        unfold num at e; rw [this] at e hc hd h31; omega
      have hb := mdays_bd (yO n + 1) 1
      have := of_uniq (n := n + 1) (rd_iff.2 ⟨by omega, hy, by omega, by omega, by omega, by omega⟩ : rdB (yO n + 1) 1 1 = true) (by unfold num at e ⊢; rw [cum_1]; omega)
      exact ⟨by omega, hm, this.2.2, this.2.1, this.1⟩
end Go.Proofs.YtomcoacndppkcaaGreatDoor.D
