/-
  The calendar's arithmetic, without any program: leap years, the first days of years and months, and that a day has one date.
-/
namespace Go.Proofs.YtlpbmcnojkhdcaaDoor.Cal
set_option linter.unusedVariables false

def lpB (y : Int) : Bool := decide (1700 ≤ y ∧ y ≤ 2200 ∧ y % 4 = 0 ∧ (y % 100 ≠ 0 ∨ y % 400 = 0))
def lp (y : Int) : Int := if lpB y = true then 1 else 0
def mon (y m : Int) : Int := if m = 4 ∨ m = 6 ∨ m = 9 ∨ m = 11 then 30 else if m = 2 then 28 + lp y else 31
def yr (y : Int) : Int := 365 + lp y
def ny (y : Int) : Int := (y - 1700) * 365 + ((y - 1) / 4 - (y - 1) / 100 + (y - 1) / 400 - 412)
def cum (y m : Int) : Int := if m ≤ 1 then 0 else if m = 2 then 31 else (if m = 3 then 59 else if m = 4 then 90 else if m = 5 then 120 else if m = 6 then 151 else if m = 7 then 181 else if m = 8 then 212 else if m = 9 then 243 else if m = 10 then 273 else if m = 11 then 304 else if m = 12 then 334 else 365) + lp y

theorem lp_01 (y : Int) : 0 ≤ lp y ∧ lp y ≤ 1 := by unfold lp; split <;> omega
theorem ny_succ (y : Int) (h1 : 1700 ≤ y) (h2 : y ≤ 2200) : ny (y + 1) = ny y + yr y := by
  unfold ny yr lp
  by_cases h : lpB y = true
  · rw [if_pos h]; simp [lpB] at h; omega
  · rw [if_neg h]; simp [lpB] at h; omega
theorem ny_zero : ny 1700 = 0 := by decide
theorem ny_last : ny 2201 = 182986 := by decide
theorem ny_bd (y : Int) (h1 : 1700 ≤ y) (h2 : y ≤ 2201) : 0 ≤ ny y ∧ ny y ≤ 182986 ∧ (y - 1700) * 365 ≤ ny y ∧ ny y ≤ (y - 1700) * 366 := by unfold ny; omega
theorem ny_mono (a b : Int) (h1 : 1700 ≤ a) (h : a ≤ b) : ny a ≤ ny b := by unfold ny; omega
theorem ny_mono' (a b : Int) (h1 : 1700 ≤ a) (h : a < b) : ny a < ny b := by unfold ny; omega
theorem twelve {m : Int} (h1 : 1 ≤ m) (h2 : m ≤ 12) : m = 1 ∨ m = 2 ∨ m = 3 ∨ m = 4 ∨ m = 5 ∨ m = 6 ∨ m = 7 ∨ m = 8 ∨ m = 9 ∨ m = 10 ∨ m = 11 ∨ m = 12 := by omega
theorem cum_succ (y m : Int) (h1 : 1 ≤ m) (h2 : m ≤ 12) : cum y (m + 1) = cum y m + mon y m := by
  rcases twelve h1 h2 with rfl | rfl | rfl | rfl | rfl | rfl | rfl | rfl | rfl | rfl | rfl | rfl <;> simp [cum, mon] <;> omega
theorem mon_bd (y m : Int) : 28 ≤ mon y m ∧ mon y m ≤ 31 := by
  have := lp_01 y
  unfold mon; (repeat' split) <;> omega
theorem cum_bd (y m : Int) : 0 ≤ cum y m ∧ cum y m ≤ 366 := by
  have := lp_01 y
  unfold cum; (repeat' split) <;> omega
theorem cum_one (y : Int) : cum y 1 = 0 := by simp [cum]
theorem cum_last (y : Int) : cum y 13 = yr y := by simp [cum, yr]
theorem cum_step (y a : Int) (k : Nat) (h1 : 1 ≤ a) (h2 : a + k ≤ 13) : cum y a ≤ cum y (a + k) := by
  induction k with
  | zero => simp
  | succ k ih =>
    have h := ih (by omega)
    have s := cum_succ y (a + k) (by omega) (by omega)
    have b := mon_bd y (a + k)
    rw [show a + ((k + 1 : Nat) : Int) = a + k + 1 by omega]
    omega
theorem cum_mono (y a b : Int) (h1 : 1 ≤ a) (h : a ≤ b) (h2 : b ≤ 13) : cum y a ≤ cum y b := by
  have := cum_step y a (b - a).toNat h1 (by omega)
  rwa [show a + ((b - a).toNat : Int) = b by omega] at this

/-- (y, m, d) is the date of the day. -/
def IsDate (day y m d : Int) : Prop := 1700 ≤ y ∧ y ≤ 2200 ∧ 1 ≤ m ∧ m ≤ 12 ∧ 1 ≤ d ∧ d ≤ mon y m ∧ ny y + cum y m + d - 1 = day

theorem isDate_bounds {day y m d : Int} (h : IsDate day y m d) : ny y ≤ day ∧ day < ny (y + 1) := by
  obtain ⟨y1, y2, m1, m2, d1, d2, e⟩ := h
  have h1 := cum_bd y m
  have h2 := cum_succ y m m1 m2
  have h3 := cum_mono y (m + 1) 13 (by omega) (by omega) (by omega)
  rw [cum_last] at h3
  have h4 := ny_succ y y1 y2
  omega
theorem isDate_unique {day y m d y' m' d' : Int} (h : IsDate day y m d) (h' : IsDate day y' m' d') : y = y' ∧ m = m' ∧ d = d' := by
  have b := isDate_bounds h
  have b' := isDate_bounds h'
  obtain ⟨y1, y2, m1, m2, d1, d2, e⟩ := h
  obtain ⟨y1', y2', m1', m2', d1', d2', e'⟩ := h'
  have hy : y = y' := by
    by_cases c : y < y'
    · have := ny_mono (y + 1) y' (by omega) (by omega); omega
    · by_cases c' : y' < y
      · have := ny_mono (y' + 1) y (by omega) (by omega); omega
      · omega
  subst hy
  have hm : m = m' := by
    have s := cum_succ y m m1 m2
    have s' := cum_succ y m' m1' m2'
    by_cases c : m < m'
    · have := cum_mono y (m + 1) m' (by omega) (by omega) (by omega); omega
    · by_cases c' : m' < m
      · have := cum_mono y (m' + 1) m (by omega) (by omega) (by omega); omega
      · omega
  subst hm
  exact ⟨rfl, rfl, by omega⟩

/-- The day behind a day. -/
theorem isDate_next {day y m d y' m' d' : Int} (h : IsDate day y m d) (h' : IsDate (day + 1) y' m' d') :
    (1 < d' → y' = y ∧ m' = m ∧ d' = d + 1) ∧ (d' = 1 → 1 < m' → y' = y ∧ m' = m + 1 ∧ 28 ≤ d) ∧ (d' = 1 → m' = 1 → y' = y + 1 ∧ m = 12 ∧ d = 31) := by
  have hb := mon_bd y m
  obtain ⟨y1, y2, m1, m2, d1, d2, e⟩ := h
  have key : (d < mon y m ∧ IsDate (day + 1) y m (d + 1)) ∨ (d = mon y m ∧ m < 12 ∧ IsDate (day + 1) y (m + 1) 1) ∨ (d = mon y m ∧ m = 12 ∧ (y < 2200 → IsDate (day + 1) (y + 1) 1 1) ∧ (y = 2200 → day = 182985)) := by
    by_cases c : d < mon y m
    · exact .inl ⟨c, y1, y2, m1, m2, by omega, by omega, by omega⟩
    · have s := cum_succ y m m1 m2
      by_cases c' : m < 12
      · have := mon_bd y (m + 1)
        exact .inr (.inl ⟨by omega, c', y1, y2, by omega, by omega, by omega, by omega, by omega⟩)
      · have c'' : m = 12 := by omega
        subst c''
        rw [show (12 : Int) + 1 = 13 from rfl] at s
        have l := cum_last y
        have n := ny_succ y y1 y2
        refine .inr (.inr ⟨by omega, rfl, ?_, ?_⟩)
        · intro hy
          have o := cum_one (y + 1)
          have := mon_bd (y + 1) 1
          exact ⟨by omega, by omega, by omega, by omega, by omega, by omega, by omega⟩
        · intro hy
          subst hy
          have := ny_last
          rw [show (2200 : Int) + 1 = 2201 from rfl] at n
          omega
  rcases key with ⟨c, k⟩ | ⟨c, c', k⟩ | ⟨c, c', k, k'⟩
  · obtain ⟨rfl, rfl, rfl⟩ := isDate_unique k h'
    exact ⟨fun _ => ⟨rfl, rfl, rfl⟩, fun _ _ => by omega, fun _ _ => by omega⟩
  · obtain ⟨rfl, rfl, rfl⟩ := isDate_unique k h'
    exact ⟨fun _ => by omega, fun _ _ => ⟨rfl, rfl, by omega⟩, fun _ _ => by omega⟩
  · by_cases hy : y < 2200
    · obtain ⟨rfl, rfl, rfl⟩ := isDate_unique (k hy) h'
      refine ⟨fun _ => by omega, fun _ _ => by omega, fun _ _ => ⟨rfl, c', ?_⟩⟩
      rw [c, c']; simp [mon]
    · have := k' (by omega)
      have b := isDate_bounds h'
      have := ny_mono (y' + 1) 2201 (by have := h'.1; omega) (by have := h'.2.1; omega)
      have := ny_last
      omega
end Go.Proofs.YtlpbmcnojkhdcaaDoor.Cal
