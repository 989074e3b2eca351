import PyProof.Rows.All
import Wide.All
import OpenK.AllK
import Wide.FinOn
import HandS.ForMost
import HandS.ForExc
import HandS.Star
import HandS.Gcd
import HandS.Wide
import HandS.IsInst
import HandS.Style
import HandS.Codes
import PySem.Challenge.RW_wheelreach_k04_whole_great_numbers
set_option Elab.async false
set_option linter.all false
set_option maxRecDepth 100000
set_option maxHeartbeats 4000000
/-! Numbers: divisors, multiples, remainders put together, as plain functions, and what holds of them. -/
namespace NM

/-! ### common, multiple -/
def gcdL (ns : List Int) : Nat := ns.foldl (fun g n => Nat.gcd g n.natAbs) 0
def lcmL (ns : List Int) : Nat := ns.foldl (fun g n => Nat.lcm g n.natAbs) 1
theorem gcdL_snoc (l : List Int) (z : Int) : gcdL (l ++ [z]) = Nat.gcd (gcdL l) z.natAbs := by
  unfold gcdL; rw [List.foldl_append]; rfl
theorem lcmL_snoc (l : List Int) (z : Int) : lcmL (l ++ [z]) = Nat.lcm (lcmL l) z.natAbs := by
  unfold lcmL; rw [List.foldl_append]; rfl
theorem take_snoc {α : Type} : ∀ {l : List α} {i : Nat} {x : α}, l[i]? = some x → l.take (i + 1) = l.take i ++ [x]
  | [], i, x, h => by simp at h
  | a :: l, 0, x, h => by
    have e : a = x := Option.some.inj h
    subst e
    rfl
  | a :: l, i + 1, x, h => by
    have ih := take_snoc (l := l) (i := i) (x := x) h
    show a :: l.take (i + 1) = a :: l.take i ++ [x]
    rw [ih]
    rfl
theorem lcm_step {f n : Int} (hf : 0 < f) (hn : 0 < n) : f / ((Nat.gcd f.natAbs n.natAbs : Nat) : Int) * n = ((Nat.lcm f.natAbs n.natAbs : Nat) : Int) := by
  obtain ⟨a, rfl⟩ : ∃ a : Nat, f = (a : Int) := ⟨f.toNat, by omega⟩
  obtain ⟨b, rfl⟩ : ∃ b : Nat, n = (b : Int) := ⟨n.toNat, by omega⟩
  simp only [Int.natAbs_natCast]
  have h := Nat.gcd_dvd_left a b
  rw [← Int.natCast_ediv, ← Int.natCast_mul]
  congr 1
  unfold Nat.lcm
  rw [Nat.mul_comm (a / _) b, Nat.mul_comm a b, Nat.mul_div_assoc _ h]
theorem lcmL_pos {l : List Int} (h : ∀ z ∈ l, 0 < z) : 0 < lcmL l := by
  unfold lcmL
  suffices ∀ (l : List Int) (a : Nat), 0 < a → (∀ z ∈ l, 0 < z) → 0 < l.foldl (fun g n => Nat.lcm g n.natAbs) a from this l 1 (by decide) h
  intro l
  induction l with
  | nil => intro a ha _; exact ha
  | cons z l ih =>
    intro a ha h
    refine ih _ ?_ (fun y hy => h y (List.mem_cons_of_mem _ hy))
    have hz := h z List.mem_cons_self
    exact Nat.lcm_pos ha (by omega)
theorem lcm_le_mul {a b : Nat} (ha : 0 < a) (hb : 0 < b) : Nat.lcm a b ≤ a * b := Nat.le_of_dvd (Nat.mul_pos ha hb) (Nat.lcm_dvd_mul a b)

/-! ### how far from a multiple -/
def apartI (d p : Int) : Int := if p - d % p < d % p then p - d % p else d % p
theorem apart_nn {d p : Int} (hp : 0 < p) : 0 ≤ apartI d p := by
  unfold apartI
  have h1 := Int.emod_nonneg d (show p ≠ 0 by omega)
  have h2 := Int.emod_lt_of_pos d hp
  split <;> omega
theorem apart_half {d p : Int} (hp : 0 < p) : 2 * apartI d p ≤ p := by
  unfold apartI
  have h1 := Int.emod_nonneg d (show p ≠ 0 by omega)
  have h2 := Int.emod_lt_of_pos d hp
  split <;> omega
/-- the nearest multiple is that far away -/
theorem apart_at {d p : Int} (hp : 0 < p) : ∃ k, d = p * k + apartI d p ∨ d = p * k - apartI d p := by
  have e := Int.mul_ediv_add_emod d p
  unfold apartI
  split
  · refine ⟨d / p + 1, .inr ?_⟩
    rw [Int.mul_add]; omega
  · exact ⟨d / p, .inl (by omega)⟩
/-- no multiple is nearer -/
theorem apart_le {d p : Int} (hp : 0 < p) (k a : Int) (h : d = p * k + a) : apartI d p ≤ (a.natAbs : Int) := by
  have e1 : d % p = a % p := by rw [h, Int.add_comm, Int.add_mul_emod_self_left]
  have h1 := Int.emod_nonneg a (show p ≠ 0 by omega)
  have h2 := Int.emod_lt_of_pos a hp
  have e := Int.mul_ediv_add_emod a p
  unfold apartI
  rw [e1]
  by_cases h0 : 0 ≤ a
  · have : a % p ≤ a := by
      have : 0 ≤ a / p := Int.ediv_nonneg h0 (by omega)
      have := Int.mul_nonneg (show 0 ≤ p by omega) this
      omega
    split <;> omega
  · have hq : a / p ≤ -1 := by
      have := Int.ediv_lt_of_lt_mul hp (show a < 0 * p by omega)
      omega
    have : p * (a / p) ≤ p * (-1) := Int.mul_le_mul_of_nonneg_left hq (by omega)
    split <;> omega
theorem apart_neg {d p : Int} (hp : 0 < p) : apartI (-d) p = apartI d p := by
  have aux : ∀ x : Int, apartI (-x) p ≤ apartI x p := fun x => by
    obtain ⟨k, h | h⟩ := apart_at (d := x) hp
    · have := apart_le (d := -x) hp (-k) (-apartI x p) (by rw [Int.mul_neg]; omega)
      have := apart_nn (d := x) hp
      omega
    · have := apart_le (d := -x) hp (-k) (apartI x p) (by rw [Int.mul_neg]; omega)
      have := apart_nn (d := x) hp
      omega
  have h1 := aux d
  have h2 := aux (-d)
  rw [Int.neg_neg] at h2
  omega
theorem apart_round {d p : Int} (hp : 0 < p) (k : Int) : apartI (d + p * k) p = apartI d p := by
  unfold apartI
  rw [Int.add_mul_emod_self_left]
theorem apart_tri {d e p : Int} (hp : 0 < p) : apartI (d + e) p ≤ apartI d p + apartI e p := by
  have n1 := apart_nn (d := d) hp
  have n2 := apart_nn (d := e) hp
  obtain ⟨k, h⟩ := apart_at (d := d) hp
  obtain ⟨l, g⟩ := apart_at (d := e) hp
  have fin : ∀ a : Int, d + e = p * (k + l) + a → (a.natAbs : Int) ≤ apartI d p + apartI e p → apartI (d + e) p ≤ apartI d p + apartI e p := fun a ha hb =>
    Int.le_trans (apart_le hp (k + l) a ha) hb
  have ex : p * (k + l) = p * k + p * l := Int.mul_add _ _ _
  rcases h with h | h <;> rcases g with g | g
  · exact fin (apartI d p + apartI e p) (by rw [ex]; omega) (by omega)
  · exact fin (apartI d p - apartI e p) (by rw [ex]; omega) (by omega)
  · exact fin (-apartI d p + apartI e p) (by rw [ex]; omega) (by omega)
  · exact fin (-apartI d p - apartI e p) (by rw [ex]; omega) (by omega)
theorem apart_mult {p k : Int} (hp : 0 < p) : apartI (p * k) p = 0 := by
  unfold apartI
  rw [Int.mul_emod_right]
  split <;> omega
theorem apart_self {p : Int} (hp : 0 < p) : apartI p p = 0 := by
  have h := apart_mult (k := 1) hp
  rwa [Int.mul_one] at h
theorem apart_reach {d p : Int} (hp : 0 < p) : apartI (d - apartI d p) p = 0 ∨ apartI (d + apartI d p) p = 0 := by
  obtain ⟨k, h | h⟩ := apart_at (d := d) hp
  · left
    have e : d - apartI d p = p * k := by omega
    rw [e]; exact apart_mult hp
  · right
    have e : d + apartI d p = p * k := by omega
    rw [e]; exact apart_mult hp

theorem gcd_emod (a b : Int) : Int.gcd (a % b) b = Int.gcd a b := by
  have e := Int.mul_ediv_add_emod a b
  have h : a % b = a - a / b * b := by rw [Int.mul_comm]; omega
  rw [h]; exact Int.gcd_sub_mul_right_left _ _ _
/-! ### the inverse, by Euclid's division -/
structure Euc (number divisor left right found following : Int) : Prop where
  l : 0 < left
  r : 0 ≤ right
  rl : right < left ∨ left = divisor
  le : left ≤ divisor
  rd : right < divisor
  g : Nat.gcd left.natAbs right.natAbs = Nat.gcd divisor.natAbs number.natAbs
  c1 : divisor ∣ found * number - left
  c2 : divisor ∣ following * number - right
  s : (found ≤ 0 ∧ 0 ≤ following ∧ left * following - right * found = divisor) ∨ (0 ≤ found ∧ following ≤ 0 ∧ right * found - left * following = divisor)
theorem Euc.start {number divisor : Int} (hd : 0 < divisor) : Euc number divisor divisor (number % divisor) 0 1 where
  l := hd
  r := Int.emod_nonneg _ (by omega)
  rl := .inr rfl
  le := Int.le_refl _
  rd := Int.emod_lt_of_pos _ hd
  g := by
    have e := Int.mul_ediv_add_emod number divisor
    have h : ((Nat.gcd divisor.natAbs (number % divisor).natAbs : Nat) : Int) = ((Nat.gcd divisor.natAbs number.natAbs : Nat) : Int) := by
      show ((Int.gcd divisor (number % divisor) : Nat) : Int) = ((Int.gcd divisor number : Nat) : Int)
      congr 1
      rw [Int.gcd_comm, Int.gcd_comm divisor number]
      exact gcd_emod _ _
    exact Int.natCast_inj.mp h
  c1 := ⟨-1, by omega⟩
  c2 := by
    have e := Int.mul_ediv_add_emod number divisor
    exact ⟨number / divisor, by omega⟩
  s := .inl ⟨Int.le_refl _, by omega, by omega⟩
theorem Euc.turn {number divisor left right found following : Int} (E : Euc number divisor left right found following) (h : right ≠ 0) :
    Euc number divisor right (left - left / right * right) following (found - left / right * following) := by
  have hr : 0 < right := by have := E.r; omega
  have e := Int.mul_ediv_add_emod left right
  have em : left - left / right * right = left % right := by rw [Int.mul_comm]; omega
  have h1 := Int.emod_nonneg left (show right ≠ 0 by omega)
  have h2 := Int.emod_lt_of_pos left hr
  have hq : 0 ≤ left / right := Int.ediv_nonneg (Int.le_of_lt E.l) (by omega)
  have lrd := E.rd
  refine ⟨hr, by omega, .inl (by omega), by omega, by omega, ?_, E.c2, ?_, ?_⟩
  · rw [← E.g, em]
    show Int.gcd right (left % right) = Int.gcd left right
    rw [Int.gcd_comm]
    exact gcd_emod _ _
  · obtain ⟨a, ha⟩ := E.c1
    obtain ⟨b, hb⟩ := E.c2
    refine ⟨a - left / right * b, ?_⟩
    rw [Int.sub_mul, Int.mul_sub]
    have x1 : left / right * following * number = left / right * (following * number) := Int.mul_assoc _ _ _
    have x2 : divisor * (left / right * b) = left / right * (divisor * b) := by rw [← Int.mul_assoc, Int.mul_comm divisor, Int.mul_assoc]
    rw [x1, x2, ← hb, ← ha, Int.mul_sub]
    omega
  · have hm : ∀ x : Int, 0 ≤ x → 0 ≤ left / right * x := fun x hx => Int.mul_nonneg hq hx
    have hn : ∀ x : Int, x ≤ 0 → left / right * x ≤ 0 := fun x hx => by
      have := Int.mul_nonneg hq (show 0 ≤ -x by omega)
      rw [Int.mul_neg] at this
      omega
    have y1 : right * (found - left / right * following) = right * found - right * (left / right * following) := Int.mul_sub _ _ _
    have y2 : (left - left / right * right) * following = left * following - left / right * right * following := Int.sub_mul _ _ _
    have y3 : left / right * right * following = right * (left / right * following) := by rw [Int.mul_comm (left / right) right, Int.mul_assoc]
    rcases E.s with ⟨s1, s2, s3⟩ | ⟨s1, s2, s3⟩
    · refine .inr ⟨s2, by have := hm _ s2; omega, ?_⟩
      rw [y1, y2, y3]; omega
    · refine .inl ⟨s2, by have := hn _ s2; omega, ?_⟩
      rw [y1, y2, y3]; omega
theorem Euc.less {number divisor left right found following : Int} (E : Euc number divisor left right found following) (h : right ≠ 0) : (left - left / right * right).toNat < right.toNat := by
  have hr : 0 < right := by have := E.r; omega
  have e := Int.mul_ediv_add_emod left right
  have em : left - left / right * right = left % right := by rw [Int.mul_comm]; omega
  have h1 := Int.emod_nonneg left (show right ≠ 0 by omega)
  have h2 := Int.emod_lt_of_pos left hr
  omega
/-- the sizes -/
theorem Euc.size {number divisor left right found following : Int} (E : Euc number divisor left right found following) : following.natAbs ≤ divisor.natAbs ∧ (right ≠ 0 → found.natAbs ≤ divisor.natAbs) := by
  have l := E.l
  have r := E.r
  have key : ∀ a b c e : Int, 0 < a → 0 ≤ b → 0 ≤ c → 0 ≤ e → a * c + b * e = divisor → c ≤ divisor ∧ (b ≠ 0 → e ≤ divisor) := fun a b c e ha hb hc he h => by
    have p1 := Int.mul_nonneg hb he
    have p2 : c ≤ a * c := by
      have := Int.mul_le_mul_of_nonneg_right (show 1 ≤ a by omega) hc
      omega
    refine ⟨by omega, fun hb0 => ?_⟩
    have p3 : e ≤ b * e := by
      have := Int.mul_le_mul_of_nonneg_right (show 1 ≤ b by omega) he
      omega
    have p4 := Int.mul_nonneg (Int.le_of_lt ha) hc
    omega
  rcases E.s with ⟨s1, s2, s3⟩ | ⟨s1, s2, s3⟩
  · have k := key left right following (-found) l r s2 (by omega) (by rw [Int.mul_neg]; omega)
    exact ⟨by omega, fun h => by have := k.2 h; omega⟩
  · have k := key left right (-following) found l r (by omega) s1 (by rw [Int.mul_neg]; omega)
    exact ⟨by omega, fun h => by have := k.2 h; omega⟩
theorem Euc.fin {number divisor left found following : Int} (E : Euc number divisor left 0 found following) (hg : Nat.gcd divisor.natAbs number.natAbs = 1) : divisor ∣ found * number - 1 := by
  have g := E.g
  rw [hg] at g
  have l := E.l
  have : left = 1 := by
    simp at g
    omega
  have c := E.c1
  rwa [this] at c
end NM

namespace NM
/-! ### remainders put together -/
/-- y leaves each remainder by its divisor -/
def Sol (ps : List (Int × Int)) (y : Int) : Prop := ∀ q ∈ ps, q.2 ∣ y - q.1
/-- the integers that leave them are those that leave found by step -/
structure Tog (ps : List (Int × Int)) (found step : Int) : Prop where
  pos : 0 < step
  lo : 0 ≤ found
  hi : found < step
  sol : ∀ y, Sol ps y ↔ step ∣ y - found
theorem Tog.start : Tog [] 0 1 := ⟨by decide, by decide, by decide, fun y => ⟨fun _ => ⟨y, by omega⟩, fun _ q hq => nomatch hq⟩⟩
theorem sol_snoc {ps : List (Int × Int)} {r d y : Int} : Sol (ps ++ [(r, d)]) y ↔ Sol ps y ∧ d ∣ y - r := by
  unfold Sol
  constructor
  · exact fun h => ⟨fun q hq => h q (List.mem_append_left _ hq), h (r, d) (List.mem_append_right _ List.mem_cons_self)⟩
  · rintro ⟨h1, h2⟩ q hq
    rcases List.mem_append.mp hq with h | h
    · exact h1 q h
    · have e : q = (r, d) := by simpa using h
      rw [e]; exact h2
theorem sol_perm {ps qs : List (Int × Int)} {y : Int} (h : ∀ q, q ∈ qs → q ∈ ps) (s : Sol ps y) : Sol qs y := fun q hq => s q (h q hq)
theorem dvd_ml {a b : Int} (c : Int) (h : a ∣ b) : a ∣ c * b := Int.dvd_trans h (Int.dvd_mul_left c b)
theorem dvd_mr {a b : Int} (c : Int) (h : a ∣ b) : a ∣ b * c := Int.dvd_trans h (Int.dvd_mul_right b c)
theorem gI_pos {a b : Int} (hb : 0 < b) : 0 < ((Int.gcd a b : Nat) : Int) := by
  have : 0 < Int.gcd a b := Int.gcd_pos_of_ne_zero_right a (by omega)
  omega
theorem Tog.none {ps : List (Int × Int)} {found step r d : Int} (T : Tog ps found step) (h : ¬ (((Int.gcd step d : Nat) : Int) ∣ r - found)) (y : Int) : ¬ Sol (ps ++ [(r, d)]) y := by
  intro s
  obtain ⟨s1, s2⟩ := sol_snoc.mp s
  have h1 := Int.dvd_trans (Int.gcd_dvd_left step d) ((T.sol y).mp s1)
  have h2 := Int.dvd_trans (Int.gcd_dvd_right step d) s2
  have := Int.dvd_sub h1 h2
  have e : y - found - (y - r) = r - found := by omega
  rw [e] at this
  exact h this
theorem dvd_cancel {a b c : Int} (ha : 0 < a) : a * b ∣ a * c ↔ b ∣ c := Int.mul_dvd_mul_iff_left (by omega)
theorem Tog.cop {step d : Int} (hd : 0 < d) : Nat.gcd (d / ((Int.gcd step d : Nat) : Int)).natAbs (step / ((Int.gcd step d : Nat) : Int)).natAbs = 1 := by
  have hg := gI_pos (a := step) hd
  have h : Int.gcd (step / ((Int.gcd step d : Nat) : Int)) (d / ((Int.gcd step d : Nat) : Int)) = 1 := by
    have e1 := Int.mul_ediv_cancel' (Int.gcd_dvd_left step d)
    have e2 := Int.mul_ediv_cancel' (Int.gcd_dvd_right step d)
    have e3 : Int.gcd step d = Int.gcd (((Int.gcd step d : Nat) : Int) * (step / ((Int.gcd step d : Nat) : Int))) (((Int.gcd step d : Nat) : Int) * (d / ((Int.gcd step d : Nat) : Int))) := by
      rw [e1, e2]
    rw [Int.gcd_mul_left] at e3
    simp only [Int.natAbs_natCast] at e3
    have hp : 0 < Int.gcd step d := by omega
    exact Nat.eq_of_mul_eq_mul_left hp (by omega)
  rw [Nat.gcd_comm]
  exact h
theorem Tog.some {ps : List (Int × Int)} {found step r d shared rest inv turns : Int} (T : Tog ps found step) (hd : 0 < d) (es : shared = ((Int.gcd step d : Nat) : Int)) (h : shared ∣ r - found) (er : rest = d / shared)
    (hi : rest ∣ inv * (step / shared) - 1) (et : turns = (r - found) / shared * inv % rest) : Tog (ps ++ [(r, d)]) (found + step * turns) (step * rest) := by
  have hg : 0 < shared := by rw [es]; exact gI_pos hd
  have e1 : shared * (step / shared) = step := by rw [es]; exact Int.mul_ediv_cancel' (Int.gcd_dvd_left step d)
  have e2 : shared * rest = d := by rw [er, es]; exact Int.mul_ediv_cancel' (Int.gcd_dvd_right step d)
  have e3 : shared * ((r - found) / shared) = r - found := Int.mul_ediv_cancel' h
  have hrest : 0 < rest := by
    rcases Int.lt_trichotomy rest 0 with z | z | z
    · have := Int.mul_neg_of_pos_of_neg hg z; omega
    · rw [z] at e2; omega
    · exact z
  have t0 : 0 ≤ turns := by rw [et]; exact Int.emod_nonneg _ (by omega)
  have t1 : turns < rest := by rw [et]; exact Int.emod_lt_of_pos _ hrest
  have hs := T.pos
  have st := Int.mul_nonneg (Int.le_of_lt hs) t0
  have lo := T.lo
  have hi' := T.hi
  have st2 : step * (turns + 1) ≤ step * rest := Int.mul_le_mul_of_nonneg_left (by omega) (by omega)
  rw [Int.mul_add, Int.mul_one] at st2
  refine ⟨Int.mul_pos hs hrest, by omega, by omega, fun y => ?_⟩
  -- what turns leaves
  have hturn : rest ∣ turns * (step / shared) - (r - found) / shared := by
    have h1 : rest ∣ (r - found) / shared * inv - turns := by
      rw [et]; exact Int.dvd_self_sub_emod
    have h2 := dvd_mr (step / shared) h1
    have h3 := dvd_ml ((r - found) / shared) hi
    have h4 := Int.dvd_sub h3 h2
    have e : (r - found) / shared * (inv * (step / shared) - 1) - ((r - found) / shared * inv - turns) * (step / shared) = turns * (step / shared) - (r - found) / shared := by
      rw [Int.mul_sub, Int.sub_mul, Int.mul_one, ← Int.mul_assoc]; omega
    rwa [e] at h4
  -- k turns of step meet d as turns do exactly if they leave the same by rest
  have hk : ∀ k : Int, d ∣ found + step * k - r ↔ rest ∣ k - turns := fun k => by
    have x : found + step * k - r = shared * (step / shared * k - (r - found) / shared) := by
      rw [Int.mul_sub, ← Int.mul_assoc, e1, e3]; omega
    rw [x, ← e2, dvd_cancel hg]
    constructor
    · intro h1
      have h2 := Int.dvd_sub h1 hturn
      have e : step / shared * k - (r - found) / shared - (turns * (step / shared) - (r - found) / shared) = step / shared * (k - turns) := by
        rw [Int.mul_sub, Int.mul_comm turns]; omega
      rw [e] at h2
      have h3 := dvd_ml inv h2
      have h4 := dvd_mr (k - turns) hi
      have h5 := Int.dvd_sub h3 h4
      have e' : inv * (step / shared * (k - turns)) - (inv * (step / shared) - 1) * (k - turns) = k - turns := by
        rw [Int.sub_mul, Int.one_mul, ← Int.mul_assoc]; omega
      rwa [e'] at h5
    · intro h1
      have h2 := dvd_ml (step / shared) h1
      have h3 := Int.dvd_add h2 hturn
      have e : step / shared * (k - turns) + (turns * (step / shared) - (r - found) / shared) = step / shared * k - (r - found) / shared := by
        rw [Int.mul_sub, Int.mul_comm turns]; omega
      rwa [e] at h3
  rw [sol_snoc, T.sol y]
  constructor
  · rintro ⟨⟨k, ek⟩, h2⟩
    have ey : y = found + step * k := by omega
    rw [ey] at h2
    have h3 := (hk k).mp h2
    have e : y - (found + step * turns) = step * (k - turns) := by rw [Int.mul_sub]; omega
    rw [e]
    exact (dvd_cancel hs).mpr h3
  · rintro ⟨k, ek⟩
    have ey : y = found + step * (turns + rest * k) := by
      have : step * rest * k = step * (rest * k) := Int.mul_assoc _ _ _
      rw [Int.mul_add]; omega
    refine ⟨⟨turns + rest * k, by omega⟩, ?_⟩
    rw [ey]
    exact (hk _).mpr ⟨k, by omega⟩
/-- what together tells: the least integer from 0 on that leaves each remainder, or that there is none -/
def TogIs (ps : List (Int × Int)) : Option Int → Prop
  | .some x => 0 ≤ x ∧ Sol ps x ∧ ∀ y, 0 ≤ y → Sol ps y → x ≤ y
  | .none => ∀ y, ¬ Sol ps y
theorem Tog.is {ps : List (Int × Int)} {found step : Int} (T : Tog ps found step) : TogIs ps (.some found) := by
  refine ⟨T.lo, (T.sol found).mpr ⟨0, by omega⟩, fun y hy s => ?_⟩
  obtain ⟨k, e⟩ := (T.sol y).mp s
  have hi := T.hi
  have lo := T.lo
  have := T.pos
  by_cases hk : 0 ≤ k
  · have := Int.mul_nonneg (show 0 ≤ step by omega) hk; omega
  · have : step * k ≤ step * (-1) := Int.mul_le_mul_of_nonneg_left (by omega) (by omega)
    omega
theorem togIs_none_mono {ps qs : List (Int × Int)} (h : TogIs ps .none) : TogIs (ps ++ qs) .none := fun y s => h y (sol_perm (fun q hq => List.mem_append_left _ hq) s)
end NM
namespace NM
theorem dvd_lcmL {l : List Int} {z : Int} (h : z ∈ l) : z ∣ ((lcmL l : Nat) : Int) := by
  suffices ∀ (l : List Int) (a : Nat), (a ∣ l.foldl (fun g n => Nat.lcm g n.natAbs) a) ∧ (∀ z ∈ l, z.natAbs ∣ l.foldl (fun g n => Nat.lcm g n.natAbs) a) from
    Int.natAbs_dvd.mp (Int.natCast_dvd_natCast.mpr ((this l 1).2 z h))
  intro l
  induction l with
  | nil => exact fun a => ⟨Nat.dvd_refl a, fun z h => nomatch h⟩
  | cons y l ih =>
    intro a
    have q := ih (Nat.lcm a y.natAbs)
    refine ⟨Nat.dvd_trans (Nat.dvd_lcm_left a y.natAbs) q.1, fun z hz => ?_⟩
    rcases List.mem_cons.mp hz with e | e
    · rw [e]; exact Nat.dvd_trans (Nat.dvd_lcm_right a y.natAbs) q.1
    · exact q.2 z e
theorem lcmL_dvd {l : List Int} {y : Int} (h : ∀ z ∈ l, z ∣ y) : ((lcmL l : Nat) : Int) ∣ y := by
  suffices ∀ (l : List Int) (a : Nat), a ∣ y.natAbs → (∀ z ∈ l, z ∣ y) → l.foldl (fun g n => Nat.lcm g n.natAbs) a ∣ y.natAbs from
    Int.dvd_natAbs.mp (Int.natCast_dvd_natCast.mpr (this l 1 (Nat.one_dvd _) h))
  intro l
  induction l with
  | nil => exact fun a ha _ => ha
  | cons z l ih =>
    intro a ha h
    exact ih _ (Nat.lcm_dvd ha (Int.natAbs_dvd_natAbs.mpr (h z List.mem_cons_self))) fun w hw => h w (List.mem_cons_of_mem _ hw)
theorem TogIs.mod {ps : List (Int × Int)} {o : Option Int} (h : TogIs ps o) {w L : Int} (s : Sol ps w) (hp : 0 < L) (hd : ∀ q ∈ ps, q.2 ∣ L) (hL : ∀ y z, Sol ps y → Sol ps z → L ∣ y - z) : o = .some (w % L) := by
  cases o with
  | none => exact absurd s (h w)
  | some x =>
    obtain ⟨x0, xs, xm⟩ := h
    have e := Int.mul_ediv_add_emod w L
    have n0 := Int.emod_nonneg w (show L ≠ 0 by omega)
    have n1 := Int.emod_lt_of_pos w hp
    have sm : Sol ps (w % L) := fun q hq => by
      have h1 := s q hq
      have h2 := dvd_mr (w / L) (hd q hq)
      have h3 := Int.dvd_sub h1 h2
      have e3 : w - q.1 - L * (w / L) = w % L - q.1 := by omega
      rwa [e3] at h3
    have le := xm _ n0 sm
    obtain ⟨k, hk⟩ := hL _ _ sm xs
    have : k = 0 := by
      rcases Int.lt_trichotomy k 0 with z | z | z
      · have : L * k < 0 := Int.mul_neg_of_pos_of_neg hp z
        omega
      · exact z
      · have : L * 1 ≤ L * k := Int.mul_le_mul_of_nonneg_left (by omega) (by omega)
        omega
    rw [this, Int.mul_zero] at hk
    congr 1
    omega
theorem TogIs.ex {ps : List (Int × Int)} {o : Option Int} (h : TogIs ps o) {w : Int} (s : Sol ps w) : ∃ x, o = .some x ∧ Sol ps x := by
  cases o with
  | none => exact absurd s (h w)
  | some x => exact ⟨x, rfl, h.2.1⟩
/-- two that leave the same by coprime divisors meet -/
theorem bezout {a b : Int} (hb : 0 < b) (h : Nat.gcd b.natAbs a.natAbs = 1) : ∃ u, b ∣ u * a - 1 := by
  suffices ∀ (m : Nat) (l r f g : Int), Euc a b l r f g → r.toNat = m → ∃ u, b ∣ u * a - 1 from this _ _ _ _ _ (Euc.start hb) rfl
  intro m
  induction m using Nat.strongRecOn with
  | ind m ih =>
    intro l r f g E hm
    by_cases h0 : r = 0
    · subst h0; exact ⟨f, E.fin h⟩
    · exact ih _ (by rw [← hm]; exact E.less h0) _ _ _ _ (E.turn h0) rfl
end NM

namespace My
open PySem PySem.Spec PyProof.Rows L2 StX
def top (i : Nat) : Stmt := PySem.Challenge.pw_wheelreach_k04_whole_great_numbers.main.body.getD i (.Pass ⟨0, 0, 0, 0⟩)
abbrev s_is_whole : Stmt := top 5
abbrev s_is_from : Stmt := top 6
abbrev s_common : Stmt := top 7
abbrev s_multiple : Stmt := top 8
abbrev s_apart : Stmt := top 9
abbrev s_is_part : Stmt := top 10
abbrev s_together : Stmt := top 11
abbrev s_inverse : Stmt := top 12
abbrev s_pen : Stmt := top 14
abbrev s_draw : Stmt := top 15
abbrev s_pick : Stmt := top 16
abbrev s_great : Stmt := top 17
abbrev s_remainders_right : Stmt := top 18
abbrev s_divisors_right : Stmt := top 19
abbrev s_apart_right : Stmt := top 20
abbrev s_law : Stmt := top 21
theorem sc_is_whole : FnScope ["value"] ["value"] (defScope s_is_whole) := ⟨rfl, rfl, rfl, by decide +kernel, rfl, by decide +kernel, by decide +kernel⟩
theorem sc_is_from : FnScope ["value", "low"] ["value", "low"] (defScope s_is_from) := ⟨rfl, rfl, rfl, by decide +kernel, rfl, by decide +kernel, by decide +kernel⟩
theorem sc_common : FnScope ["numbers", "number", "found"] ["numbers"] (defScope s_common) := ⟨rfl, rfl, rfl, by decide +kernel, rfl, by decide +kernel, by decide +kernel⟩
theorem sc_multiple : FnScope ["numbers", "number", "found"] ["numbers"] (defScope s_multiple) := ⟨rfl, rfl, rfl, by decide +kernel, rfl, by decide +kernel, by decide +kernel⟩
theorem sc_apart : FnScope ["d", "period", "left"] ["d", "period"] (defScope s_apart) := ⟨rfl, rfl, rfl, by decide +kernel, rfl, by decide +kernel, by decide +kernel⟩
theorem sc_is_part : FnScope ["value"] ["value"] (defScope s_is_part) := ⟨rfl, rfl, rfl, by decide +kernel, rfl, by decide +kernel, by decide +kernel⟩
theorem sc_together : FnScope ["parts", "part", "found", "step", "remainder", "divisor", "shared", "away", "rest", "turns"] ["parts"] (defScope s_together) := ⟨rfl, rfl, rfl, by decide +kernel, rfl, by decide +kernel, by decide +kernel⟩
theorem sc_inverse : FnScope ["number", "divisor", "left", "right", "found", "following", "turns"] ["number", "divisor"] (defScope s_inverse) := ⟨rfl, rfl, rfl, by decide +kernel, rfl, by decide +kernel, by decide +kernel⟩
theorem sc_pen : FnScope ["_law_script"] ["_law_script"] (defScope s_pen) := ⟨rfl, rfl, rfl, by decide +kernel, rfl, by decide +kernel, by decide +kernel⟩
theorem sc_draw : FnScope ["_law_pen_here", "_law_many", "_law_digit", "_law_begun", "_law_raw", "_law_great_here", "_law_stirred"] ["_law_pen_here", "_law_many"] (defScope s_draw) := ⟨rfl, rfl, rfl, by decide +kernel, rfl, by decide +kernel, by decide +kernel⟩
theorem sc_pick : FnScope ["_law_pen_here", "_law_some"] ["_law_pen_here", "_law_some"] (defScope s_pick) := ⟨rfl, rfl, rfl, by decide +kernel, rfl, by decide +kernel, by decide +kernel⟩
theorem sc_great : FnScope ["_law_pen_here", "_law_found", "_law_turn"] ["_law_pen_here"] (defScope s_great) := ⟨rfl, rfl, rfl, by decide +kernel, rfl, by decide +kernel, by decide +kernel⟩
theorem sc_remainders_right : FnScope ["_law_pen_here", "_law_whole", "_law_one", "_law_two", "_law_three", "_law_round_so", "_law_parts", "_law_found", "_law_bent", "_law_shared"] ["_law_pen_here"] (defScope s_remainders_right) := ⟨rfl, rfl, rfl, by decide +kernel, rfl, by decide +kernel, by decide +kernel⟩
theorem sc_divisors_right : FnScope ["_law_pen_here", "_law_one", "_law_two", "_law_three"] ["_law_pen_here"] (defScope s_divisors_right) := ⟨rfl, rfl, rfl, by decide +kernel, rfl, by decide +kernel, by decide +kernel⟩
theorem sc_apart_right : FnScope ["_law_pen_here", "_law_period", "_law_d", "_law_more", "_law_gap"] ["_law_pen_here"] (defScope s_apart_right) := ⟨rfl, rfl, rfl, by decide +kernel, rfl, by decide +kernel, by decide +kernel⟩
theorem sc_law : FnScope ["_law_script", "_law_pen_here", "_law_turn"] ["_law_script"] (defScope s_law) := ⟨rfl, rfl, rfl, by decide +kernel, rfl, by decide +kernel, by decide +kernel⟩
/-- what the top has written -/
structure Txt (K : PySem.W.Frag) (mg : Str → Option Value) where
  a_is_whole : Addr
  fd_is_whole : FuncData
  F_is_whole : Fun K "is_whole" "is_whole" s_is_whole a_is_whole fd_is_whole
  m_is_whole : mg "is_whole" = some (.ref a_is_whole)
  a_is_from : Addr
  fd_is_from : FuncData
  F_is_from : Fun K "is_from" "is_from" s_is_from a_is_from fd_is_from
  m_is_from : mg "is_from" = some (.ref a_is_from)
  a_common : Addr
  fd_common : FuncData
  F_common : Fun K "common" "common" s_common a_common fd_common
  m_common : mg "common" = some (.ref a_common)
  a_multiple : Addr
  fd_multiple : FuncData
  F_multiple : Fun K "multiple" "multiple" s_multiple a_multiple fd_multiple
  m_multiple : mg "multiple" = some (.ref a_multiple)
  a_apart : Addr
  fd_apart : FuncData
  F_apart : Fun K "apart" "apart" s_apart a_apart fd_apart
  m_apart : mg "apart" = some (.ref a_apart)
  a_is_part : Addr
  fd_is_part : FuncData
  F_is_part : Fun K "is_part" "is_part" s_is_part a_is_part fd_is_part
  m_is_part : mg "is_part" = some (.ref a_is_part)
  a_together : Addr
  fd_together : FuncData
  F_together : Fun K "together" "together" s_together a_together fd_together
  m_together : mg "together" = some (.ref a_together)
  a_inverse : Addr
  fd_inverse : FuncData
  F_inverse : Fun K "inverse" "inverse" s_inverse a_inverse fd_inverse
  m_inverse : mg "inverse" = some (.ref a_inverse)
  a_pen : Addr
  fd_pen : FuncData
  F_pen : Fun K "_law_pen" "_law_pen" s_pen a_pen fd_pen
  m_pen : mg "_law_pen" = some (.ref a_pen)
  a_draw : Addr
  fd_draw : FuncData
  F_draw : Fun K "_law_draw" "_law_draw" s_draw a_draw fd_draw
  m_draw : mg "_law_draw" = some (.ref a_draw)
  a_pick : Addr
  fd_pick : FuncData
  F_pick : Fun K "_law_pick" "_law_pick" s_pick a_pick fd_pick
  m_pick : mg "_law_pick" = some (.ref a_pick)
  a_great : Addr
  fd_great : FuncData
  F_great : Fun K "_law_great" "_law_great" s_great a_great fd_great
  m_great : mg "_law_great" = some (.ref a_great)
  a_remainders_right : Addr
  fd_remainders_right : FuncData
  F_remainders_right : Fun K "_law_remainders_right" "_law_remainders_right" s_remainders_right a_remainders_right fd_remainders_right
  m_remainders_right : mg "_law_remainders_right" = some (.ref a_remainders_right)
  a_divisors_right : Addr
  fd_divisors_right : FuncData
  F_divisors_right : Fun K "_law_divisors_right" "_law_divisors_right" s_divisors_right a_divisors_right fd_divisors_right
  m_divisors_right : mg "_law_divisors_right" = some (.ref a_divisors_right)
  a_apart_right : Addr
  fd_apart_right : FuncData
  F_apart_right : Fun K "_law_apart_right" "_law_apart_right" s_apart_right a_apart_right fd_apart_right
  m_apart_right : mg "_law_apart_right" = some (.ref a_apart_right)
  a_law : Addr
  fd_law : FuncData
  F_law : Fun K "law" "law" s_law a_law fd_law
  m_law : mg "law" = some (.ref a_law)
  m_gcd : mg "gcd" = some (.builtin "math.gcd")
  n_ValueError : mg "ValueError" = none
  n_abs : mg "abs" = none
  n_bool : mg "bool" = none
  n_int : mg "int" = none
  n_isinstance : mg "isinstance" = none
  n_len : mg "len" = none
  n_list : mg "list" = none
  n_min : mg "min" = none
  n_range : mg "range" = none
  n_tuple : mg "tuple" = none
section
variable {P : Program} {w : World} {K : PySem.W.Frag} {mg : Str → Option Value} {base : Heap}
theorem b_is_whole (T : Txt K mg) : Binds K T.fd_is_whole ["value"] [] := T.F_is_whole.binds (ps := ["value"]) fun _ _ _ _ _ _ us hl => match us, hl with | [_], _ => rfl
theorem b_is_from (T : Txt K mg) : Binds K T.fd_is_from ["value", "low"] [] := T.F_is_from.binds (ps := ["value", "low"]) fun _ _ _ _ _ _ us hl => match us, hl with | [_, _], _ => rfl
theorem b_apart (T : Txt K mg) : Binds K T.fd_apart ["d", "period"] [] := T.F_apart.binds (ps := ["d", "period"]) fun _ _ _ _ _ _ us hl => match us, hl with | [_, _], _ => rfl
theorem b_is_part (T : Txt K mg) : Binds K T.fd_is_part ["value"] [] := T.F_is_part.binds (ps := ["value"]) fun _ _ _ _ _ _ us hl => match us, hl with | [_], _ => rfl
theorem b_inverse (T : Txt K mg) : Binds K T.fd_inverse ["number", "divisor"] [] := T.F_inverse.binds (ps := ["number", "divisor"]) fun _ _ _ _ _ _ us hl => match us, hl with | [_, _], _ => rfl
theorem b_pen (T : Txt K mg) : Binds K T.fd_pen ["_law_script"] [] := T.F_pen.binds (ps := ["_law_script"]) fun _ _ _ _ _ _ us hl => match us, hl with | [_], _ => rfl
theorem b_draw (T : Txt K mg) : Binds K T.fd_draw ["_law_pen_here", "_law_many"] [] := T.F_draw.binds (ps := ["_law_pen_here", "_law_many"]) fun _ _ _ _ _ _ us hl => match us, hl with | [_, _], _ => rfl
theorem b_pick (T : Txt K mg) : Binds K T.fd_pick ["_law_pen_here", "_law_some"] [] := T.F_pick.binds (ps := ["_law_pen_here", "_law_some"]) fun _ _ _ _ _ _ us hl => match us, hl with | [_, _], _ => rfl
theorem b_great (T : Txt K mg) : Binds K T.fd_great ["_law_pen_here"] [] := T.F_great.binds (ps := ["_law_pen_here"]) fun _ _ _ _ _ _ us hl => match us, hl with | [_], _ => rfl
theorem b_remainders_right (T : Txt K mg) : Binds K T.fd_remainders_right ["_law_pen_here"] [] := T.F_remainders_right.binds (ps := ["_law_pen_here"]) fun _ _ _ _ _ _ us hl => match us, hl with | [_], _ => rfl
theorem b_divisors_right (T : Txt K mg) : Binds K T.fd_divisors_right ["_law_pen_here"] [] := T.F_divisors_right.binds (ps := ["_law_pen_here"]) fun _ _ _ _ _ _ us hl => match us, hl with | [_], _ => rfl
theorem b_apart_right (T : Txt K mg) : Binds K T.fd_apart_right ["_law_pen_here"] [] := T.F_apart_right.binds (ps := ["_law_pen_here"]) fun _ _ _ _ _ _ us hl => match us, hl with | [_], _ => rfl
theorem b_law (T : Txt K mg) : Binds K T.fd_law ["_law_script"] [] := T.F_law.binds (ps := ["_law_script"]) fun _ _ _ _ _ _ us hl => match us, hl with | [_], _ => rfl
/-! ### rules and words of our own -/
/-- x(e, ..), x a def whose promise is told of the arguments as they are passed -/
theorem pe_callR {X : Cx} {CX : CXT} {k : Nat} {f : Addr} {sp : Sp} {E : XK} {x : Str} {e : Expr} {es : List Expr} {t : TA} {p pos : Pos} (F : FnR X.prog X.w X.K X.mg X.base CX k f sp) (hr : Room k X.A) (hk : PySem.W.keepIn X.K (.ref f) = true) (hg : Gl X x) (hm : X.mg x = some (.ref f)) (hx : Passes CX X E)
    (ha : PA X (e :: es) t) (hd : (x == ("__debug__" : Str)) = false := by decide) (he : starEach (e :: es) X.env = (false, eval e X.env) :: starEach es X.env := by rfl) (hpl : (backTo pos (starEach es X.env)).any (·.1) = false := by rfl) :
    PE X (.Call (.Name x p) (e :: es) [] pos) (fun σ H Q => t σ H fun vs H1 => sp vs H1 Q E) := by
  refine ⟨fun pins s σ H Q I h => ?_⟩
  refine wpAny_Call_Name_kw (ld_glob I hg hm ?_ hd)
  refine PySem.W.callWith_K (h₀ := X.base) I.ok.mod.kin hk (thn (ha.run pos pins s σ H _ I h) fun us s1 ⟨vs, H1, I1, r, q⟩ => ⟨I1.kIn, ?_⟩) he hpl
  exact wpAny_call (run_fnR F hr hx I1 r q)
theorem pe_callR0 {X : Cx} {CX : CXT} {k : Nat} {f : Addr} {sp : Sp} {E : XK} {x : Str} {p pos : Pos} (F : FnR X.prog X.w X.K X.mg X.base CX k f sp) (hr : Room k X.A) (hk : PySem.W.keepIn X.K (.ref f) = true) (hg : Gl X x) (hm : X.mg x = some (.ref f)) (hx : Passes CX X E)
    (hd : (x == ("__debug__" : Str)) = false := by decide) : PE X (.Call (.Name x p) [] [] pos) (fun σ H Q => sp [] H Q E) := by
  refine ⟨fun pins s σ H Q I h => ?_⟩
  refine wpAny_Call_Name_kw (ld_glob I hg hm ?_ hd)
  exact PySem.W.callWith_K0 I.kIn hk (wpAny_call (run_fnR (us := []) F hr hx I .nil h))
/-- def f(*v) of the text -/
theorem star_ok {P : Program} {w : World} {K : PySem.W.Frag} {mg : Str → Option Value} {base : Heap} {k : Nat} {x qual pv : Str} {st : Stmt} {f : Addr} {fd : FuncData} {N : List Str} {sp : List V → Hp → VK → XK → Prop}
    (F : Fun K x qual st f fd) (S : FnScope N [pv] (defScope st))
    (hb : ∀ (kV doc pm : Value) (an : Option Addr) (cdv ct : Value) (rest : List Value), bindArgs (PySem.W.fnOf x qual (defArgs st) (defBody st) (defScope st) .none kV doc pm an cdv ct) ⟨rest, []⟩ = (newTuple rest >>= fun t => pure [(pv, t)]))
    (hbody : ∀ (cdv : Value) (A : Around) (outer : List Env) (s : Shared) (H : Hp) (vs : List V) (p : Addr) (H0 : Hp) (Q : VK) (E : XK), Room k (A.deeper (envOfC qual (defScope st) s.heap.objs.size f cdv)) → sp vs H0 Q E → vs.length ≤ sizeLine → H0 p = Option.none → H = upd H0 p (.tup vs) →
      ∃ t, PSs (cxOf CX0 P w K mg base N qual (defScope st) f cdv A outer s H E).nox (defBody st) t ∧ t { nx := fun _ H' => Q .non H', rt := Q } (start N [V.ref p]) H) :
    FnR P w K mg base CX0 (k + 1) f (fun vs H Q E => vs.length ≤ sizeLine ∧ sp vs H Q E) := by
  obtain ⟨oc, od, kV, doc, pm, an, cdv, ct, osl, rfl, lk, hcd⟩ := F.ex
  refine FnR.imp (fn_star (ps := []) (pv := pv) (CX := CX0) (sp := fun ws H Q E => ∃ (vs : List V) (p : Addr) (H0 : Hp), ws = [V.ref p] ∧ sp vs H0 Q E ∧ vs.length ≤ sizeLine ∧ H0 p = Option.none ∧ H = upd H0 p (.tup vs)) lk hcd S cxUp_none (fun us rest hl => ?_) fun A outer s H vs Q E hr h => ?_) fun vs H Q E h => ?_
  · have e : us = [] := List.length_eq_zero_iff.mp hl
    subst e
    show bindArgs _ ⟨rest, []⟩ = _
    rw [hb]
    rfl
  · obtain ⟨ws, p, H0, rfl, hs, hl, hp, rfl⟩ := h
    obtain ⟨t, ht, hq⟩ := hbody cdv A outer s _ ws p H0 Q E hr hs hl hp rfl
    exact ⟨t, ht.nox, hq⟩
  · exact ⟨[], vs, rfl, rfl, h.1, fun p hp => ⟨vs, p, H, rfl, h.2, h.1, hp, rfl⟩⟩
/-- all but p is as it was -/
def Fr (p : Addr) (H H' : Hp) : Prop := ∀ b o, b ≠ p → H b = some o → H' b = some o
theorem Fr.refl (p : Addr) (H : Hp) : Fr p H H := fun _ _ _ h => h
theorem Fr.trans {p : Addr} {H H1 H2 : Hp} (a : Fr p H H1) (b : Fr p H1 H2) : Fr p H H2 := fun c o n h => b c o n (a c o n h)
theorem same_fr {p : Addr} {H H' : Hp} (s : Same H H') : Fr p H H' := fun b o _ h => s b o h
theorem same_new {H : Hp} {p : Addr} {o : HO} (h : H p = Option.none) : Same H (upd H p o) := fun b u e => by
  rw [upd_ne (ne_of_none e h)]; exact e
theorem fr_upd {H : Hp} {p : Addr} {o : HO} : Fr p H (upd H p o) := fun b u n e => by rw [upd_ne n]; exact e
theorem Fr.seq {K : PySem.W.Frag} {p a : Addr} {H H' : Hp} {xs : List V} (e : Fr p H H') (n : a ≠ p) (h : SqL K H a xs) : SqL K H' a xs := by
  rcases h with (h | ⟨o, h⟩) | h
  · exact .inl (.inl (e _ _ n h))
  · exact .inl (.inr ⟨o, e _ _ n h⟩)
  · exact .inr h
/-- the state of the draws: the cells, the index, what is left of a great one -/
def Pen (H : Hp) (p : Addr) (n : Nat) : Prop := ∃ (c : Addr) (ns : List Int) (i g : Int), H p = some (.lst [.ref c, .int i, .int g]) ∧ H c = some (.lst (ns.map V.int)) ∧ 0 ≤ i ∧ i ≤ (n : Int) ∧ 0 ≤ g ∧ ns.length ≤ 63
theorem Pen.same {H H' : Hp} {p : Addr} {n : Nat} (h : Pen H p n) (s : Same H H') : Pen H' p n := by
  obtain ⟨c, ns, i, g, h1, h2, h3⟩ := h
  exact ⟨c, ns, i, g, s _ _ h1, s _ _ h2, h3⟩
theorem Pen.mono {H : Hp} {p : Addr} {n m : Nat} (h : Pen H p n) (l : n ≤ m) : Pen H p m := by
  obtain ⟨c, ns, i, g, h1, h2, h3, h4, h5⟩ := h
  exact ⟨c, ns, i, g, h1, h2, h3, by omega, h5⟩
theorem pen_ne {H : Hp} {p c : Addr} {x y : V} {a : Addr} {ns : List Int} (h1 : H p = some (.lst [.ref a, x, y])) (h2 : H c = some (.lst (ns.map V.int))) : c ≠ p := fun e => by
  rw [e, h1] at h2
  cases ns with
  | nil => cases h2
  | cons z r => injection h2 with h2; injection h2 with h2; injection h2 with h2; cases h2
theorem Pen.at {H : Hp} {p : Addr} {n : Nat} (h : Pen H p n) : ∃ xs, H p = some (.lst xs) := by
  obtain ⟨c, ns, i, g, h1, _⟩ := h
  exact ⟨_, h1⟩
theorem Pen.neq {H : Hp} {p a : Addr} {n : Nat} (h : Pen H p n) (e : H a = Option.none) : a ≠ p := fun z => by
  obtain ⟨xs, h⟩ := h.at
  rw [z, h] at e; cases e
theorem if_true_of {c : Bool} {A B : Prop} (hc : c = true) (h : A) : if c = true then A else B := by
  rw [if_pos hc]; exact h
theorem if_false_of {c : Bool} {A B : Prop} (hc : c = false) (h : B) : if c = true then A else B := by
  rw [hc, if_neg Bool.false_ne_true]; exact h
theorem log_mul {i j : Int} (h : i.natAbs.log2 + j.natAbs.log2 < 1000000) : CMulW i j := h
theorem atI_in {ns : List Int} {j : Int} (h0 : 0 ≤ j) (h1 : j < (ns.length : Int)) : ∃ z, atI (ns.map V.int) j = some (V.int z) := by
  have h : j.toNat < ns.length := by omega
  exact ⟨ns[j.toNat], at_of (j := j.toNat) (by omega) (by rw [List.getElem?_map]; simp [h])⟩
theorem atI_any {xs : List V} {j : Int} (h0 : 0 ≤ j) (h1 : j < (xs.length : Int)) : ∃ z, z ∈ xs ∧ atI xs j = some z := by
  have h : j.toNat < xs.length := by omega
  exact ⟨xs[j.toNat], List.getElem_mem h, at_of (j := j.toNat) (by omega) (by simp [h])⟩
theorem cut_ints (ns : List Int) (lo hi : Option Int) : ∃ ms : List Int, cutV (ns.map V.int) lo hi = ms.map V.int ∧ ms.length ≤ ns.length := by
  refine ⟨(ns.drop (HT.sIx (ns.map V.int).length 0 lo)).take (HT.sIx (ns.map V.int).length (ns.map V.int).length hi - HT.sIx (ns.map V.int).length 0 lo), ?_, ?_⟩
  · unfold cutV
    rw [List.map_take, List.map_drop]
  · rw [List.length_take, List.length_drop]
    omega
theorem stir1 {r b d e : Int} (h0 : 0 ≤ r) (h1 : r < 2147483648) (b0 : 0 ≤ b) (b1 : b ≤ 100000) (d0 : 0 ≤ d) (d1 : d ≤ 100000) (e0 : 0 ≤ e) (e1 : e ≤ 100000) : (r + d * b + e).natAbs < 2 ^ 64 := by
  have h2 := Int.mul_nonneg d0 b0
  have h3 : d * b ≤ d * 100000 := Int.mul_le_mul_of_nonneg_left b1 d0
  omega
theorem stir2 {s b c d e : Int} (h0 : 0 ≤ s) (h1 : s < 2147483648) (b0 : 0 ≤ b) (b1 : b ≤ 100000) (c0 : 0 ≤ c) (c1 : c ≤ 100000) (d0 : 0 ≤ d) (d1 : d ≤ 100000) (e0 : 0 ≤ e) (e1 : e ≤ 100000) : (s * (2 * b + c) + d * b * b + e).natAbs < 2 ^ 64 := by
  have h2 := Int.mul_nonneg h0 (show 0 ≤ 2 * b + c by omega)
  have h3 : s * (2 * b + c) ≤ 2147483648 * (2 * b + c) := Int.mul_le_mul_of_nonneg_right (by omega) (by omega)
  have h4 := Int.mul_nonneg d0 b0
  have h5 := Int.mul_nonneg h4 b0
  have h6 : d * b ≤ d * 100000 := Int.mul_le_mul_of_nonneg_left b1 d0
  have h7 : d * b * b ≤ d * b * 100000 := Int.mul_le_mul_of_nonneg_left b1 h4
  omega
theorem small64 {i : Int} (h0 : 0 ≤ i) (h1 : i < 2147483648) : -(2 ^ 64) < i ∧ i < 2 ^ 64 := by omega
theorem fmod_pos {x m : Int} (hm : 0 < m) : 0 ≤ x.fmod m ∧ x.fmod m < m := by
  rw [Int.fmod_eq_emod_of_nonneg x (by omega)]
  exact ⟨Int.emod_nonneg _ (by omega), Int.emod_lt_of_pos _ hm⟩
theorem dp_ints {K : PySem.W.Frag} {H : Hp} : ∀ ns : List Int, DpAll K H (ns.map V.int) (ns.map PyData.int)
  | [] => .nil
  | z :: r => .cons (.int z) (dp_ints r)
theorem eqvAll_ints : ∀ ns : List Int, PyData.eqvAll (ns.map PyData.int) (ns.map PyData.int) = true
  | [] => by simp [PyData.eqvAll]
  | z :: r => by simp [PyData.eqvAll, PyData.eqv, eqvAll_ints r]
theorem eqv_ints (ns : List Int) : PyData.eqv (.list (ns.map PyData.int)) (.list (ns.map PyData.int)) = true := by
  rw [PyData.eqv]; exact eqvAll_ints ns

--CUT
/-! ### numbers -/
def spWhole : Sp := fun vs H Q _ => ∃ i : Int, vs = [.int i] ∧ Q (.bl true) H
theorem ok_is_whole (T : Txt K mg) : FnOk P w K mg base CX0 1 T.a_is_whole T.fd_is_whole ["value"] spWhole := by
  refine T.F_is_whole.ok sc_is_whole (fun vs H Q E h => ?_) (fun cdv A outer s H vs Q E hr h => ?_)
  · obtain ⟨i, rfl, _⟩ := h; rfl
  · obtain ⟨i, rfl, k⟩ := h
    refine ⟨_, pss_one (ps_ret (pe_and (pe_callB call_isi (by rfl) T.n_isinstance (by decide +kernel) (pa_cons (pv 0) (pa_cons (pe_bltn (v := .ty "int") (u := .type "int") (by rfl) T.n_int (by decide +kernel) rfl) (pa_nil)))) (pe_one (pe_not (pe_callB call_isi (by rfl) T.n_isinstance (by decide +kernel) (pa_cons (pv 0) (pa_cons (pe_bltn (v := .ty "bool") (u := .type "bool") (by rfl) T.n_bool (by decide +kernel) rfl) (pa_nil)))))))), ?_⟩
    refine ⟨_, rfl, .int i, .ty "int", .type "int", .type "int", true, rfl, .ty _, .base (.int i), kit_ty (by decide +kernel), true, rfl, iteT ?_⟩
    exact ⟨_, rfl, .int i, .ty "bool", .type "int", .type "bool", false, rfl, .ty _, .base (.int i), kit_ty (by decide +kernel), false, rfl, k⟩
def spFrom : Sp := fun vs H Q _ => ∃ i l : Int, vs = [.int i, .int l] ∧ Q (.bl (decide (l ≤ i))) H
theorem ok_is_from (T : Txt K mg) : FnOk P w K mg base CX0 2 T.a_is_from T.fd_is_from ["value", "low"] spFrom := by
  refine T.F_is_from.ok sc_is_from (fun vs H Q E h => ?_) (fun cdv A outer s H vs Q E hr h => ?_)
  · obtain ⟨i, l, rfl, _⟩ := h; rfl
  · obtain ⟨i, l, rfl, k⟩ := h
    refine ⟨_, pss_one (ps_ret (pe_and (pe_call (ok_is_whole T) (hr.mono (by decide)) rfl T.m_is_whole T.F_is_whole.kp (b_is_whole T) .nil pass0 (pa_cons (pv 0) (pa_nil))) (pe_one (pe_cmpR op_ge (pv 0) (pv 1) (nomark _))))), ?_⟩
    refine ⟨_, rfl, i, rfl, true, rfl, iteT ⟨_, rfl, _, rfl, _, _, rfl, rfl, k⟩⟩
--CUT
theorem map_get {ns : List Int} {i : Nat} {y : V} (hi : (ns.map V.int)[i]? = some y) : ∃ z, ns[i]? = some z ∧ y = V.int z := by
  rw [List.getElem?_map] at hi
  cases e : ns[i]? with
  | none => rw [e] at hi; cases hi
  | some z => rw [e] at hi; exact ⟨z, rfl, (Option.some.inj hi).symm⟩
def spCommon : Sp := fun vs H Q _ => ∃ ns : List Int, vs = ns.map V.int ∧ ∀ H', Same H H' → Q (.int (NM.gcdL ns)) H'
theorem ok_common (T : Txt K mg) : FnR P w K mg base CX0 4 T.a_common (fun vs H Q E => vs.length ≤ sizeLine ∧ spCommon vs H Q E) := by
  refine star_ok T.F_common sc_common (fun _ _ _ _ _ _ rest => ?_) (fun cdv A outer s H vs p H0 Q E hr h hl hp eH => ?_)
  · cases rest <;> rfl
  · obtain ⟨ns, rfl, k⟩ := h
    subst eH
    have s0 : Same H0 (upd H0 p (.tup (ns.map V.int))) := same_new hp
    have hT : SqT K (upd H0 p (.tup (ns.map V.int))) p (ns.map V.int) := SqT.of upd_same
    refine ⟨_, pss_cons (ps_for PassesOwn.never rfl (pi_tup (pv 0)) (pg_name (i := 1) sc_common.nd rfl (Or.inl rfl)) (pss_one (ps_if (pt_not (pt_val (pe_call (ok_is_whole T) (hr.mono (by decide)) rfl T.m_is_whole T.F_is_whole.kp (b_is_whole T) .nil pass0 (pa_cons (pv 1) (pa_nil))))) (pss_one (ps_never)) (pss_nil))))
      (pss_cons (ps_set (i := 2) sc_common.nd rfl (Or.inl rfl) (pe_int))
      (pss_cons (ps_for PassesOwn.never rfl (pi_tup (pv 0)) (pg_name (i := 1) sc_common.nd rfl (Or.inl rfl)) (pss_one (ps_set (i := 2) sc_common.nd rfl (Or.inl rfl) (pe_callBfun cr_gcd (by rfl) T.m_gcd (pa_cons (pv 2) (pa_cons (pv 1) (pa_nil)))))))
      (pss_one (ps_ret (pv 2))))), ?_⟩
    refine ⟨_, rfl, p, rfl, ⟨_, hT⟩, for_tup (K := K) (a := p) (xs := ns.map V.int) (fun i σ H' => H' = upd H0 p (.tup (ns.map V.int)) ∧ ∃ v, σ = [some (.ref p), v, Option.none]) ⟨rfl, Option.none, rfl⟩ (fun _ _ _ _ h => h.1 ▸ hT) ?_ ?_⟩
    · rintro i y σ H' hi ⟨rfl, v, rfl⟩
      obtain ⟨z, hz, rfl⟩ := map_get hi
      exact ⟨_, rfl, z, rfl, true, rfl, iteF ⟨rfl, _, rfl⟩⟩
    · rintro σ H' ⟨rfl, v, rfl⟩
      refine ⟨_, rfl, p, rfl, ⟨_, hT⟩, for_tup (K := K) (a := p) (xs := ns.map V.int) (fun i σ H' => H' = upd H0 p (.tup (ns.map V.int)) ∧ ∃ v, σ = [some (.ref p), v, some (.int (NM.gcdL (ns.take i)))]) ⟨rfl, _, rfl⟩ (fun _ _ _ _ h => h.1 ▸ hT) ?_ ?_⟩
      · rintro i y σ H' hi ⟨rfl, v, rfl⟩
        obtain ⟨z, hz, rfl⟩ := map_get hi
        refine ⟨_, rfl, _, rfl, _, _, rfl, rfl, some (.int z), ?_⟩
        rw [NM.take_snoc hz, NM.gcdL_snoc]
        rfl
      · rintro σ H' ⟨rfl, v, rfl⟩
        rw [List.length_map, List.take_length]
        exact ⟨_, rfl, k _ s0⟩
/-- a size in bits -/
theorem lcmL_size {b : Nat} (l : List Int) (h : ∀ z ∈ l, 0 < z ∧ z.natAbs < 2 ^ b) : NM.lcmL l ≤ 2 ^ (b * l.length) := by
  suffices ∀ (l : List Int) (a : Nat), 0 < a → (∀ z ∈ l, 0 < z ∧ z.natAbs < 2 ^ b) → l.foldl (fun g n => Nat.lcm g n.natAbs) a ≤ a * 2 ^ (b * l.length) from by
    have q := this l 1 (by decide) h
    rw [Nat.one_mul] at q
    exact q
  intro l
  induction l with
  | nil => intro a ha _; simp
  | cons z l ih =>
    intro a ha h
    have hz := h z List.mem_cons_self
    have hp : 0 < Nat.lcm a z.natAbs := Nat.lcm_pos ha (by omega)
    refine Nat.le_trans (ih _ hp fun y hy => h y (List.mem_cons_of_mem _ hy)) ?_
    rw [List.length_cons, Nat.mul_add, Nat.mul_one, Nat.pow_add, Nat.mul_comm (2 ^ (b * l.length)), ← Nat.mul_assoc]
    refine Nat.mul_le_mul_right _ (Nat.le_trans (NM.lcm_le_mul ha (by omega)) (Nat.mul_le_mul_left _ (Nat.le_of_lt hz.2)))
def spMultiple : Sp := fun vs H Q _ => ∃ ns : List Int, vs = ns.map V.int ∧ (∀ z ∈ ns, 0 < z ∧ z.natAbs < 2 ^ 1000) ∧ ns.length ≤ 60 ∧ ∀ H', Same H H' → Q (.int (NM.lcmL ns)) H'
theorem ok_multiple (T : Txt K mg) : FnR P w K mg base CX0 4 T.a_multiple (fun vs H Q E => vs.length ≤ sizeLine ∧ spMultiple vs H Q E) := by
  refine star_ok T.F_multiple sc_multiple (fun _ _ _ _ _ _ rest => ?_) (fun cdv A outer s H vs p H0 Q E hr h hl hp eH => ?_)
  · cases rest <;> rfl
  · obtain ⟨ns, rfl, hns, hlen, k⟩ := h
    subst eH
    have s0 : Same H0 (upd H0 p (.tup (ns.map V.int))) := same_new hp
    have hT : SqT K (upd H0 p (.tup (ns.map V.int))) p (ns.map V.int) := SqT.of upd_same
    have mem : ∀ {i z}, ns[i]? = some z → z ∈ ns := fun h => List.mem_of_getElem? h
    refine ⟨_, pss_cons (ps_for PassesOwn.never rfl (pi_tup (pv 0)) (pg_name (i := 1) sc_multiple.nd rfl (Or.inl rfl)) (pss_one (ps_if (pt_not (pt_val (pe_call (ok_is_from T) (hr.mono (by decide)) rfl T.m_is_from T.F_is_from.kp (b_is_from T) .nil pass0 (pa_cons (pv 1) (pa_cons (pe_int) (pa_nil)))))) (pss_one (ps_never)) (pss_nil))))
      (pss_cons (ps_set (i := 2) sc_multiple.nd rfl (Or.inl rfl) (pe_int))
      (pss_cons (ps_for PassesOwn.never rfl (pi_tup (pv 0)) (pg_name (i := 1) sc_multiple.nd rfl (Or.inl rfl)) (pss_one (ps_set (i := 2) sc_multiple.nd rfl (Or.inl rfl) (pe_op op_mulW (pe_op op_fdivW (pv 2) (pe_callBfun cr_gcd (by rfl) T.m_gcd (pa_cons (pv 2) (pa_cons (pv 1) (pa_nil))))) (pv 1)))))
      (pss_one (ps_ret (pv 2))))), ?_⟩
    refine ⟨_, rfl, p, rfl, ⟨_, hT⟩, for_tup (K := K) (a := p) (xs := ns.map V.int) (fun i σ H' => H' = upd H0 p (.tup (ns.map V.int)) ∧ ∃ v, σ = [some (.ref p), v, Option.none]) ⟨rfl, Option.none, rfl⟩ (fun _ _ _ _ h => h.1 ▸ hT) ?_ ?_⟩
    · rintro i y σ H' hi ⟨rfl, v, rfl⟩
      obtain ⟨z, hz, rfl⟩ := map_get hi
      have h1 := hns z (mem hz)
      refine ⟨_, rfl, z, 1, rfl, decide (1 ≤ z), rfl, ?_⟩
      rw [decide_eq_true (show (1 : Int) ≤ z by omega)]
      exact iteF ⟨rfl, _, rfl⟩
    · rintro σ H' ⟨rfl, v, rfl⟩
      refine ⟨_, rfl, p, rfl, ⟨_, hT⟩, for_tup (K := K) (a := p) (xs := ns.map V.int) (fun i σ H' => H' = upd H0 p (.tup (ns.map V.int)) ∧ ∃ v, σ = [some (.ref p), v, some (.int (NM.lcmL (ns.take i)))]) ⟨rfl, _, rfl⟩ (fun _ _ _ _ h => h.1 ▸ hT) ?_ ?_⟩
      · rintro i y σ H' hi ⟨rfl, v, rfl⟩
        obtain ⟨z, hz, rfl⟩ := map_get hi
        have h1 := hns z (mem hz)
        have hsub : ∀ y ∈ ns.take i, 0 < y ∧ y.natAbs < 2 ^ 1000 := fun y hy => hns y (List.mem_of_mem_take hy)
        have hp : 0 < NM.lcmL (ns.take i) := NM.lcmL_pos fun y hy => (hsub y hy).1
        have hsz := lcmL_size (b := 1000) (ns.take i) hsub
        have hl : (ns.take i).length ≤ 60 := by rw [List.length_take]; omega
        have hsz2 : NM.lcmL (ns.take i) < 2 ^ 60001 := Nat.lt_of_le_of_lt hsz (Nat.pow_lt_pow_right (by decide) (by omega))
        have hgp : 0 < Nat.gcd (NM.lcmL (ns.take i)) z.natAbs := Nat.gcd_pos_of_pos_left _ hp
        have hgl : Nat.gcd (NM.lcmL (ns.take i)) z.natAbs ≤ z.natAbs := Nat.le_of_dvd (by omega) (Nat.gcd_dvd_right _ _)
        refine ⟨_, rfl, _, rfl, _, rfl, _, _, rfl, _, _, rfl, rfl, wide_div (b := 1000) (by show (0 : Int) < ((Nat.gcd (NM.lcmL (ns.take i)) z.natAbs : Nat) : Int); omega) (Nat.lt_of_le_of_lt hgl h1.2) (by decide) (by decide), _, rfl, _, _, rfl, rfl, ?_, rfl, some (.int z), ?_⟩
        · refine wide_mul (a := 60001) (b := 1000) ?_ h1.2 (by decide) (by decide) (by decide)
          refine Nat.lt_of_le_of_lt ?_ hsz2
          show (((NM.lcmL (ns.take i) : Nat) : Int) / ((Nat.gcd (NM.lcmL (ns.take i)) z.natAbs : Nat) : Int)).natAbs ≤ _
          rw [← Int.natCast_ediv, Int.natAbs_natCast]
          exact Nat.div_le_self _ _
        · rw [NM.take_snoc hz, NM.lcmL_snoc]
          have e := NM.lcm_step (f := (NM.lcmL (ns.take i) : Int)) (n := z) (by omega) h1.1
          show [some (V.ref p), some (V.int z), some (V.int (((NM.lcmL (ns.take i) : Nat) : Int) / ((Nat.gcd (NM.lcmL (ns.take i)) z.natAbs : Nat) : Int) * z))] = _
          rw [show ((Nat.gcd (NM.lcmL (ns.take i)) z.natAbs : Nat) : Int) = ((Nat.gcd ((NM.lcmL (ns.take i) : Nat) : Int).natAbs z.natAbs : Nat) : Int) from rfl, e]
          rfl
      · rintro σ H' ⟨rfl, v, rfl⟩
        rw [List.length_map, List.take_length]
        exact ⟨_, rfl, k _ s0⟩
--CUT
def spApart : Sp := fun vs H Q _ => ∃ d p : Int, vs = [.int d, .int p] ∧ 0 < p ∧ Q (.int (NM.apartI d p)) H
theorem ok_apart (T : Txt K mg) : FnOk P w K mg base CX0 4 T.a_apart T.fd_apart ["d", "period"] spApart := by
  refine T.F_apart.ok sc_apart (fun vs H Q E h => ?_) (fun cdv A outer s H vs Q E hr h => ?_)
  · obtain ⟨d, p, rfl, _⟩ := h; rfl
  · obtain ⟨d, p, rfl, hp, k⟩ := h
    refine ⟨_, pss_cons (ps_if (pt_not (pt_val (pe_call (ok_is_whole T) (hr.mono (by decide)) rfl T.m_is_whole T.F_is_whole.kp (b_is_whole T) .nil pass0 (pa_cons (pv 0) (pa_nil))))) (pss_one (ps_never)) (pss_nil))
      (pss_cons (ps_if (pt_not (pt_val (pe_call (ok_is_from T) (hr.mono (by decide)) rfl T.m_is_from T.F_is_from.kp (b_is_from T) .nil pass0 (pa_cons (pv 1) (pa_cons (pe_int) (pa_nil)))))) (pss_one (ps_never)) (pss_nil))
      (pss_cons (ps_set (i := 2) sc_apart.nd rfl (Or.inl rfl) (pe_op op_modN (pv 0) (pv 1)))
      (pss_one (ps_ret (pe_callB (call_min2 rfl) (by rfl) T.n_min (by decide +kernel) (pa_cons (pv 2) (pa_cons (pe_op op_sub (pv 1) (pv 2)) (pa_nil)))))))), ?_⟩
    refine ⟨_, rfl, d, rfl, true, rfl, iteF ?_⟩
    refine ⟨_, rfl, p, 1, rfl, decide (1 ≤ p), rfl, ?_⟩
    rw [decide_eq_true (show (1 : Int) ≤ p by omega)]
    refine iteF ⟨_, rfl, _, rfl, _, _, rfl, rfl, (by omega), ?_⟩
    refine ⟨_, rfl, _, rfl, _, rfl, _, _, rfl, rfl, _, _, rfl, ?_⟩
    have e : d.fmod p = d % p := Int.fmod_eq_emod_of_nonneg d (by omega)
    rw [e]
    exact k
/-- a part, in the heap -/
def spPart (K : PySem.W.Frag) : Sp := fun vs H Q _ => ∃ (a : Addr) (r d : Int), vs = [.ref a] ∧ H a = some (.tup [.int r, .int d]) ∧ 0 < d ∧ Q (.bl true) H
theorem ok_is_part (T : Txt K mg) : FnOk P w K mg base CX0 4 T.a_is_part T.fd_is_part ["value"] (spPart K) := by
  refine T.F_is_part.ok sc_is_part (fun vs H Q E h => ?_) (fun cdv A outer s H vs Q E hr h => ?_)
  · obtain ⟨a, r, d, rfl, _⟩ := h; rfl
  · obtain ⟨a, r, d, rfl, hT, hd, k⟩ := h
    refine ⟨_, pss_one (ps_ret (pe_and (pe_callB call_isi (by rfl) T.n_isinstance (by decide +kernel) (pa_cons (pv 0) (pa_cons (pe_bltn (v := .ty "tuple") (u := .type "tuple") (by rfl) T.n_tuple (by decide +kernel) rfl) (pa_nil)))) (pe_and (pe_cmpR op_eq (pe_callB call_len_seq (by rfl) T.n_len (by decide +kernel) (pa_cons (pv 0) (pa_nil))) (pe_int) (nomark _)) (pe_and (pe_call (ok_is_whole T) (hr.mono (by decide)) rfl T.m_is_whole T.F_is_whole.kp (b_is_whole T) .nil pass0 (pa_cons (pe_ix ix_tup (pv 0) (pe_int) (fun _ _ => rfl)) (pa_nil))) (pe_one (pe_call (ok_is_from T) (hr.mono (by decide)) rfl T.m_is_from T.F_is_from.kp (b_is_from T) .nil pass0 (pa_cons (pe_ix ix_tup (pv 0) (pe_int) (fun _ _ => rfl)) (pa_cons (pe_int) (pa_nil))))))))), ?_⟩
    refine ⟨_, rfl, .ref a, .ty "tuple", .type "tuple", .type "tuple", true, rfl, .ty _, .base (.tup hT), kit_ty (by decide +kernel), true, rfl, iteT ?_⟩
    refine ⟨_, rfl, a, _, rfl, .inr (SqT.of hT), rfl, true, rfl, iteT ?_⟩
    refine ⟨_, rfl, a, _, _, _, rfl, rfl, SqT.of hT, rfl, r, rfl, true, rfl, iteT ?_⟩
    refine ⟨_, rfl, a, _, _, _, rfl, rfl, SqT.of hT, rfl, d, 1, rfl, ?_⟩
    rw [decide_eq_true (show (1 : Int) ≤ d by omega)]
    exact k
def spInverse : Sp := fun vs H Q _ => ∃ n d : Int, vs = [.int n, .int d] ∧ 0 < d ∧ d.natAbs < 2 ^ 1000 ∧ Nat.gcd d.natAbs n.natAbs = 1 ∧ ∀ (r : Int) (H' : Hp), Same H H' → 0 ≤ r → r < d → d ∣ r * n - 1 → Q (.int r) H'
theorem ok_inverse (T : Txt K mg) : FnOk P w K mg base CX0 4 T.a_inverse T.fd_inverse ["number", "divisor"] spInverse := by
  refine T.F_inverse.ok sc_inverse (fun vs H Q E h => ?_) (fun cdv A outer s H vs Q E hr h => ?_)
  · obtain ⟨n, d, rfl, _⟩ := h; rfl
  · obtain ⟨n, d, rfl, hd, hb, hg, k⟩ := h
    refine ⟨_, pss_cons (ps_par (i := 2) (j := 3) (by rfl) sc_inverse.nd rfl rfl (by decide) rfl rfl (pa_cons (pv 1) (pa_cons (pe_op op_modN (pv 0) (pv 1)) (pa_nil))) (by rfl))
      (pss_cons (ps_asg (pe_tup (pa_cons (pe_int) (pa_cons (pe_int) (pa_nil)))) (pg_tup rfl (pgs_cons (pg_name (i := 4) sc_inverse.nd rfl (Or.inl rfl)) (pgs_cons (pg_name (i := 5) sc_inverse.nd rfl (Or.inl rfl)) (pgs_nil)))))
      (pss_cons (ps_while PassesOwn.never (pt_cmpR op_ne (pv 3) (pe_int) (nomark _)) (pss_cons (ps_set (i := 6) sc_inverse.nd rfl (Or.inl rfl) (pe_op op_fdivW (pv 2) (pv 3)))
      (pss_cons (ps_par (i := 2) (j := 3) (by rfl) sc_inverse.nd rfl rfl (by decide) rfl rfl (pa_cons (pv 3) (pa_cons (pe_op op_sub (pv 2) (pe_op op_mulW (pv 6) (pv 3))) (pa_nil))) (by rfl))
      (pss_one (ps_par (i := 4) (j := 5) (by rfl) sc_inverse.nd rfl rfl (by decide) rfl rfl (pa_cons (pv 5) (pa_cons (pe_op op_sub (pv 4) (pe_op op_mulW (pv 6) (pv 5))) (pa_nil))) (by rfl))))))
      (pss_one (ps_ret (pe_op op_modN (pv 4) (pv 1)))))), ?_⟩
    refine ⟨_, rfl, _, rfl, _, rfl, _, _, rfl, rfl, (by omega), _, _, rfl, (by show 2 ≤ sizeLine; decide), fun tp htp => ⟨_, _, rfl, SqT.of upd_same, rfl, _, _, rfl, _, _, rfl, rfl, ?_⟩⟩
    have s0 : Same H (upd H tp (.tup [V.int 0, V.int 1])) := same_new htp
    generalize upd H tp (.tup [V.int 0, V.int 1]) = H1 at s0 ⊢
    refine while_by (fun σ H' => H' = H1 ∧ ∃ (l r f g : Int) (t : Option V), σ = [some (.int n), some (.int d), some (.int l), some (.int r), some (.int f), some (.int g), t] ∧ NM.Euc n d l r f g)
      (fun σ _ => match σ with | [_, _, _, some (.int r), _, _, _] => r.toNat | _ => 0) ⟨rfl, d, n % d, 0, 1, Option.none, ?_, NM.Euc.start hd⟩ ?_ ?_
    · rw [← Int.fmod_eq_emod_of_nonneg n (Int.le_of_lt hd)]
      rfl
    · rintro σ H' ⟨rfl, l, r, f, g, t, rfl, E⟩
      refine ⟨_, rfl, rfl, _, rfl, ?_⟩
      by_cases hr0 : r = 0
      · subst hr0
        refine iteF ?_
        refine ⟨_, rfl, _, rfl, _, _, rfl, rfl, (by omega), ?_⟩
        have c := E.fin hg
        show Q (V.int (f.fmod d)) H'
        rw [Int.fmod_eq_emod_of_nonneg f (Int.le_of_lt hd)]
        refine k _ _ s0 (Int.emod_nonneg _ (by omega)) (Int.emod_lt_of_pos _ hd) ?_
        have h1 : d ∣ f - f % d := Int.dvd_self_sub_emod
        have h2 := NM.dvd_mr n h1
        have h3 := Int.dvd_sub c h2
        have e : f * n - 1 - (f - f % d) * n = f % d * n - 1 := by rw [Int.sub_mul]; omega
        rwa [e] at h3
      · have ne : decide ((V.int r) = V.int 0) = false := decide_eq_false fun z => hr0 (by injection z)
        rw [ne]
        refine iteT ?_
        have hrp : 0 < r := by have := E.r; omega
        have sz := E.size
        have rd := E.rd
        have lp := E.l
        have ll := E.le
        have rb : r.natAbs < 2 ^ 1000 := Nat.lt_of_le_of_lt (by omega) hb
        have lb : l.natAbs < 2 ^ 1000 := Nat.lt_of_le_of_lt (by omega) hb
        have qb : (l / r).natAbs < 2 ^ 1000 := by
          have h0 : 0 ≤ l / r := Int.ediv_nonneg (by omega) (by omega)
          have h1 : l / r ≤ l := Int.ediv_le_self r (by omega)
          exact Nat.lt_of_le_of_lt (by omega) lb
        have gb : g.natAbs < 2 ^ 1000 := Nat.lt_of_le_of_lt (by omega) hb
        refine ⟨_, rfl, _, rfl, _, _, rfl, rfl, wide_div (b := 1000) hrp rb (by decide) (by decide), ?_⟩
        refine ⟨_, rfl, _, rfl, _, rfl, _, rfl, _, _, rfl, rfl, wide_mul qb rb (by decide) (by decide) (by decide), _, _, rfl, rfl, _, _, rfl, ?_⟩
        refine ⟨_, rfl, _, rfl, _, rfl, _, rfl, _, _, rfl, rfl, wide_mul qb gb (by decide) (by decide) (by decide), _, _, rfl, rfl, _, _, rfl, ?_⟩
        exact ⟨⟨rfl, _, _, _, _, _, rfl, E.turn hr0⟩, E.less hr0⟩
    · intro σ H' Q1 Q2 hq h
      obtain ⟨v, e1, e2, c, e3, h⟩ := h
      exact ⟨v, e1, e2, c, e3, hq _ _ h⟩
--CUT
/-- what together returns -/
def oV : Option Int → V
  | some x => .int x
  | Option.none => .non
/-- the values are the parts ps, as they stand in the heap -/
def Parts (H : Hp) (vs : List V) (ps : List (Int × Int)) : Prop := vs.length = ps.length ∧ ∀ (i : Nat) (y : V), vs[i]? = some y → ∃ (a : Addr) (q : Int × Int), y = .ref a ∧ ps[i]? = some q ∧ H a = some (.tup [.int q.1, .int q.2])
theorem Parts.nil {H : Hp} : Parts H [] [] := ⟨rfl, fun i y h => by simp at h⟩
theorem Parts.cons {H : Hp} {vs : List V} {ps : List (Int × Int)} {a : Addr} {r d : Int} (h : H a = some (.tup [.int r, .int d])) (t : Parts H vs ps) : Parts H (.ref a :: vs) ((r, d) :: ps) :=
  ⟨by rw [List.length_cons, List.length_cons, t.1], fun i y e => by
    cases i with
    | zero => exact ⟨a, (r, d), (Option.some.inj e).symm, rfl, h⟩
    | succ i => exact t.2 i y e⟩
theorem Parts.same {H H' : Hp} {vs : List V} {ps : List (Int × Int)} (h : Parts H vs ps) (s : Same H H') : Parts H' vs ps := ⟨h.1, fun i y e => by
  obtain ⟨a, q, e1, e2, e3⟩ := h.2 i y e
  exact ⟨a, q, e1, e2, s _ _ e3⟩⟩
def spTogether : Sp := fun vs H Q _ => ∃ ps : List (Int × Int), Parts H vs ps ∧ ps.length ≤ 6 ∧ (∀ q ∈ ps, 0 < q.2 ∧ q.2.natAbs < 2 ^ 1000 ∧ q.1.natAbs < 2 ^ 1000) ∧ ∀ (o : Option Int) (H' : Hp), Same H H' → NM.TogIs ps o → Q (oV o) H'
theorem ok_together (T : Txt K mg) : FnR P w K mg base CX0 6 T.a_together (fun vs H Q E => vs.length ≤ sizeLine ∧ spTogether vs H Q E) := by
  refine star_ok T.F_together sc_together (fun _ _ _ _ _ _ rest => ?_) (fun cdv A outer s H vs p H0 Q E hr h hl hp eH => ?_)
  · cases rest <;> rfl
  · obtain ⟨ps, hP0, hlen, hps, k⟩ := h
    subst eH
    have s0 : Same H0 (upd H0 p (.tup vs)) := same_new hp
    have hP := hP0.same s0
    have hT0 : SqT K (upd H0 p (.tup vs)) p vs := SqT.of upd_same
    have hp0 : (upd H0 p (.tup vs)) p = some (.tup vs) := upd_same
    generalize upd H0 p (.tup vs) = H at s0 hP hT0 hp0 ⊢
    refine ⟨_, pss_cons (ps_for PassesOwn.never rfl (pi_tup (pv 0)) (pg_name (i := 1) sc_together.nd rfl (Or.inl rfl)) (pss_one (ps_if (pt_not (pt_val (pe_call (ok_is_part T) (hr.mono (by decide)) rfl T.m_is_part T.F_is_part.kp (b_is_part T) .nil pass0 (pa_cons (pv 1) (pa_nil))))) (pss_one (ps_never)) (pss_nil))))
      (pss_cons (ps_asg (pe_tup (pa_cons (pe_int) (pa_cons (pe_int) (pa_nil)))) (pg_tup rfl (pgs_cons (pg_name (i := 2) sc_together.nd rfl (Or.inl rfl)) (pgs_cons (pg_name (i := 3) sc_together.nd rfl (Or.inl rfl)) (pgs_nil)))))
      (pss_cons (ps_for PassesOwn.never rfl (pi_tup (pv 0)) (pg_tup rfl (pgs_cons (pg_name (i := 4) sc_together.nd rfl (Or.inl rfl)) (pgs_cons (pg_name (i := 5) sc_together.nd rfl (Or.inl rfl)) (pgs_nil)))) (pss_cons (ps_set (i := 6) sc_together.nd rfl (Or.inl rfl) (pe_callBfun cr_gcd (by rfl) T.m_gcd (pa_cons (pv 3) (pa_cons (pv 5) (pa_nil)))))
      (pss_cons (ps_set (i := 7) sc_together.nd rfl (Or.inl rfl) (pe_op op_sub (pv 4) (pv 2)))
      (pss_cons (ps_if (pt_cmpR op_ne (pe_op op_modN (pv 7) (pv 6)) (pe_int) (nomark _)) (pss_one (ps_ret (pe_non))) (pss_nil))
      (pss_cons (ps_set (i := 8) sc_together.nd rfl (Or.inl rfl) (pe_op op_fdivW (pv 5) (pv 6)))
      (pss_cons (ps_set (i := 9) sc_together.nd rfl (Or.inl rfl) (pe_op op_modN (pe_op op_mulW (pe_op op_fdivW (pv 7) (pv 6)) (pe_call (ok_inverse T) (hr.mono (by decide)) rfl T.m_inverse T.F_inverse.kp (b_inverse T) .nil pass0 (pa_cons (pe_op op_fdivW (pv 3) (pv 6)) (pa_cons (pv 8) (pa_nil))))) (pv 8)))
      (pss_cons (ps_set (i := 2) sc_together.nd rfl (Or.inl rfl) (pe_op op_add (pv 2) (pe_op op_mulW (pv 3) (pv 9))))
      (pss_one (ps_set (i := 3) sc_together.nd rfl (Or.inl rfl) (pe_op op_mulW (pv 3) (pv 8)))))))))))
      (pss_one (ps_ret (pv 2))))), ?_⟩
    refine ⟨_, rfl, p, rfl, ⟨_, hT0⟩, for_tup (K := K) (a := p) (xs := vs) (fun i σ H' => H' = H ∧ ∃ v, σ = [some (.ref p), v, Option.none, Option.none, Option.none, Option.none, Option.none, Option.none, Option.none, Option.none]) ⟨rfl, Option.none, rfl⟩ (fun _ _ _ _ h => h.1 ▸ hT0) ?_ ?_⟩
    · rintro i y σ H' hi ⟨rfl, v, rfl⟩
      obtain ⟨a, q, rfl, hq, ha⟩ := hP.2 i y hi
      have hb := hps q (List.mem_of_getElem? hq)
      exact ⟨_, rfl, a, q.1, q.2, rfl, ha, hb.1, true, rfl, iteF ⟨rfl, _, rfl⟩⟩
    · rintro σ H' ⟨rfl, v, rfl⟩
      refine ⟨(by show 2 ≤ sizeLine; decide), fun tp htp => ⟨_, _, rfl, SqT.of upd_same, rfl, _, _, rfl, _, _, rfl, rfl, ?_⟩⟩
      have s1 : Same H' (upd H' tp (.tup [V.int 0, V.int 1])) := same_new htp
      have s01 := s0.trans s1
      have hP1 := hP.same s1
      have hp1 := s1 _ _ hp0
      generalize upd H' tp (.tup [V.int 0, V.int 1]) = H1 at s1 s01 hP1 hp1 ⊢
      refine ⟨_, rfl, p, rfl, ⟨_, SqT.of hp1⟩, for_tup (K := K) (a := p) (xs := vs) (fun i σ H2 => Same H1 H2 ∧ ∃ (f st : Int) (x1 x4 x5 x6 x7 x8 x9 : Option V), σ = [some (.ref p), x1, some (.int f), some (.int st), x4, x5, x6, x7, x8, x9] ∧ NM.Tog (ps.take i) f st ∧ st ≤ 2 ^ (1000 * i))
        ⟨Same.refl _, 0, 1, _, _, _, _, _, _, _, rfl, NM.Tog.start, by decide⟩ (fun _ _ _ _ h => SqT.of (h.1 _ _ hp1)) ?_ ?_⟩
      · rintro i y σ H2 hi ⟨s2, f, st, x1, x4, x5, x6, x7, x8, x9, rfl, Tg, hst⟩
        obtain ⟨a, ⟨r, d⟩, rfl, hq, ha⟩ := hP1.2 i y hi
        obtain ⟨hd, hdb, hrb⟩ := hps _ (List.mem_of_getElem? hq)
        have hd : 0 < d := hd
        have hdb : d.natAbs < 2 ^ 1000 := hdb
        have hrb : r.natAbs < 2 ^ 1000 := hrb
        have hi6 : i < 6 := by
          have := (List.getElem?_eq_some_iff.mp hq).1
          omega
        refine ⟨a, _, rfl, SqT.of (s2 _ _ ha), rfl, _, _, rfl, _, _, rfl, rfl, ?_⟩
        have sp := Tg.pos
        have fl := Tg.lo
        have fh := Tg.hi
        have gp := NM.gI_pos (a := st) hd
        have gd : ((Int.gcd st d : Nat) : Int) ≤ d := Int.le_of_dvd hd (Int.gcd_dvd_right st d)
        have gb : ((Int.gcd st d : Nat) : Int).natAbs < 2 ^ 1000 := Nat.lt_of_le_of_lt (by omega) hdb
        -- shared, away
        refine ⟨_, rfl, _, rfl, st, d, rfl, ?_⟩
        refine ⟨_, rfl, _, rfl, r, f, rfl, rfl, ?_⟩
        refine ⟨_, rfl, _, rfl, r - f, ((Int.gcd st d : Nat) : Int), rfl, rfl, (by omega), rfl, _, rfl, ?_⟩
        have efm : (r - f).fmod ((Int.gcd st d : Nat) : Int) = (r - f) % ((Int.gcd st d : Nat) : Int) := Int.fmod_eq_emod_of_nonneg _ (by omega)
        by_cases hdv : ((Int.gcd st d : Nat) : Int) ∣ r - f
        · have e0 : (r - f).fmod ((Int.gcd st d : Nat) : Int) = 0 := by rw [efm]; exact Int.emod_eq_zero_of_dvd hdv
          have et : (!decide (V.int ((r - f).fmod ((Int.gcd st d : Nat) : Int)) = V.int 0)) = false := by rw [e0]; rfl
          refine if_false_of et ?_
          -- rest
          refine ⟨_, rfl, _, rfl, d, ((Int.gcd st d : Nat) : Int), rfl, rfl, wide_div (b := 1000) gp gb (by decide) (by decide), ?_⟩
          have rp : 0 < d / ((Int.gcd st d : Nat) : Int) := Int.ediv_pos_of_pos_of_dvd hd (by omega) (Int.gcd_dvd_right st d)
          have rl : d / ((Int.gcd st d : Nat) : Int) ≤ d := Int.ediv_le_self _ (by omega)
          have rb : (d / ((Int.gcd st d : Nat) : Int)).natAbs < 2 ^ 1000 := Nat.lt_of_le_of_lt (by omega) hdb
          -- turns
          have pw : (2 : Int) ^ (1000 * i) ≤ 2 ^ 5001 := by
            have h0 : (2 : Nat) ^ (1000 * i) ≤ 2 ^ 5001 := Nat.pow_le_pow_right (by decide) (by omega)
            exact_mod_cast h0
          have sb : st.natAbs < 2 ^ 5002 := by
            have : (2 : Int) ^ 5001 < 2 ^ 5002 := by
              have h0 : (2 : Nat) ^ 5001 < 2 ^ 5002 := Nat.pow_lt_pow_right (by decide) (by decide)
              exact_mod_cast h0
            have h2 : st < 2 ^ 5002 := by omega
            have h3 : ((st.natAbs : Nat) : Int) < ((2 ^ 5002 : Nat) : Int) := by
              rw [Int.natAbs_of_nonneg (by omega)]; exact_mod_cast h2
            exact_mod_cast h3
          have fb : f.natAbs < 2 ^ 5002 := Nat.lt_of_le_of_lt (by omega) sb
          have ab : (r - f).natAbs < 2 ^ 5003 := by
            have h1 : (r - f).natAbs ≤ r.natAbs + f.natAbs := by omega
            have h2 : (2 : Nat) ^ 1000 ≤ 2 ^ 5002 := Nat.pow_le_pow_right (by decide) (by decide)
            have h3 : (2 : Nat) ^ 5003 = 2 ^ 5002 + 2 ^ 5002 := by rw [Nat.pow_succ]; omega
            omega
          have qb : ((r - f) / ((Int.gcd st d : Nat) : Int)).natAbs < 2 ^ 5003 := Nat.lt_of_le_of_lt (Int.natAbs_ediv_le_natAbs _ _) ab
          refine ⟨_, rfl, _, rfl, r - f, ((Int.gcd st d : Nat) : Int), rfl, rfl, wide_div (b := 1000) gp gb (by decide) (by decide), ?_⟩
          refine ⟨_, rfl, _, rfl, st, ((Int.gcd st d : Nat) : Int), rfl, rfl, wide_div (b := 1000) gp gb (by decide) (by decide), _, rfl, ?_⟩
          refine ⟨st / ((Int.gcd st d : Nat) : Int), d / ((Int.gcd st d : Nat) : Int), rfl, rp, rb, NM.Tog.cop hd, fun iv H3 s3 i0 i1 hiv => ?_⟩
          have ib : iv.natAbs < 2 ^ 1000 := Nat.lt_of_le_of_lt (by omega) rb
          refine ⟨_, _, rfl, rfl, wide_mul qb ib (by decide) (by decide) (by decide), _, rfl, _, _, rfl, rfl, (by show d / ((Int.gcd st d : Nat) : Int) ≠ 0; omega), ?_⟩
          have em : ((r - f) / ((Int.gcd st d : Nat) : Int) * iv).fmod (d / ((Int.gcd st d : Nat) : Int)) = (r - f) / ((Int.gcd st d : Nat) : Int) * iv % (d / ((Int.gcd st d : Nat) : Int)) := Int.fmod_eq_emod_of_nonneg _ (by omega)
          have t0 := Int.emod_nonneg ((r - f) / ((Int.gcd st d : Nat) : Int) * iv) (show d / ((Int.gcd st d : Nat) : Int) ≠ 0 by omega)
          have t1 := Int.emod_lt_of_pos ((r - f) / ((Int.gcd st d : Nat) : Int) * iv) rp
          have tb : (((r - f) / ((Int.gcd st d : Nat) : Int) * iv).fmod (d / ((Int.gcd st d : Nat) : Int))).natAbs < 2 ^ 1000 := by rw [em]; exact Nat.lt_of_le_of_lt (by omega) rb
          refine ⟨_, rfl, _, rfl, _, rfl, st, _, rfl, rfl, wide_mul sb tb (by decide) (by decide) (by decide), f, _, rfl, rfl, ?_⟩
          refine ⟨_, rfl, _, rfl, st, _, rfl, rfl, wide_mul sb rb (by decide) (by decide) (by decide), ?_⟩
          have Tn := Tg.some hd rfl hdv rfl hiv em
          have etk : ps.take (i + 1) = ps.take i ++ [(r, d)] := NM.take_snoc hq
          refine ⟨s2.trans s3, _, _, _, _, _, _, _, _, _, rfl, ?_, ?_⟩
          · rw [etk]; exact Tn
          · have e1 : (2 : Int) ^ (1000 * (i + 1)) = 2 ^ (1000 * i) * 2 ^ 1000 := by rw [Nat.mul_add, Nat.mul_one, Int.pow_add]
            have e2 : d ≤ 2 ^ 1000 := by
              have h3 : ((d.natAbs : Nat) : Int) < ((2 ^ 1000 : Nat) : Int) := by exact_mod_cast hdb
              rw [Int.natAbs_of_nonneg (by omega)] at h3
              have h4 : ((2 ^ 1000 : Nat) : Int) = (2 : Int) ^ 1000 := by exact_mod_cast rfl
              omega
            rw [e1]
            refine Int.le_trans (Int.mul_le_mul_of_nonneg_left (show d / ((Int.gcd st d : Nat) : Int) ≤ 2 ^ 1000 by omega) (by omega)) (Int.mul_le_mul_of_nonneg_right hst ?_)
            exact Int.le_of_lt (Int.pow_pos (by decide))
        · have e0 : ¬ (r - f).fmod ((Int.gcd st d : Nat) : Int) = 0 := by rw [efm]; exact fun z => hdv (Int.dvd_of_emod_eq_zero z)
          have et : (!decide (V.int ((r - f).fmod ((Int.gcd st d : Nat) : Int)) = V.int 0)) = true := by
            rw [decide_eq_false (fun z => e0 (by injection z))]; rfl
          refine if_true_of et ?_
          have hn : NM.TogIs ps Option.none := by
            have h1 : NM.TogIs (ps.take i ++ [(r, d)]) Option.none := fun y => Tg.none hdv y
            rw [← NM.take_snoc hq] at h1
            have h2 := NM.togIs_none_mono (qs := ps.drop (i + 1)) h1
            rwa [List.take_append_drop] at h2
          exact k Option.none H2 (s01.trans s2) hn
      · rintro σ H2 ⟨s2, f, st, x1, x4, x5, x6, x7, x8, x9, rfl, Tg, hst⟩
        rw [hP1.1, List.take_length] at Tg
        exact ⟨_, rfl, k (some f) H2 (s01.trans s2) Tg.is⟩
--CUT
/-! ### the draws -/
def spPen (K : PySem.W.Frag) : Sp := fun vs H Q _ => ∃ (a : Addr) (ns : List Int), vs = [.ref a] ∧ SqL K H a (ns.map V.int) ∧ ns.length ≤ 63 ∧ ∀ (p : Addr) (H' : Hp), Same H H' → Pen H' p 0 → Q (.ref p) H'
theorem ok_pen (T : Txt K mg) : FnOk P w K mg base CX0 1 T.a_pen T.fd_pen ["_law_script"] (spPen K) := by
  refine T.F_pen.ok sc_pen (fun vs H Q E h => ?_) (fun cdv A outer s H vs Q E hr h => ?_)
  · obtain ⟨a, ns, rfl, _⟩ := h; rfl
  · obtain ⟨a, ns, rfl, hS, hl, k⟩ := h
    refine ⟨_, pss_one (ps_ret (pe_lst (pa_cons (pe_callTy call_list_of (by rfl) T.n_list (by decide +kernel) (pa_cons (pe_slice sl_list (pv 0) (po_none) (po_some (pe_int))) (pa_nil))) (pa_cons (pe_int) (pa_cons (pe_int) (pa_nil)))))), ?_⟩
    obtain ⟨ms, em, lm⟩ := cut_ints ns none (some 63)
    refine ⟨_, rfl, _, rfl, a, _, rfl, hS, fun q hq => ?_⟩
    refine ⟨q, _, rfl, .inl (SqL.of upd_same), fun l hl => ?_⟩
    refine ⟨(by show 3 ≤ sizeLine; decide), fun p hp => k p _ ?_ ?_⟩
    · exact (same_new hq).trans ((same_new hl).trans (same_new hp))
    · refine ⟨l, ms, 0, 0, upd_same, ?_, by omega, by omega, by omega, by omega⟩
      rw [upd_ne (ne_of_none upd_same hp), upd_same, em]
def spDraw : Sp := fun vs H Q _ => ∃ (p : Addr) (m : Int) (n : Nat), vs = [.ref p, .int m] ∧ 0 < m ∧ m < 1073741824 ∧ Pen H p n ∧ n < 100000 ∧ ∀ (r : Int) (H' : Hp), 0 ≤ r → r < m → Pen H' p (n + 1) → Fr p H H' → Q (.int r) H'
theorem ok_draw (T : Txt K mg) : FnOk P w K mg base CX0 1 T.a_draw T.fd_draw ["_law_pen_here", "_law_many"] spDraw := by
  refine T.F_draw.ok sc_draw (fun vs H Q E h => ?_) (fun cdv A outer s H vs Q E hr h => ?_)
  · obtain ⟨p, m, n, rfl, _⟩ := h; rfl
  · obtain ⟨p, m, n, rfl, hm, hm2, ⟨c, ns, i, g, hp, hc, i0, i1, g0, hl⟩, hn, k⟩ := h
    have cp : c ≠ p := pen_ne hp hc
    have mb : m.natAbs < 2 ^ 30 := by omega
    refine ⟨_, pss_cons (ps_if (pt_cmpR op_gt (pe_ix ix_list (pv 0) (pe_int) (fun _ _ => rfl)) (pe_int) (nomark _)) (pss_cons (ps_set (i := 2) sc_draw.nd rfl (Or.inl rfl) (pe_op op_modN (pe_callTy call_int1 (by rfl) T.n_int (by decide +kernel) (pa_cons (pe_ix ix_list (pv 0) (pe_int) (fun _ _ => rfl)) (pa_nil))) (pv 1)))
      (pss_cons (ps_asg (pe_op op_fdivW (pe_callTy call_int1 (by rfl) T.n_int (by decide +kernel) (pa_cons (pe_ix ix_list (pv 0) (pe_int) (fun _ _ => rfl)) (pa_nil))) (pv 1)) (pg_sub (pv 0) (pe_int) set_list))
      (pss_one (ps_ret (pv 2))))) (pss_nil))
      (pss_cons (ps_set (i := 3) sc_draw.nd rfl (Or.inl rfl) (pe_ix ix_list (pv 0) (pe_int) (fun _ _ => rfl)))
      (pss_cons (ps_asg (pe_op op_add (pv 3) (pe_int)) (pg_sub (pv 0) (pe_int) set_list))
      (pss_cons (ps_set (i := 4) sc_draw.nd rfl (Or.inl rfl) (pe_op op_add (pe_op op_mul (pe_int) (pv 3)) (pe_int)))
      (C8.pss_cut (ps_if (pt_cmpR (op_neD hr.units) (pe_ix ix_list (pv 0) (pe_int) (fun _ _ => rfl)) (pe_lst (pa_nil)) (nomark _)) (pss_one (ps_set (i := 4) sc_draw.nd rfl (Or.inl rfl) (pe_ix ix_list (pe_ix ix_list (pv 0) (pe_int) (fun _ _ => rfl)) (pe_op op_modN (pe_callTy call_int1 (by rfl) T.n_int (by decide +kernel) (pa_cons (pv 3) (pa_nil))) (pe_callB call_len_seq (by rfl) T.n_len (by decide +kernel) (pa_cons (pe_ix ix_list (pv 0) (pe_int) (fun _ _ => rfl)) (pa_nil)))) (fun _ _ => rfl)))) (pss_nil))
      (C8.pss_cut (ps_if (PW.pt (pw_and (pt_cmpR op_lt (pv 3) (pe_callB call_len_seq (by rfl) T.n_len (by decide +kernel) (pa_cons (pe_ix ix_list (pv 0) (pe_int) (fun _ _ => rfl)) (pa_nil))) (nomark _)) (pw_and1 (pt_cmpR op_ge (pe_callB call_abs (by rfl) T.n_abs (by decide +kernel) (pa_cons (pv 4) (pa_nil))) (pe_op op_pow (pe_int) (pe_int)) (nomark _))))) (pss_cons (ps_set (i := 5) sc_draw.nd rfl (Or.inl rfl) (pe_op op_add (pe_op op_mul (pe_int) (pe_op op_sub (pe_callB call_abs (by rfl) T.n_abs (by decide +kernel) (pa_cons (pv 4) (pa_nil))) (pe_op op_pow (pe_int) (pe_int)))) (pe_callTy call_int1 (by rfl) T.n_int (by decide +kernel) (pa_cons (pe_cmpR op_lt (pv 4) (pe_int) (nomark _)) (pa_nil)))))
      (pss_cons (ps_asg (pe_op op_fdivW (pe_callTy call_int1 (by rfl) T.n_int (by decide +kernel) (pa_cons (pv 5) (pa_nil))) (pv 1)) (pg_sub (pv 0) (pe_int) set_list))
      (pss_one (ps_ret (pe_op op_modN (pe_callTy call_int1 (by rfl) T.n_int (by decide +kernel) (pa_cons (pv 5) (pa_nil))) (pv 1)))))) (pss_nil))
      (pss_cons (ps_set (i := 6) sc_draw.nd rfl (Or.inl rfl) (pe_op op_modN (pe_callTy call_int1 (by rfl) T.n_int (by decide +kernel) (pa_cons (pe_op op_pow (pe_op op_add (pe_op op_add (pe_op op_modN (pe_callTy call_int1 (by rfl) T.n_int (by decide +kernel) (pa_cons (pv 4) (pa_nil))) (pe_int)) (pe_op op_mul (pe_int) (pv 3))) (pe_int)) (pe_int)) (pa_nil))) (pe_int)))
      (pss_cons (ps_set (i := 6) sc_draw.nd rfl (Or.inl rfl) (pe_op op_modN (pe_callTy call_int1 (by rfl) T.n_int (by decide +kernel) (pa_cons (pe_op op_pow (pe_op op_add (pe_op op_add (pe_op op_mul (pv 6) (pe_op op_add (pe_op op_mul (pe_int) (pv 3)) (pe_int))) (pe_op op_mul (pe_op op_mul (pe_int) (pv 3)) (pv 3))) (pe_int)) (pe_int)) (pa_nil))) (pe_int)))
      (pss_one (ps_ret (pe_op op_modN (pe_callTy call_int1 (by rfl) T.n_int (by decide +kernel) (pa_cons (pe_op op_fdivW (pv 6) (pe_int)) (pa_nil))) (pv 1))))))))))), ?_⟩
    refine ⟨_, rfl, p, _, _, _, rfl, rfl, SqL.of hp, rfl, _, _, rfl, rfl, _, rfl, ?_⟩
    refine ite2 (fun hg => ?_) (fun hg => ?_)
    · refine ⟨_, rfl, p, _, _, _, rfl, rfl, SqL.of hp, rfl, .inl ⟨_, rfl, ?_⟩⟩
      refine ⟨_, rfl, _, _, rfl, rfl, (by omega), ?_⟩
      refine ⟨_, rfl, p, _, _, _, rfl, rfl, SqL.of hp, rfl, .inl ⟨_, rfl, ?_⟩⟩
      refine ⟨_, rfl, _, _, rfl, rfl, wide_div hm mb (by decide) (by decide), ?_⟩
      refine ⟨_, rfl, p, _, _, _, rfl, rfl, hp, rfl, _, rfl, ?_⟩
      have fm := fmod_pos (x := g) hm
      refine k _ _ fm.1 fm.2 ⟨c, ns, i, g / m, upd_same, ?_, i0, by omega, Int.ediv_nonneg g0 (by omega), hl⟩ fr_upd
      rw [upd_ne cp]; exact hc
    · refine ⟨_, rfl, p, _, _, _, rfl, rfl, SqL.of hp, rfl, ?_⟩
      refine ⟨_, rfl, _, _, rfl, rfl, _, rfl, p, _, _, _, rfl, rfl, hp, rfl, ?_⟩
      -- the index is one more
      have f1 : Fr p H (upd H p (.lst [.ref c, .int (i + 1), .int g])) := fr_upd
      have hp1 : (upd H p (.lst [.ref c, .int (i + 1), .int g])) p = some (.lst [.ref c, .int (i + 1), .int g]) := upd_same
      have hc1 : (upd H p (.lst [.ref c, .int (i + 1), .int g])) c = some (.lst (ns.map V.int)) := by rw [upd_ne cp]; exact hc
      show _
      refine ⟨_, rfl, _, _, rfl, rfl, .inl ⟨by decide, by decide⟩, _, _, rfl, rfl, ?_⟩
      refine ⟨fun σ' H' => ∃ raw : Int, σ' = [some (.ref p), some (.int m), Option.none, some (.int i), some (.int raw), Option.none, Option.none] ∧ Same (upd H p (.lst [.ref c, .int (i + 1), .int g])) H', ?_, ?_⟩
      · refine ⟨_, rfl, p, _, _, _, rfl, rfl, SqL.of hp1, rfl, Nat.zero_le _, fun l hl0 => ?_⟩
        refine ⟨.list (ns.map PyData.int), .list [], .lst (SqL.of (same_new hl0 _ _ hc1)) (dp_ints ns), .lst (SqL.of upd_same) .nil, PySem.W.ke_shaped_ints ns, by decide +kernel, _, rfl, ?_⟩
        have s1 := same_new (o := .lst []) hl0
        cases ns with
        | nil => exact iteF ⟨_, rfl, s1⟩
        | cons z r =>
          refine iteT ?_
          refine ⟨_, rfl, p, _, _, _, rfl, rfl, SqL.of (s1 _ _ hp1), rfl, ?_⟩
          refine ⟨_, rfl, .inl ⟨_, rfl, ?_⟩⟩
          refine ⟨_, rfl, p, _, _, _, rfl, rfl, SqL.of (s1 _ _ hp1), rfl, c, _, rfl, .inl (SqL.of (s1 _ _ hc1)), _, _, rfl, rfl, ?_⟩
          have lp : (0 : Int) < (((z :: r).map V.int).length : Nat) := by rw [List.length_map, List.length_cons]; omega
          have fm := fmod_pos (x := i) lp
          have fm2 : i.fmod (((z :: r).map V.int).length : Nat) < (((z :: r).length : Nat) : Int) := by have := fm.2; rw [List.length_map] at this; rw [List.length_map]; exact this
          obtain ⟨y, hy⟩ := atI_in fm.1 fm2
          exact ⟨by omega, c, _, _, _, rfl, rfl, SqL.of (s1 _ _ hc1), hy, y, rfl, s1⟩
      · rintro σ' H' ⟨raw, rfl, s1⟩
        have hp2 := s1 _ _ hp1
        have hc2 := s1 _ _ hc1
        have f2 : Fr p H H' := f1.trans (same_fr s1)
        have penE : ∀ g' : Int, 0 ≤ g' → Pen (upd H' p (.lst [.ref c, .int (i + 1), .int g'])) p (n + 1) := fun g' h' => ⟨c, ns, i + 1, g', upd_same, by rw [upd_ne cp]; exact hc2, by omega, by omega, h', hl⟩
        refine ⟨fun σ'' H'' => σ'' = [some (.ref p), some (.int m), Option.none, some (.int i), some (.int raw), Option.none, Option.none] ∧ H'' = H', ?_, ?_⟩
        rotate_left
        · rintro σ'' H'' ⟨rfl, rfl⟩
          refine ⟨_, rfl, .inl ⟨_, rfl, ?_⟩⟩
          refine ⟨_, _, rfl, rfl, (by show (_ : Int) ≠ 0; decide), _, rfl, _, _, rfl, rfl, .inl ⟨by decide, by decide⟩, _, _, rfl, rfl, _, _, rfl, rfl, ?_⟩
          have r1 := fmod_pos (x := raw) (m := 2147483549) (by decide)
          refine ⟨_, _, rfl, rfl, ⟨by decide, by decide, stir1 r1.1 (by omega) i0 (by omega) (by decide) (by decide) (by decide) (by decide)⟩, .inl ⟨_, rfl, ?_⟩⟩
          refine ⟨_, _, rfl, rfl, (by show (_ : Int) ≠ 0; decide), ?_⟩
          have r2 : ∀ x : Int, 0 ≤ x.fmod 2147483629 ∧ x.fmod 2147483629 < 2147483629 := fun x => fmod_pos (by decide)
          refine ⟨_, rfl, _, rfl, _, _, rfl, rfl, .inl ⟨by decide, by decide⟩, _, _, rfl, rfl, _, _, rfl, rfl, .inl (small64 (r2 _).1 (Int.lt_trans (r2 _).2 (by decide))), ?_⟩
          refine ⟨_, rfl, _, _, rfl, rfl, .inl ⟨by decide, by decide⟩, _, rfl, _, _, rfl, rfl, .inr ⟨by omega, by omega⟩, _, _, rfl, rfl, _, _, rfl, rfl, ?_⟩
          refine ⟨_, _, rfl, rfl, ⟨by decide, by decide, stir2 (r2 _).1 (Int.lt_trans (r2 _).2 (by decide)) i0 (by omega) (by decide) (by decide) (by decide) (by decide) (by decide) (by decide)⟩, .inl ⟨_, rfl, ?_⟩⟩
          refine ⟨_, _, rfl, rfl, (by show (_ : Int) ≠ 0; decide), ?_⟩
          refine ⟨_, rfl, _, _, rfl, rfl, wide_div (b := 10) (by decide) (by decide) (by decide) (by decide), .inl ⟨_, rfl, ?_⟩⟩
          refine ⟨_, rfl, _, _, rfl, rfl, (by omega), ?_⟩
          have fm := fun x => fmod_pos (x := x) hm
          exact k _ _ (fm _).1 (fm _).2 ⟨c, ns, i + 1, g, hp2, hc2, by omega, by omega, g0, hl⟩ f2
        refine ⟨_, rfl, _, rfl, p, _, _, _, rfl, rfl, SqL.of hp2, rfl, c, _, rfl, .inl (SqL.of hc2), _, _, rfl, rfl, _, rfl, ?_⟩
        refine ite2 (fun hlt => ?_) (fun hlt => ?_)
        · refine ⟨_, rfl, _, rfl, _, _, rfl, rfl, ⟨by decide, by decide, by decide⟩, _, _, rfl, rfl, _, rfl, ?_⟩
          refine ite2 (fun hge => ?_) (fun hge => ?_)
          · have hge := of_decide_eq_true hge
            refine ⟨_, rfl, _, rfl, _, _, rfl, rfl, ⟨by decide, by decide, by decide⟩, _, _, rfl, rfl, _, _, rfl, rfl, .inl ⟨by decide, by decide⟩, ?_⟩
            refine ⟨_, rfl, _, _, rfl, rfl, .inr ⟨_, rfl, ?_⟩⟩
            refine ⟨_, _, rfl, rfl, ?_⟩
            have gpos : (0 : Int) ≤ 2 * ((if raw < 0 then -raw else raw) - 10 ^ (18 : Int).toNat) + (if decide (raw < 0) = true then 1 else 0) := by
              have : (0 : Int) ≤ (if decide (raw < 0) = true then 1 else 0) := by split <;> omega
              omega
            refine ⟨_, rfl, .inl ⟨_, rfl, ?_⟩⟩
            refine ⟨_, rfl, _, _, rfl, rfl, wide_div hm mb (by decide) (by decide), ?_⟩
            refine ⟨_, rfl, p, _, _, _, rfl, rfl, hp2, rfl, ?_⟩
            refine ⟨_, rfl, .inl ⟨_, rfl, ?_⟩⟩
            refine ⟨_, rfl, _, _, rfl, rfl, (by omega), ?_⟩
            have fm := fun x => fmod_pos (x := x) hm
            exact k _ _ (fm _).1 (fm _).2 (penE _ (Int.ediv_nonneg gpos (by omega))) (f2.trans fr_upd)
          · exact ⟨rfl, rfl⟩
        · exact ⟨rfl, rfl⟩

--CUT
def spPick (K : PySem.W.Frag) : Sp := fun vs H Q _ => ∃ (p l : Addr) (xs : List V) (n : Nat), vs = [.ref p, .ref l] ∧ SqL K H l xs ∧ l ≠ p ∧ 0 < xs.length ∧ xs.length < 1000000 ∧ Pen H p n ∧ n < 100000 ∧ ∀ (x : V) (H' : Hp), x ∈ xs → Pen H' p (n + 1) → Fr p H H' → Q x H'
theorem ok_pick (T : Txt K mg) : FnOk P w K mg base CX0 2 T.a_pick T.fd_pick ["_law_pen_here", "_law_some"] (spPick K) := by
  refine T.F_pick.ok sc_pick (fun vs H Q E h => ?_) (fun cdv A outer s H vs Q E hr h => ?_)
  · obtain ⟨p, l, xs, n, rfl, _⟩ := h; rfl
  · obtain ⟨p, l, xs, n, rfl, hS, hne, h0, h1, hP, hn, k⟩ := h
    refine ⟨_, pss_one (ps_ret (pe_ix ix_list (pv 1) (pe_call (ok_draw T) (hr.mono (by decide)) rfl T.m_draw T.F_draw.kp (b_draw T) .nil pass0 (pa_cons (pv 0) (pa_cons (pe_callB call_len_seq (by rfl) T.n_len (by decide +kernel) (pa_cons (pv 1) (pa_nil))) (pa_nil)))) (fun _ _ => rfl))), ?_⟩
    refine ⟨_, rfl, _, rfl, _, rfl, l, xs, rfl, .inl hS, p, _, n, rfl, (by omega), (by omega), hP, hn, fun r H' r0 r1 hP' fr => ?_⟩
    obtain ⟨x, hx, he⟩ := atI_any r0 r1
    exact ⟨l, xs, _, x, rfl, rfl, fr.seq hne hS, he, k x H' hx hP' fr⟩
def spGreat : Sp := fun vs H Q _ => ∃ (p : Addr) (n : Nat), vs = [.ref p] ∧ Pen H p n ∧ n < 90000 ∧ ∀ (r : Int) (H' : Hp), 1 ≤ r → r.natAbs < 2 ^ 130 → Pen H' p (n + 6) → Fr p H H' → Q (.int r) H'
theorem great_some {x : V} (h : x ∈ [V.int 2, V.int 3, V.int 6, V.int 35, V.int (10 ^ (6 : Int).toNat), V.int (10 ^ (9 : Int).toNat + 7), V.int (10 ^ (12 : Int).toNat - 11)]) : ∃ z, x = V.int z ∧ 1 ≤ z ∧ z < 2 ^ 40 := by
  simp only [List.mem_cons, List.not_mem_nil, or_false] at h
  rcases h with h | h | h | h | h | h | h <;> exact ⟨_, h, by decide, by decide⟩
theorem ok_great (T : Txt K mg) : FnOk P w K mg base CX0 3 T.a_great T.fd_great ["_law_pen_here"] spGreat := by
  refine T.F_great.ok sc_great (fun vs H Q E h => ?_) (fun cdv A outer s H vs Q E hr h => ?_)
  · obtain ⟨p, n, rfl, _⟩ := h; rfl
  · obtain ⟨p, n, rfl, hP, hn, k⟩ := h
    refine ⟨_, pss_cons (ps_set (i := 1) sc_great.nd rfl (Or.inl rfl) (pe_op op_add (pe_int) (pe_call (ok_draw T) (hr.mono (by decide)) rfl T.m_draw T.F_draw.kp (b_draw T) .nil pass0 (pa_cons (pv 0) (pa_cons (pe_int) (pa_nil))))))
      (pss_cons (ps_for PassesOwn.never rfl (pi_range1 (by rfl) T.n_range (pa_cons (pe_call (ok_draw T) (hr.mono (by decide)) rfl T.m_draw T.F_draw.kp (b_draw T) .nil pass0 (pa_cons (pv 0) (pa_cons (pe_int) (pa_nil)))) (pa_nil))) (pg_name (i := 2) sc_great.nd rfl (Or.inl rfl)) (pss_one (ps_set (i := 1) sc_great.nd rfl (Or.inl rfl) (pe_op op_mul (pv 1) (pe_call (ok_pick T) (hr.mono (by decide)) rfl T.m_pick T.F_pick.kp (b_pick T) .nil pass0 (pa_cons (pv 0) (pa_cons (pe_lst (pa_cons (pe_int) (pa_cons (pe_int) (pa_cons (pe_int) (pa_cons (pe_int) (pa_cons (pe_op op_pow (pe_int) (pe_int)) (pa_cons (pe_op op_add (pe_op op_pow (pe_int) (pe_int)) (pe_int)) (pa_cons (pe_op op_sub (pe_op op_pow (pe_int) (pe_int)) (pe_int)) (pa_nil))))))))) (pa_nil))))))))
      (pss_one (ps_ret (pv 1)))), ?_⟩
    refine ⟨_, rfl, p, 999, n, rfl, by decide, by decide, hP, by omega, fun r H1 r0 r1 hP1 f1 => ?_⟩
    refine ⟨1, r, rfl, rfl, ?_⟩
    refine ⟨_, rfl, p, 4, n + 1, rfl, by decide, by decide, hP1, by omega, fun t H2 t0 t1 hP2 f2 => ?_⟩
    refine ⟨t, rfl, by omega, by omega, for_range (n := t.toNat) (fun i σ H' => ∃ (f : Int) (v : Option V), σ = [some (.ref p), some (.int f), v] ∧ 1 ≤ f ∧ f.natAbs < 2 ^ (10 + 40 * i) ∧ Pen H' p (n + 2 + i) ∧ Fr p H H')
      ⟨1 + r, _, rfl, by omega, by show (1 + r).natAbs < 1024; omega, hP2, f1.trans f2⟩ ?_ ?_⟩
    · rintro i σ H' hi ⟨f, v, rfl, f0, fb, hP3, f3⟩
      refine ⟨_, rfl, _, rfl, _, _, rfl, rfl, ⟨by decide, by decide, by decide⟩, _, _, rfl, rfl, ⟨by decide, by decide, by decide⟩, _, _, rfl, rfl, _, _, rfl, rfl, ⟨by decide, by decide, by decide⟩, _, _, rfl, rfl, ?_⟩
      refine ⟨(by show 7 ≤ sizeLine; decide), fun l hl => ?_⟩
      refine ⟨p, l, _, n + 2 + i, rfl, SqL.of upd_same, hP3.neq hl, by decide, by decide, hP3.same (same_new hl), by omega, fun x H4 hx hP4 f4 => ?_⟩
      obtain ⟨z, rfl, z0, z1⟩ := great_some hx
      refine ⟨f, z, rfl, rfl, .inr ⟨by omega, by omega⟩, f * z, _, rfl, ?_, ?_, hP4, f3.trans ((same_fr (same_new hl)).trans f4)⟩
      · have := Int.mul_le_mul_of_nonneg_left z0 (show 0 ≤ f by omega)
        omega
      · have e : 10 + 40 * (i + 1) = 10 + 40 * i + 40 := by omega
        rw [e]
        exact wide_lt fb (by omega)
    · rintro σ H' ⟨f, v, rfl, f0, fb, hP3, f3⟩
      refine ⟨_, rfl, k f H' f0 (Nat.lt_of_lt_of_le fb (Nat.pow_le_pow_right (by decide) (by omega))) (hP3.mono (by omega)) f3⟩
--CUT
def spRight : Sp := fun vs H Q _ => ∃ (p : Addr) (n : Nat), vs = [.ref p] ∧ Pen H p n ∧ n < 80000 ∧ ∀ H', Pen H' p (n + 40) → Q (.bl true) H'
theorem pw {a b : Nat} {x : Nat} (h : x < 2 ^ a) (l : a ≤ b) : x < 2 ^ b := Nat.lt_of_lt_of_le h (Nat.pow_le_pow_right (by decide) l)
theorem ok_apart_right (T : Txt K mg) : FnOk P w K mg base CX0 6 T.a_apart_right T.fd_apart_right ["_law_pen_here"] spRight := by
  refine T.F_apart_right.ok sc_apart_right (fun vs H Q E h => ?_) (fun cdv A outer s H vs Q E hr h => ?_)
  · obtain ⟨p, n, rfl, _⟩ := h; rfl
  · obtain ⟨p, n, rfl, hP, hn, k⟩ := h
    refine ⟨_, pss_cons (ps_par3 (i := 1) (j := 2) (l := 3) (by rfl) sc_apart_right.nd rfl rfl rfl (by decide) (by decide) (by decide) rfl rfl rfl (pa_cons (pe_call (ok_great T) (hr.mono (by decide)) rfl T.m_great T.F_great.kp (b_great T) .nil pass0 (pa_cons (pv 0) (pa_nil))) (pa_cons (pe_op op_sub (pe_op op_mulW (pe_call (ok_draw T) (hr.mono (by decide)) rfl T.m_draw T.F_draw.kp (b_draw T) .nil pass0 (pa_cons (pv 0) (pa_cons (pe_op op_pow (pe_int) (pe_int)) (pa_nil)))) (pe_op op_pow (pe_int) (pe_int))) (pe_op op_pow (pe_int) (pe_int))) (pa_cons (pe_call (ok_draw T) (hr.mono (by decide)) rfl T.m_draw T.F_draw.kp (b_draw T) .nil pass0 (pa_cons (pv 0) (pa_cons (pe_op op_pow (pe_int) (pe_int)) (pa_nil)))) (pa_nil)))) (by rfl))
      (pss_cons (ps_set (i := 4) sc_apart_right.nd rfl (Or.inl rfl) (pe_call (ok_apart T) (hr.mono (by decide)) rfl T.m_apart T.F_apart.kp (b_apart T) .nil pass0 (pa_cons (pv 2) (pa_cons (pv 1) (pa_nil)))))
      (pss_cons (ps_if (PW.pt (pw_or (pt_cmpR op_lt (pv 4) (pe_int) (nomark _)) (pw_or (pt_cmpR op_gt (pe_op op_mulW (pe_int) (pv 4)) (pv 1) (nomark _)) (pw_or (pt_cmpR op_ne (pe_call (ok_apart T) (hr.mono (by decide)) rfl T.m_apart T.F_apart.kp (b_apart T) .nil pass0 (pa_cons (pe_un un_neg (pv 2)) (pa_cons (pv 1) (pa_nil)))) (pv 4) (nomark _)) (pw_or1 (pt_cmpR op_ne (pe_call (ok_apart T) (hr.mono (by decide)) rfl T.m_apart T.F_apart.kp (b_apart T) .nil pass0 (pa_cons (pe_op op_add (pv 2) (pe_op op_mulW (pv 1) (pe_op op_pow (pe_int) (pe_int)))) (pa_cons (pv 1) (pa_nil)))) (pv 4) (nomark _))))))) (pss_one (ps_ret (pe_bl))) (pss_nil))
      (C8.pss_cut (ps_if (PW.pt (pw_and (pt_cmpR op_ne (pe_call (ok_apart T) (hr.mono (by decide)) rfl T.m_apart T.F_apart.kp (b_apart T) .nil pass0 (pa_cons (pe_op op_sub (pv 2) (pv 4)) (pa_cons (pv 1) (pa_nil)))) (pe_int) (nomark _)) (pw_and1 (pt_cmpR op_ne (pe_call (ok_apart T) (hr.mono (by decide)) rfl T.m_apart T.F_apart.kp (b_apart T) .nil pass0 (pa_cons (pe_op op_add (pv 2) (pv 4)) (pa_cons (pv 1) (pa_nil)))) (pe_int) (nomark _))))) (pss_one (ps_ret (pe_bl))) (pss_nil))
      (pss_one (ps_ret (pe_and (pe_cmpR op_le (pe_call (ok_apart T) (hr.mono (by decide)) rfl T.m_apart T.F_apart.kp (b_apart T) .nil pass0 (pa_cons (pe_op op_add (pv 2) (pv 3)) (pa_cons (pv 1) (pa_nil)))) (pe_op op_add (pv 4) (pe_call (ok_apart T) (hr.mono (by decide)) rfl T.m_apart T.F_apart.kp (b_apart T) .nil pass0 (pa_cons (pv 3) (pa_cons (pv 1) (pa_nil))))) (nomark _)) (pe_one (pe_cmpR op_eq (pe_call (ok_apart T) (hr.mono (by decide)) rfl T.m_apart T.F_apart.kp (b_apart T) .nil pass0 (pa_cons (pv 1) (pa_cons (pv 1) (pa_nil)))) (pe_int) (nomark _))))))))), ?_⟩
    refine ⟨_, rfl, p, n, rfl, hP, by omega, fun q H1 q0 qb hP1 f1 => ?_⟩
    refine ⟨_, rfl, _, _, rfl, rfl, ⟨by decide, by decide, by decide⟩, p, _, _, rfl, by decide, by decide, hP1, by omega, fun r H2 r0 r1 hP2 f2 => ?_⟩
    have e9 : (10 : Int) ^ (9 : Int).toNat = 1000000000 := by decide
    rw [e9] at r1
    refine ⟨_, _, rfl, rfl, ⟨by decide, by decide, by decide⟩, r, _, rfl, rfl, wide_mul (a := 64) (b := 64) (by omega) (by decide) (by decide) (by decide) (by decide), _, _, rfl, rfl, ⟨by decide, by decide, by decide⟩, _, _, rfl, rfl, ?_⟩
    refine ⟨_, rfl, _, _, rfl, rfl, ⟨by decide, by decide, by decide⟩, p, _, _, rfl, by decide, by decide, hP2, by omega, fun m H3 m0 m1 hP3 f3 => ?_⟩
    refine ⟨_, _, _, rfl, ?_⟩
    obtain ⟨d, hd⟩ : ∃ d, r * 10 ^ (9 : Int).toNat - 10 ^ (17 : Int).toNat = d := ⟨_, rfl⟩
    have qp : 0 < q := by omega
    refine ⟨_, rfl, _, rfl, _, q, rfl, qp, ?_⟩
    have g0 := NM.apart_nn (d := d) qp
    have g1 := NM.apart_half (d := d) qp
    have g2 := NM.apart_neg (d := d) qp
    have g3 := NM.apart_round (d := d) qp (10 ^ (50 : Int).toNat)
    have g4 := NM.apart_reach (d := d) qp
    have g5 := NM.apart_tri (d := d) (e := m) qp
    have g6 := NM.apart_self qp
    refine ⟨_, rfl, _, _, rfl, rfl, _, rfl, ?_⟩
    refine if_false_of (decide_eq_false (by show ¬ NM.apartI (r * 10 ^ (9 : Int).toNat - 10 ^ (17 : Int).toNat) q < 0; rw [hd]; omega)) ?_
    refine ⟨_, rfl, _, _, rfl, rfl, wide_mul (a := 64) (b := 130) (by decide) (pw (a := 130) (Nat.lt_of_le_of_lt (by show (NM.apartI (r * 10 ^ (9 : Int).toNat - 10 ^ (17 : Int).toNat) q).natAbs ≤ q.natAbs; rw [hd]; omega) qb) (by decide)) (by decide) (by decide) (by decide), _, rfl, _, _, rfl, rfl, _, rfl, ?_⟩
    refine if_false_of (decide_eq_false (by show ¬ q < 2 * NM.apartI (r * 10 ^ (9 : Int).toNat - 10 ^ (17 : Int).toNat) q; rw [hd]; omega)) ?_
    refine ⟨_, rfl, _, rfl, _, rfl, _, q, rfl, qp, _, rfl, rfl, _, rfl, ?_⟩
    refine if_false_of (by show (!decide (V.int (NM.apartI (-(r * 10 ^ (9 : Int).toNat - 10 ^ (17 : Int).toNat)) q) = V.int (NM.apartI (r * 10 ^ (9 : Int).toNat - 10 ^ (17 : Int).toNat) q))) = false; rw [hd, g2]; simp) ?_
    refine ⟨_, rfl, _, rfl, _, _, rfl, rfl, ⟨by decide, by decide, by decide⟩, _, _, rfl, rfl, wide_mul (a := 130) (b := 200) qb (by decide) (by decide) (by decide) (by decide), _, _, rfl, rfl, _, rfl, _, q, rfl, qp, _, rfl, rfl, _, rfl, ?_⟩
    refine if_false_of (by show (!decide (V.int (NM.apartI (r * 10 ^ (9 : Int).toNat - 10 ^ (17 : Int).toNat + q * 10 ^ (50 : Int).toNat) q) = V.int (NM.apartI (r * 10 ^ (9 : Int).toNat - 10 ^ (17 : Int).toNat) q))) = false; rw [hd, g3]; simp) ?_
    refine ⟨fun σ' H' => σ' = [some (.ref p), some (.int q), some (.int d), some (.int m), some (.int (NM.apartI d q))] ∧ H' = H3, ?_, ?_⟩
    · refine ⟨_, rfl, _, rfl, _, _, rfl, rfl, _, rfl, _, q, rfl, qp, rfl, _, rfl, ?_⟩
      have fin : ∀ (v w : V), v = .int d → w = .int (NM.apartI d q) → ([some (V.ref p), some (V.int q), some v, some (V.int m), some w] : L2.St) = [some (.ref p), some (.int q), some (.int d), some (.int m), some (.int (NM.apartI d q))] := fun v w e1 e2 => by rw [e1, e2]
      have e1 : V.int (r * 10 ^ (9 : Int).toNat - 10 ^ (17 : Int).toNat) = .int d := by rw [hd]
      have e2 : V.int (NM.apartI (r * 10 ^ (9 : Int).toNat - 10 ^ (17 : Int).toNat) q) = .int (NM.apartI d q) := by rw [hd]
      by_cases h1 : NM.apartI (d - NM.apartI d q) q = 0
      · refine if_false_of (by show (!decide (V.int (NM.apartI (r * 10 ^ (9 : Int).toNat - 10 ^ (17 : Int).toNat - NM.apartI (r * 10 ^ (9 : Int).toNat - 10 ^ (17 : Int).toNat) q) q) = V.int 0)) = false; rw [hd, h1]; simp) ?_
        exact ⟨fin _ _ e1 e2, rfl⟩
      · have h2 : NM.apartI (d + NM.apartI d q) q = 0 := g4.resolve_left h1
        refine if_true_of (by show (!decide (V.int (NM.apartI (r * 10 ^ (9 : Int).toNat - 10 ^ (17 : Int).toNat - NM.apartI (r * 10 ^ (9 : Int).toNat - 10 ^ (17 : Int).toNat) q) q) = V.int 0)) = true; rw [hd]; simp [h1]) ?_
        refine ⟨_, rfl, _, rfl, _, _, rfl, rfl, _, rfl, _, q, rfl, qp, rfl, _, rfl, ?_⟩
        refine if_false_of (by show (!decide (V.int (NM.apartI (r * 10 ^ (9 : Int).toNat - 10 ^ (17 : Int).toNat + NM.apartI (r * 10 ^ (9 : Int).toNat - 10 ^ (17 : Int).toNat) q) q) = V.int 0)) = false; rw [hd, h2]; simp) ?_
        exact ⟨fin _ _ e1 e2, rfl⟩
    · rintro σ' H' ⟨rfl, rfl⟩
      refine ⟨_, rfl, _, rfl, d, m, rfl, rfl, _, rfl, d + m, q, rfl, qp, ?_⟩
      refine ⟨_, rfl, _, rfl, _, rfl, m, q, rfl, qp, _, _, rfl, rfl, _, _, rfl, rfl, _, rfl, ?_⟩
      refine if_true_of (decide_eq_true (by show NM.apartI (d + m) q ≤ NM.apartI d q + NM.apartI m q; exact g5)) ?_
      refine ⟨_, rfl, _, rfl, q, q, rfl, qp, rfl, ?_⟩
      show Q (V.bl (decide (V.int (NM.apartI q q) = V.int 0))) H'
      rw [g6]
      exact k _ (hP3.mono (by omega))
--CUT
theorem ok_divisors_right (T : Txt K mg) : FnOk P w K mg base CX0 6 T.a_divisors_right T.fd_divisors_right ["_law_pen_here"] spRight := by
  refine T.F_divisors_right.ok sc_divisors_right (fun vs H Q E h => ?_) (fun cdv A outer s H vs Q E hr h => ?_)
  · obtain ⟨p, n, rfl, _⟩ := h; rfl
  · obtain ⟨p, n, rfl, hP, hn, k⟩ := h
    refine ⟨_, pss_cons (ps_par3 (i := 1) (j := 2) (l := 3) (by rfl) sc_divisors_right.nd rfl rfl rfl (by decide) (by decide) (by decide) rfl rfl rfl (pa_cons (pe_call (ok_great T) (hr.mono (by decide)) rfl T.m_great T.F_great.kp (b_great T) .nil pass0 (pa_cons (pv 0) (pa_nil))) (pa_cons (pe_call (ok_great T) (hr.mono (by decide)) rfl T.m_great T.F_great.kp (b_great T) .nil pass0 (pa_cons (pv 0) (pa_nil))) (pa_cons (pe_call (ok_great T) (hr.mono (by decide)) rfl T.m_great T.F_great.kp (b_great T) .nil pass0 (pa_cons (pv 0) (pa_nil))) (pa_nil)))) (by rfl))
      (pss_cons (ps_if (PW.pt (pw_or (pt_cmpR op_ne (pe_op op_mulW (pe_callR (ok_common T) (hr.mono (by decide)) T.F_common.kp rfl T.m_common pass0 (pa_cons (pv 1) (pa_cons (pv 2) (pa_nil)))) (pe_callR (ok_multiple T) (hr.mono (by decide)) T.F_multiple.kp rfl T.m_multiple pass0 (pa_cons (pv 1) (pa_cons (pv 2) (pa_nil))))) (pe_op op_mulW (pv 1) (pv 2)) (nomark _)) (pw_or1 (pt_cmpR op_ne (pe_callR (ok_common T) (hr.mono (by decide)) T.F_common.kp rfl T.m_common pass0 (pa_cons (pv 1) (pa_cons (pv 2) (pa_cons (pv 3) (pa_nil))))) (pe_callR (ok_common T) (hr.mono (by decide)) T.F_common.kp rfl T.m_common pass0 (pa_cons (pv 1) (pa_cons (pe_callR (ok_common T) (hr.mono (by decide)) T.F_common.kp rfl T.m_common pass0 (pa_cons (pv 2) (pa_cons (pv 3) (pa_nil)))) (pa_nil)))) (nomark _))))) (pss_one (ps_ret (pe_bl))) (pss_nil))
      (pss_cons (ps_if (PW.pt (pw_or (pt_cmpR op_ne (pe_callR (ok_multiple T) (hr.mono (by decide)) T.F_multiple.kp rfl T.m_multiple pass0 (pa_cons (pv 1) (pa_cons (pv 2) (pa_cons (pv 3) (pa_nil))))) (pe_callR (ok_multiple T) (hr.mono (by decide)) T.F_multiple.kp rfl T.m_multiple pass0 (pa_cons (pe_callR (ok_multiple T) (hr.mono (by decide)) T.F_multiple.kp rfl T.m_multiple pass0 (pa_cons (pv 1) (pa_cons (pv 2) (pa_nil)))) (pa_cons (pv 3) (pa_nil)))) (nomark _)) (pw_or1 (pt_cmpR op_ne (pe_callR (ok_common T) (hr.mono (by decide)) T.F_common.kp rfl T.m_common pass0 (pa_cons (pe_op op_mulW (pv 1) (pv 3)) (pa_cons (pe_op op_mulW (pv 2) (pv 3)) (pa_nil)))) (pe_op op_mulW (pv 3) (pe_callR (ok_common T) (hr.mono (by decide)) T.F_common.kp rfl T.m_common pass0 (pa_cons (pv 1) (pa_cons (pv 2) (pa_nil))))) (nomark _))))) (pss_one (ps_ret (pe_bl))) (pss_nil))
      (pss_one (ps_ret (pe_cmpR (op_eqD hr.units) (pe_lst (pa_cons (pe_op op_modN (pe_callTy call_int1 (by rfl) T.n_int (by decide +kernel) (pa_cons (pv 1) (pa_nil))) (pe_callR (ok_common T) (hr.mono (by decide)) T.F_common.kp rfl T.m_common pass0 (pa_cons (pv 1) (pa_cons (pe_un un_neg (pv 2)) (pa_nil))))) (pa_cons (pe_op op_modN (pe_callTy call_int1 (by rfl) T.n_int (by decide +kernel) (pa_cons (pe_callR (ok_multiple T) (hr.mono (by decide)) T.F_multiple.kp rfl T.m_multiple pass0 (pa_cons (pv 1) (pa_cons (pv 2) (pa_nil)))) (pa_nil))) (pv 2)) (pa_cons (pe_callR (ok_common T) (hr.mono (by decide)) T.F_common.kp rfl T.m_common pass0 (pa_cons (pv 1) (pa_cons (pe_int) (pa_nil)))) (pa_nil))))) (pe_lst (pa_cons (pe_int) (pa_cons (pe_int) (pa_cons (pv 1) (pa_nil))))) (nomark _)))))), ?_⟩
    refine ⟨_, rfl, p, n, rfl, hP, by omega, fun a H1 a0 ab hP1 f1 => ?_⟩
    refine ⟨_, rfl, p, _, rfl, hP1, by omega, fun b H2 b0 bb hP2 f2 => ?_⟩
    refine ⟨_, rfl, p, _, rfl, hP2, by omega, fun c H3 c0 cb hP3 f3 => ?_⟩
    refine ⟨_, _, _, rfl, ?_⟩
    have a1 := pw ab (show 130 ≤ 1000 by decide)
    have b1 := pw bb (show 130 ≤ 1000 by decide)
    have c1 := pw cb (show 130 ≤ 1000 by decide)
    have two : ∀ {x y : Int}, 0 < x → 0 < y → x.natAbs < 2 ^ 1000 → y.natAbs < 2 ^ 1000 → ∀ z ∈ [x, y], 0 < z ∧ z.natAbs < 2 ^ 1000 := fun h1 h2 h3 h4 z hz => by
      simp only [List.mem_cons, List.not_mem_nil, or_false] at hz
      rcases hz with e | e <;> rw [e] <;> exact ⟨by assumption, by assumption⟩
    have three : ∀ z ∈ [a, b, c], 0 < z ∧ z.natAbs < 2 ^ 1000 := fun z hz => by
      simp only [List.mem_cons, List.not_mem_nil, or_false] at hz
      rcases hz with e | e | e <;> rw [e] <;> exact ⟨by omega, by assumption⟩
    have pa : a = ((a.natAbs : Nat) : Int) := by omega
    have pb : b = ((b.natAbs : Nat) : Int) := by omega
    have pc : c = ((c.natAbs : Nat) : Int) := by omega
    have gab : (NM.gcdL [a, b]) = Nat.gcd a.natAbs b.natAbs := by show Nat.gcd (Nat.gcd 0 _) _ = _; rw [Nat.gcd_zero_left]
    have lab : (NM.lcmL [a, b]) = Nat.lcm a.natAbs b.natAbs := by show Nat.lcm (Nat.lcm 1 _) _ = _; rw [Nat.lcm_one_left]
    have gsz : (NM.gcdL [a, b]) < 2 ^ 130 := by rw [gab]; exact Nat.lt_of_le_of_lt (Nat.gcd_le_left _ (by omega)) ab
    have lsz : (NM.lcmL [a, b]) < 2 ^ 260 := by
      rw [lab]
      refine Nat.lt_of_le_of_lt (NM.lcm_le_mul (by omega) (by omega)) ?_
      rw [show 260 = 130 + 130 from rfl, Nat.pow_add]
      exact Nat.mul_lt_mul'' ab bb
    have lpos : 0 < NM.lcmL [a, b] := NM.lcmL_pos fun z hz => (two (by omega) (by omega) a1 b1 z hz).1
    -- common times multiple is the product
    refine ⟨_, rfl, _, rfl, (by show 2 ≤ sizeLine; decide), [a, b], rfl, fun H4 s4 => ?_⟩
    refine ⟨_, rfl, _, rfl, (by show 2 ≤ sizeLine; decide), [a, b], rfl, two (by omega) (by omega) a1 b1, by simp, fun H5 s5 => ?_⟩
    refine ⟨_, _, rfl, rfl, wide_mul (a := 130) (b := 260) (by rw [Int.natAbs_natCast]; exact gsz) (by rw [Int.natAbs_natCast]; exact lsz) (by decide) (by decide) (by decide), ?_⟩
    refine ⟨_, rfl, _, rfl, _, _, rfl, rfl, wide_mul ab bb (by decide) (by decide) (by decide), rfl, _, rfl, ?_⟩
    refine if_false_of (by
      show (!decide (V.int (((NM.gcdL [a, b] : Nat) : Int) * ((NM.lcmL [a, b] : Nat) : Int)) = V.int (a * b))) = false
      rw [gab, lab, ← Int.natCast_mul, Nat.gcd_mul_lcm, Int.natCast_mul, ← pa, ← pb]; simp) ?_
    -- by parts
    refine ⟨_, rfl, _, rfl, _, rfl, (by show 3 ≤ sizeLine; decide), [a, b, c], rfl, fun H6 s6 => ?_⟩
    refine ⟨_, rfl, _, rfl, _, rfl, (by show 2 ≤ sizeLine; decide), [b, c], rfl, fun H7 s7 => ?_⟩
    refine ⟨(by show 2 ≤ sizeLine; decide), [a, ((NM.gcdL [b, c] : Nat) : Int)], rfl, fun H8 s8 => ?_⟩
    refine ⟨rfl, _, rfl, ?_⟩
    refine if_false_of (by
      have e : NM.gcdL [a, b, c] = NM.gcdL [a, ((NM.gcdL [b, c] : Nat) : Int)] := by
        show Nat.gcd (Nat.gcd (Nat.gcd 0 _) _) _ = Nat.gcd (Nat.gcd 0 _) (Nat.gcd (Nat.gcd 0 _) _)
        rw [Nat.gcd_zero_left, Nat.gcd_zero_left, Nat.gcd_assoc]
      show (!decide (V.int ((NM.gcdL [a, b, c] : Nat) : Int) = V.int ((NM.gcdL [a, ((NM.gcdL [b, c] : Nat) : Int)] : Nat) : Int))) = false
      rw [e]; simp) ?_
    refine ⟨_, rfl, _, rfl, _, rfl, (by show 3 ≤ sizeLine; decide), [a, b, c], rfl, three, by simp, fun H9 s9 => ?_⟩
    refine ⟨_, rfl, _, rfl, (by show 2 ≤ sizeLine; decide), [a, b], rfl, two (by omega) (by omega) a1 b1, by simp, fun H10 s10 => ?_⟩
    refine ⟨_, rfl, (by show 2 ≤ sizeLine; decide), [((NM.lcmL [a, b] : Nat) : Int), c], rfl, two (by omega) (by omega) (by rw [Int.natAbs_natCast]; exact pw lsz (by decide)) c1, by simp, fun H11 s11 => ?_⟩
    refine ⟨rfl, _, rfl, ?_⟩
    refine if_false_of (by
      have e : NM.lcmL [a, b, c] = NM.lcmL [((NM.lcmL [a, b] : Nat) : Int), c] := by
        show Nat.lcm (Nat.lcm (Nat.lcm 1 _) _) _ = Nat.lcm (Nat.lcm 1 (Nat.lcm (Nat.lcm 1 _) _)) _
        rw [Nat.lcm_one_left, Nat.lcm_one_left]
      show (!decide (V.int ((NM.lcmL [a, b, c] : Nat) : Int) = V.int ((NM.lcmL [((NM.lcmL [a, b] : Nat) : Int), c] : Nat) : Int))) = false
      rw [e]; simp) ?_
    refine ⟨_, rfl, _, rfl, _, _, rfl, rfl, wide_mul ab cb (by decide) (by decide) (by decide), ?_⟩
    refine ⟨_, rfl, _, rfl, _, _, rfl, rfl, wide_mul bb cb (by decide) (by decide) (by decide), (by show 2 ≤ sizeLine; decide), [a * c, b * c], rfl, fun H12 s12 => ?_⟩
    refine ⟨_, rfl, _, rfl, _, rfl, (by show 2 ≤ sizeLine; decide), [a, b], rfl, fun H13 s13 => ?_⟩
    refine ⟨_, _, rfl, rfl, wide_mul (a := 130) (b := 130) cb (by rw [Int.natAbs_natCast]; exact gsz) (by decide) (by decide) (by decide), rfl, _, rfl, ?_⟩
    refine if_false_of (by
      have e : ((NM.gcdL [a * c, b * c] : Nat) : Int) = c * ((NM.gcdL [a, b] : Nat) : Int) := by
        have e1 : NM.gcdL [a * c, b * c] = Nat.gcd (a.natAbs * c.natAbs) (b.natAbs * c.natAbs) := by
          show Nat.gcd (Nat.gcd 0 _) _ = _
          rw [Nat.gcd_zero_left, Int.natAbs_mul, Int.natAbs_mul]
        rw [e1, Nat.gcd_mul_right, gab, Int.natCast_mul, ← pc, Int.mul_comm]
      show (!decide (V.int ((NM.gcdL [a * c, b * c] : Nat) : Int) = V.int (c * ((NM.gcdL [a, b] : Nat) : Int)))) = false
      rw [e]; simp) ?_
    -- the list
    have gan : NM.gcdL [a, -b] = Nat.gcd a.natAbs b.natAbs := by show Nat.gcd (Nat.gcd 0 _) (-b).natAbs = _; rw [Nat.gcd_zero_left, Int.natAbs_neg]
    have ga0 : NM.gcdL [a, 0] = a.natAbs := by show Nat.gcd (Nat.gcd 0 _) (0 : Int).natAbs = _; rw [Nat.gcd_zero_left]; exact Nat.gcd_zero_right _
    have gp : 0 < Nat.gcd a.natAbs b.natAbs := Nat.gcd_pos_of_pos_left _ (by omega)
    refine ⟨_, rfl, .inl ⟨_, rfl, ?_⟩⟩
    refine ⟨_, rfl, _, rfl, _, rfl, (by show 2 ≤ sizeLine; decide), [a, -b], rfl, fun H14 s14 => ?_⟩
    refine ⟨_, _, rfl, rfl, (by show ((NM.gcdL [a, -b] : Nat) : Int) ≠ 0; rw [gan]; omega), ?_⟩
    refine ⟨_, rfl, _, rfl, (by show 2 ≤ sizeLine; decide), [a, b], rfl, two (by omega) (by omega) a1 b1, by simp, fun H15 s15 => ?_⟩
    refine .inl ⟨_, rfl, ?_⟩
    refine ⟨_, rfl, _, _, rfl, rfl, (by show b ≠ 0; omega), ?_⟩
    refine ⟨_, rfl, (by show 2 ≤ sizeLine; decide), [a, 0], rfl, fun H16 s16 => ?_⟩
    refine ⟨(by show 3 ≤ sizeLine; decide), fun l1 hl1 => ?_⟩
    refine ⟨_, rfl, (by show 3 ≤ sizeLine; decide), fun l2 hl2 => ?_⟩
    have e1 : a.fmod ((NM.gcdL [a, -b] : Nat) : Int) = 0 := by
      rw [gan, Int.fmod_eq_emod_of_nonneg _ (by omega)]
      exact Int.emod_eq_zero_of_dvd (by rw [pa]; exact Int.natCast_dvd_natCast.mpr (by rw [Int.natAbs_natCast]; exact Nat.gcd_dvd_left _ _))
    have e2 : (((NM.lcmL [a, b] : Nat) : Int)).fmod b = 0 := by
      rw [Int.fmod_eq_emod_of_nonneg _ (by omega)]
      exact Int.emod_eq_zero_of_dvd (NM.dvd_lcmL (by simp))
    have e3 : ((NM.gcdL [a, 0] : Nat) : Int) = a := by rw [ga0]; omega
    refine ⟨.list ([0, 0, a].map PyData.int), .list ([0, 0, a].map PyData.int), .lst (SqL.of (xs := [0, 0, a].map V.int) ?_) (dp_ints _), .lst (SqL.of (xs := [0, 0, a].map V.int) upd_same) (dp_ints _), PySem.W.ke_shaped_ints _, PySem.W.ke_shaped_ints _, ?_⟩
    · rw [upd_ne (ne_of_none upd_same hl2), upd_same]
      show some (HO.lst [V.int (a.fmod ((NM.gcdL [a, -b] : Nat) : Int)), V.int ((((NM.lcmL [a, b] : Nat) : Int)).fmod b), V.int ((NM.gcdL [a, 0] : Nat) : Int)]) = _
      rw [e1, e2, e3]
      rfl
    · have ee := eqv_ints [0, 0, a]
      rw [ee]
      refine k _ (((hP3.same (s4.trans (s5.trans (s6.trans (s7.trans (s8.trans (s9.trans (s10.trans (s11.trans (s12.trans (s13.trans (s14.trans (s15.trans s16))))))))))))).same ((same_new hl1).trans (same_new hl2))).mono (by omega))
--CUT
theorem ok_remainders_right (T : Txt K mg) : FnOk P w K mg base CX0 8 T.a_remainders_right T.fd_remainders_right ["_law_pen_here"] spRight := by
  refine T.F_remainders_right.ok sc_remainders_right (fun vs H Q E h => ?_) (fun cdv A outer s H vs Q E hr h => ?_)
  · obtain ⟨p, n, rfl, _⟩ := h; rfl
  · obtain ⟨p, n, rfl, hP, hn, k⟩ := h
    refine ⟨_, C8.pss_cut (ps_set (i := 1) sc_remainders_right.nd rfl (Or.inl rfl) (pe_op op_add (pe_op op_mul (pe_call (ok_draw T) (hr.mono (by decide)) rfl T.m_draw T.F_draw.kp (b_draw T) .nil pass0 (pa_cons (pv 0) (pa_cons (pe_op op_pow (pe_int) (pe_int)) (pa_nil)))) (pe_op op_pow (pe_int) (pe_int))) (pe_call (ok_draw T) (hr.mono (by decide)) rfl T.m_draw T.F_draw.kp (b_draw T) .nil pass0 (pa_cons (pv 0) (pa_cons (pe_op op_pow (pe_int) (pe_int)) (pa_nil))))))
      (pss_cons (ps_par3 (i := 2) (j := 3) (l := 4) (by rfl) sc_remainders_right.nd rfl rfl rfl (by decide) (by decide) (by decide) rfl rfl rfl (pa_cons (pe_call (ok_great T) (hr.mono (by decide)) rfl T.m_great T.F_great.kp (b_great T) .nil pass0 (pa_cons (pv 0) (pa_nil))) (pa_cons (pe_call (ok_great T) (hr.mono (by decide)) rfl T.m_great T.F_great.kp (b_great T) .nil pass0 (pa_cons (pv 0) (pa_nil))) (pa_cons (pe_call (ok_great T) (hr.mono (by decide)) rfl T.m_great T.F_great.kp (b_great T) .nil pass0 (pa_cons (pv 0) (pa_nil))) (pa_nil)))) (by rfl))
      (pss_cons (ps_par (i := 5) (j := 6) (by rfl) sc_remainders_right.nd rfl rfl (by decide) rfl rfl (pa_cons (pe_callR (ok_multiple T) (hr.mono (by decide)) T.F_multiple.kp rfl T.m_multiple pass0 (pa_cons (pv 2) (pa_cons (pv 3) (pa_cons (pv 4) (pa_nil))))) (pa_cons (pe_lst (pa_cons (pe_tup (pa_cons (pe_op op_sub (pv 1) (pe_op op_mul (pv 2) (pe_call (ok_draw T) (hr.mono (by decide)) rfl T.m_draw T.F_draw.kp (b_draw T) .nil pass0 (pa_cons (pv 0) (pa_cons (pe_int) (pa_nil)))))) (pa_cons (pv 2) (pa_nil)))) (pa_cons (pe_tup (pa_cons (pe_op op_modN (pv 1) (pv 3)) (pa_cons (pv 3) (pa_nil)))) (pa_nil)))) (pa_nil))) (by rfl))
      (C8.pss_cut (ps_expr (pe_bm PySem.F.plainAttrs_list PySem.F.slot_list_append PySem.F.type_list_append mt_append (pv 6) (pa_cons (pe_tup (pa_cons (pe_op op_add (pv 1) (pe_op op_mul (pv 4) (pe_op op_pow (pe_int) (pe_int)))) (pa_cons (pv 4) (pa_nil)))) (pa_nil))))
      (pss_cons (ps_set (i := 7) sc_remainders_right.nd rfl (Or.inl rfl) (pe_callR (ok_together T) (hr.mono (by decide)) T.F_together.kp rfl T.m_together pass0 (pa_cons (pe_ix ix_list (pv 6) (pe_int) (fun _ _ => rfl)) (pa_cons (pe_ix ix_list (pv 6) (pe_int) (fun _ _ => rfl)) (pa_cons (pe_ix ix_list (pv 6) (pe_int) (fun _ _ => rfl)) (pa_nil))))))
      (pss_cons (ps_if (PW.pt (pw_or (pt_cmpR op_ne (pv 7) (pe_op op_modN (pe_callTy call_int1 (by rfl) T.n_int (by decide +kernel) (pa_cons (pv 1) (pa_nil))) (pv 5)) (nomark _)) (pw_or1 (pt_cmpR op_ne (pe_callR (ok_together T) (hr.mono (by decide)) T.F_together.kp rfl T.m_together pass0 (pa_cons (pe_ix ix_list (pv 6) (pe_int) (fun _ _ => rfl)) (pa_cons (pe_ix ix_list (pv 6) (pe_int) (fun _ _ => rfl)) (pa_cons (pe_ix ix_list (pv 6) (pe_int) (fun _ _ => rfl)) (pa_nil))))) (pv 7) (nomark _))))) (pss_one (ps_ret (pe_bl))) (pss_nil))
      (pss_cons (ps_if (PW.pt (pw_or (pt_cmpR op_isN (pe_callR (ok_together T) (hr.mono (by decide)) T.F_together.kp rfl T.m_together pass0 (pa_cons (pe_ix ix_list (pv 6) (pe_int) (fun _ _ => rfl)) (pa_cons (pe_tup (pa_cons (pv 1) (pa_cons (pe_op op_mul (pv 3) (pe_int)) (pa_nil)))) (pa_nil)))) (pe_non) (nomark _)) (pw_or1 (pt_cmpR op_ne (pe_callR (ok_together T) (hr.mono (by decide)) T.F_together.kp rfl T.m_together pass0 (pa_cons (pe_tup (pa_cons (pv 1) (pa_cons (pv 2) (pa_nil)))) (pa_cons (pe_tup (pa_cons (pv 1) (pa_cons (pv 2) (pa_nil)))) (pa_nil)))) (pe_op op_modN (pe_callTy call_int1 (by rfl) T.n_int (by decide +kernel) (pa_cons (pv 1) (pa_nil))) (pv 2)) (nomark _))))) (pss_one (ps_ret (pe_bl))) (pss_nil))
      (pss_cons (ps_set (i := 8) sc_remainders_right.nd rfl (Or.inl rfl) (pe_callR (ok_together T) (hr.mono (by decide)) T.F_together.kp rfl T.m_together pass0 (pa_cons (pe_ix ix_list (pv 6) (pe_int) (fun _ _ => rfl)) (pa_cons (pe_ix ix_list (pv 6) (pe_int) (fun _ _ => rfl)) (pa_cons (pe_tup (pa_cons (pe_op op_add (pv 1) (pe_int)) (pa_cons (pv 4) (pa_nil)))) (pa_nil))))))
      (pss_cons (ps_set (i := 9) sc_remainders_right.nd rfl (Or.inl rfl) (pe_callR (ok_common T) (hr.mono (by decide)) T.F_common.kp rfl T.m_common pass0 (pa_cons (pv 4) (pa_cons (pe_callR (ok_multiple T) (hr.mono (by decide)) T.F_multiple.kp rfl T.m_multiple pass0 (pa_cons (pv 2) (pa_cons (pv 3) (pa_nil)))) (pa_nil)))))
      (C8.pss_cut (ps_if (PW.pt (pw_and (pt_cmpR op_gt (pv 9) (pe_int) (nomark _)) (pw_and1 (pt_cmpR op_notN (pv 8) (pe_non) (nomark _))))) (pss_one (ps_ret (pe_bl))) (pss_nil))
      (pss_one (ps_ret (pe_or (pe_cmpR op_gt (pv 9) (pe_int) (nomark _)) (pe_one (pe_cmpR (op_eqD hr.units) (pe_lst (pa_cons (pe_op op_modN (pe_callTy call_int1 (by rfl) T.n_int (by decide +kernel) (pa_cons (pe_op op_sub (pv 8) (pv 1)) (pa_nil))) (pv 2)) (pa_cons (pe_op op_modN (pe_callTy call_int1 (by rfl) T.n_int (by decide +kernel) (pa_cons (pe_op op_sub (pv 8) (pv 1)) (pa_nil))) (pv 3)) (pa_cons (pe_op op_modN (pe_callTy call_int1 (by rfl) T.n_int (by decide +kernel) (pa_cons (pe_op op_sub (pe_op op_sub (pv 8) (pv 1)) (pe_int)) (pa_nil))) (pv 4)) (pa_nil))))) (pe_lst (pa_cons (pe_int) (pa_cons (pe_int) (pa_cons (pe_int) (pa_nil))))) (nomark _))))))))))))))), ?_⟩
    have e9 : (10 : Int) ^ (9 : Int).toNat = 1000000000 := by decide
    have e30 : ((10 : Int) ^ (30 : Int).toNat).natAbs < 2 ^ 100 := by decide
    refine ⟨fun σ' H' => ∃ wh : Int, σ' = [some (.ref p), some (.int wh), Option.none, Option.none, Option.none, Option.none, Option.none, Option.none, Option.none, Option.none] ∧ wh.natAbs < 2 ^ 200 ∧ Pen H' p (n + 2), ?_, ?_⟩
    · refine ⟨_, rfl, _, _, rfl, rfl, ⟨by decide, by decide, by decide⟩, p, _, n, rfl, by decide, by decide, hP, by omega, fun u1 H1 u10 u11 hP1 f1 => ?_⟩
      rw [e9] at u11
      refine ⟨_, _, rfl, rfl, ⟨by decide, by decide, by decide⟩, _, _, rfl, rfl, .inl ⟨by omega, by omega⟩, ?_⟩
      refine ⟨_, rfl, _, _, rfl, rfl, ⟨by decide, by decide, by decide⟩, p, _, _, rfl, by decide, by decide, hP1, by omega, fun u2 H2 u20 u21 hP2 f2 => ?_⟩
      rw [e9] at u21
      refine ⟨_, _, rfl, rfl, u1 * (10 : Int) ^ (30 : Int).toNat + u2, rfl, ?_, hP2⟩
      have h1 := wide_lt (i := u1) (j := (10 : Int) ^ (30 : Int).toNat) (a := 64) (b := 100) (by omega) e30
      have h2 : (u1 * (10 : Int) ^ (30 : Int).toNat + u2).natAbs ≤ (u1 * (10 : Int) ^ (30 : Int).toNat).natAbs + u2.natAbs := by omega
      have h3 : (2 : Nat) ^ (64 + 100) + 1000000000 ≤ 2 ^ 200 := by decide
      omega
    rintro σ' H2 ⟨wh, rfl, wb, hP2⟩
    -- one, two, three
    refine ⟨_, rfl, p, _, rfl, hP2, by omega, fun a H3 a0 ab hP3 f3 => ?_⟩
    refine ⟨_, rfl, p, _, rfl, hP3, by omega, fun b H4 b0 bb hP4 f4 => ?_⟩
    refine ⟨_, rfl, p, _, rfl, hP4, by omega, fun c H5 c0 cb hP5 f5 => ?_⟩
    refine ⟨_, _, _, rfl, ?_⟩
    have a1 := pw ab (show 130 ≤ 1000 by decide)
    have b1 := pw bb (show 130 ≤ 1000 by decide)
    have c1 := pw cb (show 130 ≤ 1000 by decide)
    have three : ∀ z ∈ [a, b, c], 0 < z ∧ z.natAbs < 2 ^ 1000 := fun z hz => by
      simp only [List.mem_cons, List.not_mem_nil, or_false] at hz
      rcases hz with e | e | e <;> rw [e] <;> exact ⟨by omega, by assumption⟩
    -- multiple; the parts
    refine ⟨_, rfl, _, rfl, _, rfl, (by show 3 ≤ sizeLine; decide), [a, b, c], rfl, three, by simp, fun H6 s6 => ?_⟩
    have hP6 := hP5.same s6
    refine ⟨_, rfl, _, rfl, _, rfl, p, 9, _, rfl, by decide, by decide, hP6, by omega, fun u3 H7 u30 u31 hP7 f7 => ?_⟩
    refine ⟨_, _, rfl, rfl, .inr ⟨by omega, by omega⟩, _, _, rfl, rfl, _, rfl, (by show 2 ≤ sizeLine; decide), fun t0 ht0 => ?_⟩
    refine ⟨_, rfl, _, rfl, _, _, rfl, rfl, (by show b ≠ 0; omega), _, rfl, (by show 2 ≤ sizeLine; decide), fun t1 ht1 => ?_⟩
    refine ⟨(by show 2 ≤ sizeLine; decide), fun L hL => ?_⟩
    refine ⟨_, _, rfl, ?_⟩
    have A0 := ((same_new (o := .tup [V.int (wh.fmod b), .int b]) ht1).trans (same_new (o := .lst [V.ref t0, .ref t1]) hL)) t0 (.tup [V.int (wh - a * u3), .int a]) upd_same
    have A1 := (same_new (o := .lst [V.ref t0, .ref t1]) hL) t1 (.tup [V.int (wh.fmod b), .int b]) upd_same
    have AL : (upd _ L (.lst [V.ref t0, .ref t1])) L = some (.lst [V.ref t0, .ref t1]) := upd_same (H := upd (upd H7 t0 (.tup [V.int (wh - a * u3), .int a])) t1 (.tup [V.int (wh.fmod b), .int b]))
    have AP : Pen (upd (upd (upd H7 t0 (.tup [V.int (wh - a * u3), .int a])) t1 (.tup [V.int (wh.fmod b), .int b])) L (.lst [V.ref t0, .ref t1])) p _ := hP7.same ((same_new ht0).trans ((same_new ht1).trans (same_new hL)))
    have Lp : L ≠ p := (hP7.same ((same_new ht0).trans (same_new ht1))).neq hL
    refine ⟨fun σ' H' => σ' = [some (.ref p), some (.int wh), some (.int a), some (.int b), some (.int c), some (.int (NM.lcmL [a, b, c])), some (.ref L), Option.none, Option.none, Option.none] ∧
      ∃ (t2 : Addr) (r0 r1 r2 : Int), H' L = some (.lst [.ref t0, .ref t1, .ref t2]) ∧ H' t0 = some (.tup [.int r0, .int a]) ∧ H' t1 = some (.tup [.int r1, .int b]) ∧ H' t2 = some (.tup [.int r2, .int c]) ∧ a ∣ wh - r0 ∧ b ∣ wh - r1 ∧ c ∣ wh - r2 ∧ r0.natAbs < 2 ^ 1000 ∧ r1.natAbs < 2 ^ 1000 ∧ r2.natAbs < 2 ^ 1000 ∧ Pen H' p (n + 40), ?_, ?_⟩
    · refine ⟨_, rfl, .inl ⟨rfl, _, SqL.of AL⟩, ?_⟩
      refine ⟨_, rfl, _, rfl, _, _, rfl, rfl, ⟨by decide, by decide, by decide⟩, _, _, rfl, rfl, .inr ⟨by decide, by decide⟩, _, _, rfl, rfl, _, rfl, (by show 2 ≤ sizeLine; decide), fun t2 ht2 => ?_⟩
      have AL2 := (same_new (o := .tup [V.int (wh + c * 10 ^ (9 : Int).toNat), .int c]) ht2) _ _ AL
      refine ⟨L, _, _, rfl, rfl, AL2, (by show 2 < sizeLine; decide), rfl, t2, wh - a * u3, wh.fmod b, wh + c * 10 ^ (9 : Int).toNat, upd_same, ?_, ?_, ?_, ?_, ?_, ?_, ?_, ?_, ?_, ?_⟩
      · rw [upd_ne (ne_of A0 AL (by intro z; cases z))]
        exact (same_new ht2) _ _ A0
      · rw [upd_ne (ne_of A1 AL (by intro z; cases z))]
        exact (same_new ht2) _ _ A1
      · rw [upd_ne (ne_of_none AL ht2).symm]
        exact upd_same
      · exact ⟨u3, by omega⟩
      · rw [Int.fmod_eq_emod_of_nonneg _ (by omega)]; exact Int.dvd_self_sub_emod
      · exact ⟨-(10 ^ (9 : Int).toNat), by rw [Int.mul_neg]; omega⟩
      · have h1 := wide_lt (i := a) (j := u3) (a := 130) (b := 4) ab (by omega)
        have h2 : (wh - a * u3).natAbs ≤ wh.natAbs + (a * u3).natAbs := by omega
        have h3 : (2 : Nat) ^ (130 + 4) + 2 ^ 200 ≤ 2 ^ 1000 := by decide
        omega
      · have := fmod_pos (x := wh) (m := b) (by omega)
        exact Nat.lt_of_le_of_lt (by omega) b1
      · have h1 := wide_lt (i := c) (j := (10 : Int) ^ (9 : Int).toNat) (a := 130) (b := 64) cb (by decide)
        have h2 : (wh + c * 10 ^ (9 : Int).toNat).natAbs ≤ wh.natAbs + (c * 10 ^ (9 : Int).toNat).natAbs := by omega
        have h3 : (2 : Nat) ^ (130 + 64) + 2 ^ 200 ≤ 2 ^ 1000 := by decide
        omega
      · have q := AP.same (same_new (o := .tup [V.int (wh + c * 10 ^ (9 : Int).toNat), .int c]) ht2)
        obtain ⟨cc, ns, i, g, h1, h2, h3, h4, h5⟩ := q
        refine ⟨cc, ns, i, g, by rw [upd_ne Lp.symm]; exact h1, ?_, h3, by omega, h5⟩
        rw [upd_ne (ne_of h2 AL2 ?_)]
        · exact h2
        · intro z
          injection z with z
          cases ns with
          | nil => cases z
          | cons x r => injection z with z1 z2; cases z1
    rintro σ' H8 ⟨rfl, t2, r0, r1, r2, hL8, h80, h81, h82, d0, d1, d2, q0, q1, q2, hP8⟩
    -- what the parts are
    have W : ∀ x ∈ [(r0, a), (r1, b), (r2, c)], x.2 ∣ wh - x.1 := fun x hx => by
      simp only [List.mem_cons, List.not_mem_nil, or_false] at hx
      rcases hx with e | e | e <;> rw [e] <;> assumption
    have SW : NM.Sol [(r0, a), (r1, b), (r2, c)] wh := W
    have bd : ∀ x ∈ [(r0, a), (r1, b), (r2, c)], 0 < x.2 ∧ x.2.natAbs < 2 ^ 1000 ∧ x.1.natAbs < 2 ^ 1000 := fun x hx => by
      simp only [List.mem_cons, List.not_mem_nil, or_false] at hx
      rcases hx with e | e | e <;> rw [e] <;> exact ⟨by show (0 : Int) < _; omega, by assumption, by assumption⟩
    have Lpos : (0 : Int) < ((NM.lcmL [a, b, c] : Nat) : Int) := by have := NM.lcmL_pos fun z hz => (three z hz).1; omega
    have Ldv : ∀ x ∈ [(r0, a), (r1, b), (r2, c)], x.2 ∣ ((NM.lcmL [a, b, c] : Nat) : Int) := fun x hx => by
      simp only [List.mem_cons, List.not_mem_nil, or_false] at hx
      rcases hx with e | e | e <;> rw [e] <;> exact NM.dvd_lcmL (by simp)
    have Luq : ∀ y z, NM.Sol [(r0, a), (r1, b), (r2, c)] y → NM.Sol [(r0, a), (r1, b), (r2, c)] z → ((NM.lcmL [a, b, c] : Nat) : Int) ∣ y - z := fun y z hy hz => NM.lcmL_dvd fun v hv => by
      have g : ∀ r, (r, v) ∈ [(r0, a), (r1, b), (r2, c)] → v ∣ y - z := fun r hr => by
        have q := Int.dvd_sub (hy _ hr) (hz _ hr)
        have e : y - r - (z - r) = y - z := by omega
        rwa [e] at q
      simp only [List.mem_cons, List.not_mem_nil, or_false] at hv
      rcases hv with e | e | e
      · exact g r0 (by rw [e]; simp)
      · exact g r1 (by rw [e]; simp)
      · exact g r2 (by rw [e]; simp)
    -- found
    refine ⟨_, rfl, L, _, _, _, rfl, rfl, SqL.of hL8, rfl, _, rfl, L, _, _, _, rfl, rfl, SqL.of hL8, rfl, _, rfl, L, _, _, _, rfl, rfl, SqL.of hL8, rfl, (by show 3 ≤ sizeLine; decide), [(r0, a), (r1, b), (r2, c)],
      .cons h80 (.cons h81 (.cons h82 .nil)), by simp, bd, fun o1 H9 s9 ho1 => ?_⟩
    have eo1 := ho1.mod SW Lpos Ldv Luq
    subst eo1
    have hL9 := s9 _ _ hL8
    refine ⟨_, rfl, _, rfl, .inl ⟨_, rfl, ?_⟩⟩
    refine ⟨_, rfl, _, _, rfl, rfl, (by show ((NM.lcmL [a, b, c] : Nat) : Int) ≠ 0; omega), rfl, _, rfl, ?_⟩
    have efm : wh.fmod ((NM.lcmL [a, b, c] : Nat) : Int) = wh % ((NM.lcmL [a, b, c] : Nat) : Int) := Int.fmod_eq_emod_of_nonneg _ (by omega)
    refine if_false_of (by show (!decide (V.int (wh % ((NM.lcmL [a, b, c] : Nat) : Int)) = V.int (wh.fmod ((NM.lcmL [a, b, c] : Nat) : Int)))) = false; rw [efm]; simp) ?_
    refine ⟨_, rfl, L, _, _, _, rfl, rfl, SqL.of hL9, rfl, _, rfl, L, _, _, _, rfl, rfl, SqL.of hL9, rfl, _, rfl, L, _, _, _, rfl, rfl, SqL.of hL9, rfl, (by show 3 ≤ sizeLine; decide), [(r2, c), (r0, a), (r1, b)],
      .cons (s9 _ _ h82) (.cons (s9 _ _ h80) (.cons (s9 _ _ h81) .nil)), by simp, fun x hx => bd x (by simp only [List.mem_cons, List.not_mem_nil, or_false] at hx ⊢; rcases hx with e | e | e <;> simp [e]), fun o2 H10 s10 ho2 => ?_⟩
    have perm : ∀ y, NM.Sol [(r2, c), (r0, a), (r1, b)] y → NM.Sol [(r0, a), (r1, b), (r2, c)] y := fun y => NM.sol_perm fun q hq => by
      simp only [List.mem_cons, List.not_mem_nil, or_false] at hq ⊢; rcases hq with e | e | e <;> simp [e]
    have eo2 := ho2.mod (w := wh) (L := ((NM.lcmL [a, b, c] : Nat) : Int)) (NM.sol_perm (fun q hq => by
      simp only [List.mem_cons, List.not_mem_nil, or_false] at hq ⊢; rcases hq with e | e | e <;> simp [e]) SW) Lpos (fun x hx => Ldv x (by simp only [List.mem_cons, List.not_mem_nil, or_false] at hx ⊢; rcases hx with e | e | e <;> simp [e])) (fun y z hy hz => Luq y z (perm y hy) (perm z hz))
    subst eo2
    refine ⟨_, rfl, rfl, _, rfl, ?_⟩
    refine if_false_of (by show (!decide (V.int (wh % ((NM.lcmL [a, b, c] : Nat) : Int)) = V.int (wh % ((NM.lcmL [a, b, c] : Nat) : Int)))) = false; simp) ?_
    have hL10 := s10 _ _ hL9
    have h80' := s10 _ _ (s9 _ _ h80)
    have h81' := s10 _ _ (s9 _ _ h81)
    have hP10 := (hP8.same s9).same s10
    have whb : wh.natAbs < 2 ^ 1000 := pw wb (by decide)
    -- it is none of two that hang together
    refine ⟨_, rfl, L, _, _, _, rfl, rfl, SqL.of hL10, rfl, _, rfl, _, rfl, _, _, rfl, rfl, .inr ⟨by decide, by decide⟩, (by show 2 ≤ sizeLine; decide), fun v0 hv0 => ?_⟩
    have n0 := same_new (o := .tup [V.int wh, .int (b * 10)]) hv0
    refine ⟨(by show 2 ≤ sizeLine; decide), [(r0, a), (wh, b * 10)], .cons (n0 _ _ h80') (.cons upd_same .nil), by simp, fun x hx => by
      simp only [List.mem_cons, List.not_mem_nil, or_false] at hx
      rcases hx with e | e <;> rw [e]
      · exact bd _ (by simp)
      · refine ⟨by show (0 : Int) < b * 10; omega, ?_, whb⟩
        exact pw (wide_lt (i := b) (j := 10) (a := 130) (b := 4) bb (by decide)) (by decide), fun o3 H11 s11 ho3 => ?_⟩
    obtain ⟨x3, e3, _⟩ := ho3.ex (w := wh) (fun x hx => by
      simp only [List.mem_cons, List.not_mem_nil, or_false] at hx
      rcases hx with e | e <;> rw [e]
      · exact d0
      · exact ⟨0, by show wh - wh = _; omega⟩)
    subst e3
    refine ⟨rfl, _, rfl, ?_⟩
    refine if_false_of (by show decide (V.int x3 = V.non) = false; simp) ?_
    -- one remainder twice
    refine ⟨_, rfl, _, rfl, (by show 2 ≤ sizeLine; decide), fun v1 hv1 => ?_⟩
    refine ⟨_, rfl, _, rfl, (by show 2 ≤ sizeLine; decide), fun v2 hv2 => ?_⟩
    refine ⟨(by show 2 ≤ sizeLine; decide), [(wh, a), (wh, a)], .cons (same_new hv2 _ _ upd_same) (.cons upd_same .nil), by simp, fun x hx => by
      simp only [List.mem_cons, List.not_mem_nil, or_false] at hx
      rcases hx with e | e <;> rw [e] <;> exact ⟨by show (0 : Int) < a; omega, a1, whb⟩, fun o4 H12 s12 ho4 => ?_⟩
    have eo4 := ho4.mod (w := wh) (L := a) (fun x hx => by
      simp only [List.mem_cons, List.not_mem_nil, or_false] at hx
      rcases hx with e | e <;> rw [e] <;> exact ⟨0, by show wh - wh = _; omega⟩) (by omega) (fun x hx => by
      simp only [List.mem_cons, List.not_mem_nil, or_false] at hx
      rcases hx with e | e <;> rw [e] <;> exact Int.dvd_refl _) (fun y z hy hz => by
      have q := Int.dvd_sub (hy _ List.mem_cons_self) (hz _ List.mem_cons_self)
      have e : y - wh - (z - wh) = y - z := by omega
      rwa [e] at q)
    subst eo4
    refine ⟨_, rfl, .inl ⟨_, rfl, ?_⟩⟩
    refine ⟨_, rfl, _, _, rfl, rfl, (by show a ≠ 0; omega), rfl, _, rfl, ?_⟩
    refine if_false_of (by show (!decide (V.int (wh % a) = V.int (wh.fmod a))) = false; rw [Int.fmod_eq_emod_of_nonneg _ (by omega)]; simp) ?_
    have sA : Same H10 H12 := n0.trans (s11.trans ((same_new hv1).trans ((same_new hv2).trans s12)))
    have hL12 := sA _ _ hL10
    -- bent
    refine ⟨_, rfl, L, _, _, _, rfl, rfl, SqL.of hL12, rfl, _, rfl, L, _, _, _, rfl, rfl, SqL.of hL12, rfl, ?_⟩
    refine ⟨_, rfl, _, _, rfl, rfl, _, rfl, (by show 2 ≤ sizeLine; decide), fun v3 hv3 => ?_⟩
    have n3 := same_new (o := .tup [V.int (wh + 1), .int c]) hv3
    refine ⟨(by show 3 ≤ sizeLine; decide), [(r0, a), (r1, b), (wh + 1, c)], .cons (n3 _ _ (sA _ _ h80')) (.cons (n3 _ _ (sA _ _ h81')) (.cons upd_same .nil)), by simp, fun x hx => by
      simp only [List.mem_cons, List.not_mem_nil, or_false] at hx
      rcases hx with e | e | e <;> rw [e]
      · exact bd _ (by simp)
      · exact bd _ (by simp)
      · refine ⟨by show (0 : Int) < c; omega, c1, ?_⟩
        show (wh + 1).natAbs < 2 ^ 1000
        have h3 : (2 : Nat) ^ 200 + 1 ≤ 2 ^ 1000 := by decide
        omega, fun o5 H13 s13 ho5 => ?_⟩
    have two : ∀ z ∈ [a, b], 0 < z ∧ z.natAbs < 2 ^ 1000 := fun z hz => by
      simp only [List.mem_cons, List.not_mem_nil, or_false] at hz
      rcases hz with e | e <;> rw [e] <;> exact ⟨by omega, by assumption⟩
    -- shared
    refine ⟨_, rfl, _, rfl, _, rfl, (by show 2 ≤ sizeLine; decide), [a, b], rfl, two, by simp, fun H14 s14 => ?_⟩
    refine ⟨(by show 2 ≤ sizeLine; decide), [c, ((NM.lcmL [a, b] : Nat) : Int)], rfl, fun H15 s15 => ?_⟩
    have esh : NM.gcdL [c, ((NM.lcmL [a, b] : Nat) : Int)] = Nat.gcd c.natAbs (((NM.lcmL [a, b] : Nat) : Int)).natAbs := by show Nat.gcd (Nat.gcd 0 _) _ = _; rw [Nat.gcd_zero_left]
    have spos : 0 < NM.gcdL [c, ((NM.lcmL [a, b] : Nat) : Int)] := by rw [esh]; exact Nat.gcd_pos_of_pos_left _ (by omega)
    have bentA : ∀ x, NM.Sol [(r0, a), (r1, b), (wh + 1, c)] x → a ∣ x - wh ∧ b ∣ x - wh ∧ c ∣ x - wh - 1 := fun x hx => by
      have g : ∀ r v, v ∣ wh - r → v ∣ x - r → v ∣ x - wh := fun r v h1 h2 => by
        have q := Int.dvd_sub h2 h1
        have e : x - r - (wh - r) = x - wh := by omega
        rwa [e] at q
      refine ⟨g r0 a d0 (hx (r0, a) (by simp)), g r1 b d1 (hx (r1, b) (by simp)), ?_⟩
      have q := hx (wh + 1, c) (by simp)
      have e : x - (wh + 1) = x - wh - 1 := by omega
      rwa [← e]
    have HN : 1 < NM.gcdL [c, ((NM.lcmL [a, b] : Nat) : Int)] → o5 = Option.none := fun hs => by
      cases o5 with
      | none => rfl
      | some x =>
        exfalso
        obtain ⟨da, db, dc⟩ := bentA x ho5.2.1
        have dl : ((NM.lcmL [a, b] : Nat) : Int) ∣ x - wh := NM.lcmL_dvd fun z hz => by
          simp only [List.mem_cons, List.not_mem_nil, or_false] at hz
          rcases hz with e | e <;> rw [e] <;> assumption
        have g1 : ((NM.gcdL [c, ((NM.lcmL [a, b] : Nat) : Int)] : Nat) : Int) ∣ c := by
          rw [esh]; exact Int.dvd_trans (Int.natCast_dvd_natCast.mpr (Nat.gcd_dvd_left _ _)) (Int.natAbs_dvd_self)
        have g2 : ((NM.gcdL [c, ((NM.lcmL [a, b] : Nat) : Int)] : Nat) : Int) ∣ ((NM.lcmL [a, b] : Nat) : Int) := by
          rw [esh]; exact Int.dvd_trans (Int.natCast_dvd_natCast.mpr (Nat.gcd_dvd_right _ _)) (Int.natAbs_dvd_self)
        have q := Int.dvd_sub (Int.dvd_trans g2 dl) (Int.dvd_trans g1 dc)
        have e : x - wh - (x - wh - 1) = 1 := by omega
        rw [e] at q
        have := Int.le_of_dvd (by decide) q
        omega
    have HS : ¬ 1 < NM.gcdL [c, ((NM.lcmL [a, b] : Nat) : Int)] → ∃ x, o5 = some x := fun hs => by
      have h1 : Nat.gcd c.natAbs (((NM.lcmL [a, b] : Nat) : Int)).natAbs = 1 := by rw [← esh]; omega
      obtain ⟨u, hu⟩ := NM.bezout (a := ((NM.lcmL [a, b] : Nat) : Int)) (b := c) (by omega) h1
      have sol : NM.Sol [(r0, a), (r1, b), (wh + 1, c)] (wh + ((NM.lcmL [a, b] : Nat) : Int) * u) := fun x hx => by
        have g : ∀ r v, v ∣ wh - r → v ∈ [a, b] → v ∣ wh + ((NM.lcmL [a, b] : Nat) : Int) * u - r := fun r v h1 h2 => by
          have q := Int.dvd_add h1 (NM.dvd_mr u (NM.dvd_lcmL h2))
          have e : wh - r + ((NM.lcmL [a, b] : Nat) : Int) * u = wh + ((NM.lcmL [a, b] : Nat) : Int) * u - r := by omega
          rwa [e] at q
        simp only [List.mem_cons, List.not_mem_nil, or_false] at hx
        rcases hx with e | e | e <;> rw [e]
        · exact g r0 a d0 (by simp)
        · exact g r1 b d1 (by simp)
        · show c ∣ wh + ((NM.lcmL [a, b] : Nat) : Int) * u - (wh + 1)
          have e : u * ((NM.lcmL [a, b] : Nat) : Int) - 1 = wh + ((NM.lcmL [a, b] : Nat) : Int) * u - (wh + 1) := by rw [Int.mul_comm]; omega
          rwa [e] at hu
      obtain ⟨x, e, _⟩ := ho5.ex sol
      exact ⟨x, e⟩
    have hP15 : Pen H15 p (n + 40) := ((((hP10.same sA).same n3).same s13).same s14).same s15
    refine ⟨fun σ' H' => σ' = [some (.ref p), some (.int wh), some (.int a), some (.int b), some (.int c), some (.int (NM.lcmL [a, b, c])), some (.ref L), some (.int (wh % ((NM.lcmL [a, b, c] : Nat) : Int))), some (oV o5), some (.int (NM.gcdL [c, ((NM.lcmL [a, b] : Nat) : Int)]))] ∧ H' = H15, ?_, ?_⟩
    · refine ⟨_, rfl, _, _, rfl, rfl, _, rfl, ?_⟩
      refine ite2 (fun hs => ?_) (fun hs => ⟨rfl, rfl⟩)
      have hs := of_decide_eq_true hs
      have en := HN (by omega)
      refine ⟨_, rfl, rfl, _, rfl, ?_⟩
      refine if_false_of (by show (!decide (oV o5 = V.non)) = false; rw [en]; rfl) ⟨rfl, rfl⟩
    · rintro σ' H' ⟨rfl, rfl⟩
      refine ⟨_, rfl, _, _, rfl, rfl, _, rfl, ?_⟩
      refine ite2 (fun hs => k _ hP15) (fun hs => ?_)
      have hs : ¬ (1 : Int) < ((NM.gcdL [c, ((NM.lcmL [a, b] : Nat) : Int)] : Nat) : Int) := fun z => hs (decide_eq_true z)
      obtain ⟨x, ex⟩ := HS (by omega)
      subst ex
      obtain ⟨da, db, dc⟩ := bentA x ho5.2.1
      refine ⟨_, rfl, _, rfl, x, wh, rfl, rfl, .inl ⟨_, rfl, ?_⟩⟩
      refine ⟨_, rfl, _, _, rfl, rfl, (by show a ≠ 0; omega), ?_⟩
      refine ⟨_, rfl, _, rfl, x, wh, rfl, rfl, .inl ⟨_, rfl, ?_⟩⟩
      refine ⟨_, rfl, _, _, rfl, rfl, (by show b ≠ 0; omega), ?_⟩
      refine ⟨_, rfl, _, rfl, x, wh, rfl, rfl, _, _, rfl, rfl, .inl ⟨_, rfl, ?_⟩⟩
      refine ⟨_, rfl, _, _, rfl, rfl, (by show c ≠ 0; omega), ?_⟩
      refine ⟨(by show 3 ≤ sizeLine; decide), fun l1 hl1 => ?_⟩
      refine ⟨(by show 3 ≤ sizeLine; decide), fun l2 hl2 => ?_⟩
      have z0 : ∀ {y v : Int}, 0 < v → v ∣ y → y.fmod v = 0 := fun hv hd => by
        rw [Int.fmod_eq_emod_of_nonneg _ (by omega)]; exact Int.emod_eq_zero_of_dvd hd
      refine ⟨.list ([0, 0, 0].map PyData.int), .list ([0, 0, 0].map PyData.int), .lst (SqL.of (xs := [0, 0, 0].map V.int) ?_) (dp_ints _), .lst (SqL.of (xs := [0, 0, 0].map V.int) upd_same) (dp_ints _), PySem.W.ke_shaped_ints _, PySem.W.ke_shaped_ints _, ?_⟩
      · rw [upd_ne (ne_of_none upd_same hl2), upd_same]
        show some (HO.lst [V.int ((x - wh).fmod a), V.int ((x - wh).fmod b), V.int ((x - wh - 1).fmod c)]) = _
        rw [z0 (by omega) da, z0 (by omega) db, z0 (by omega) dc]
        rfl
      · rw [eqv_ints [0, 0, 0]]
        exact k _ (hP15.same ((same_new hl1).trans (same_new hl2)))
--CUT
def spLaw (K : PySem.W.Frag) : Sp := fun vs H Q _ => ∃ (a : Addr) (ns : List Int), vs = [.ref a] ∧ SqL K H a (ns.map V.int) ∧ ns.length ≤ 63 ∧ ∀ H', Q (.bl true) H'
theorem ok_law (T : Txt K mg) : FnOk P w K mg base CX0 9 T.a_law T.fd_law ["_law_script"] (spLaw K) := by
  refine T.F_law.ok sc_law (fun vs H Q E h => ?_) (fun cdv A outer s H vs Q E hr h => ?_)
  · obtain ⟨a, ns, rfl, _⟩ := h; rfl
  · obtain ⟨a, ns, rfl, hS, hl, k⟩ := h
    refine ⟨_, pss_cons (ps_set (i := 1) sc_law.nd rfl (Or.inl rfl) (pe_call (ok_pen T) (hr.mono (by decide)) rfl T.m_pen T.F_pen.kp (b_pen T) .nil pass0 (pa_cons (pv 0) (pa_nil))))
      (pss_cons (ps_for PassesOwn.never rfl (pi_range1 (by rfl) T.n_range (pa_cons (pe_int) (pa_nil))) (pg_name (i := 2) sc_law.nd rfl (Or.inl rfl)) (pss_one (ps_if (PW.pt (pw_or (pt_not (pt_val (pe_call (ok_remainders_right T) (hr.mono (by decide)) rfl T.m_remainders_right T.F_remainders_right.kp (b_remainders_right T) .nil pass0 (pa_cons (pv 1) (pa_nil))))) (pw_or (pt_not (pt_val (pe_call (ok_divisors_right T) (hr.mono (by decide)) rfl T.m_divisors_right T.F_divisors_right.kp (b_divisors_right T) .nil pass0 (pa_cons (pv 1) (pa_nil))))) (pw_or1 (pt_not (pt_val (pe_call (ok_apart_right T) (hr.mono (by decide)) rfl T.m_apart_right T.F_apart_right.kp (b_apart_right T) .nil pass0 (pa_cons (pv 1) (pa_nil))))))))) (pss_one (ps_ret (pe_bl))) (pss_nil))))
      (pss_one (ps_ret (pe_bl)))), ?_⟩
    refine ⟨_, rfl, a, ns, rfl, hS, hl, fun p H1 s1 hP => ?_⟩
    refine ⟨6, rfl, by decide, by decide, for_range (n := 6) (fun i σ H' => ∃ v : Option V, σ = [some (.ref a), some (.ref p), v] ∧ Pen H' p (120 * i)) ⟨_, rfl, hP⟩ ?_ ?_⟩
    · rintro i σ H' hi ⟨v, rfl, hP1⟩
      refine ⟨_, rfl, p, _, rfl, hP1, by omega, fun H2 hP2 => ⟨true, rfl, iteF ?_⟩⟩
      refine ⟨_, rfl, p, _, rfl, hP2, by omega, fun H3 hP3 => ⟨true, rfl, iteF ?_⟩⟩
      refine ⟨_, rfl, p, _, rfl, hP3, by omega, fun H4 hP4 => ⟨true, rfl, iteF ?_⟩⟩
      exact ⟨_, rfl, hP4.mono (by omega)⟩
    · rintro σ H' ⟨v, rfl, hP1⟩
      exact k _


end
theorem all_mk {P : Program} {w : World} {K : PySem.W.Frag} {h : Heap} {mg : Str → Option Value} {fa : Addr} (X : K.In h) (G : h.Ns mainGlobals mg) (hfa : mg "law" = some (.ref fa))
    {f_is_whole : Addr} {od_is_whole an_is_whole : Option Addr} {sl_is_whole : Array (Option Value)} {oc_is_whole kV_is_whole dc_is_whole pm_is_whole cd_is_whole ct_is_whole : Value}
    {f_is_from : Addr} {od_is_from an_is_from : Option Addr} {sl_is_from : Array (Option Value)} {oc_is_from kV_is_from dc_is_from pm_is_from cd_is_from ct_is_from : Value}
    {f_common : Addr} {od_common an_common : Option Addr} {sl_common : Array (Option Value)} {oc_common kV_common dc_common pm_common cd_common ct_common : Value}
    {f_multiple : Addr} {od_multiple an_multiple : Option Addr} {sl_multiple : Array (Option Value)} {oc_multiple kV_multiple dc_multiple pm_multiple cd_multiple ct_multiple : Value}
    {f_apart : Addr} {od_apart an_apart : Option Addr} {sl_apart : Array (Option Value)} {oc_apart kV_apart dc_apart pm_apart cd_apart ct_apart : Value}
    {f_is_part : Addr} {od_is_part an_is_part : Option Addr} {sl_is_part : Array (Option Value)} {oc_is_part kV_is_part dc_is_part pm_is_part cd_is_part ct_is_part : Value}
    {f_together : Addr} {od_together an_together : Option Addr} {sl_together : Array (Option Value)} {oc_together kV_together dc_together pm_together cd_together ct_together : Value}
    {f_inverse : Addr} {od_inverse an_inverse : Option Addr} {sl_inverse : Array (Option Value)} {oc_inverse kV_inverse dc_inverse pm_inverse cd_inverse ct_inverse : Value}
    {f_pen : Addr} {od_pen an_pen : Option Addr} {sl_pen : Array (Option Value)} {oc_pen kV_pen dc_pen pm_pen cd_pen ct_pen : Value}
    {f_draw : Addr} {od_draw an_draw : Option Addr} {sl_draw : Array (Option Value)} {oc_draw kV_draw dc_draw pm_draw cd_draw ct_draw : Value}
    {f_pick : Addr} {od_pick an_pick : Option Addr} {sl_pick : Array (Option Value)} {oc_pick kV_pick dc_pick pm_pick cd_pick ct_pick : Value}
    {f_great : Addr} {od_great an_great : Option Addr} {sl_great : Array (Option Value)} {oc_great kV_great dc_great pm_great cd_great ct_great : Value}
    {f_remainders_right : Addr} {od_remainders_right an_remainders_right : Option Addr} {sl_remainders_right : Array (Option Value)} {oc_remainders_right kV_remainders_right dc_remainders_right pm_remainders_right cd_remainders_right ct_remainders_right : Value}
    {f_divisors_right : Addr} {od_divisors_right an_divisors_right : Option Addr} {sl_divisors_right : Array (Option Value)} {oc_divisors_right kV_divisors_right dc_divisors_right pm_divisors_right cd_divisors_right ct_divisors_right : Value}
    {f_apart_right : Addr} {od_apart_right an_apart_right : Option Addr} {sl_apart_right : Array (Option Value)} {oc_apart_right kV_apart_right dc_apart_right pm_apart_right cd_apart_right ct_apart_right : Value}
    {f_law : Addr} {od_law an_law : Option Addr} {sl_law : Array (Option Value)} {oc_law kV_law dc_law pm_law cd_law ct_law : Value}
    (a_is_whole : PySem.W.nsIn K mainGlobals "is_whole" = some (some (.ref f_is_whole)))
    (l_is_whole : K.lookup f_is_whole = some ⟨oc_is_whole, od_is_whole, .func (PySem.W.fnOf "is_whole" "is_whole" (defArgs s_is_whole) (defBody s_is_whole) (defScope s_is_whole) .none kV_is_whole dc_is_whole pm_is_whole an_is_whole cd_is_whole ct_is_whole), sl_is_whole⟩)
    (c_is_whole : PySem.W.codeIn K cd_is_whole "is_whole" = true)
    (k_is_whole : PySem.W.keepIn K (.ref f_is_whole) = true)
    (a_is_from : PySem.W.nsIn K mainGlobals "is_from" = some (some (.ref f_is_from)))
    (l_is_from : K.lookup f_is_from = some ⟨oc_is_from, od_is_from, .func (PySem.W.fnOf "is_from" "is_from" (defArgs s_is_from) (defBody s_is_from) (defScope s_is_from) .none kV_is_from dc_is_from pm_is_from an_is_from cd_is_from ct_is_from), sl_is_from⟩)
    (c_is_from : PySem.W.codeIn K cd_is_from "is_from" = true)
    (k_is_from : PySem.W.keepIn K (.ref f_is_from) = true)
    (a_common : PySem.W.nsIn K mainGlobals "common" = some (some (.ref f_common)))
    (l_common : K.lookup f_common = some ⟨oc_common, od_common, .func (PySem.W.fnOf "common" "common" (defArgs s_common) (defBody s_common) (defScope s_common) .none kV_common dc_common pm_common an_common cd_common ct_common), sl_common⟩)
    (c_common : PySem.W.codeIn K cd_common "common" = true)
    (k_common : PySem.W.keepIn K (.ref f_common) = true)
    (a_multiple : PySem.W.nsIn K mainGlobals "multiple" = some (some (.ref f_multiple)))
    (l_multiple : K.lookup f_multiple = some ⟨oc_multiple, od_multiple, .func (PySem.W.fnOf "multiple" "multiple" (defArgs s_multiple) (defBody s_multiple) (defScope s_multiple) .none kV_multiple dc_multiple pm_multiple an_multiple cd_multiple ct_multiple), sl_multiple⟩)
    (c_multiple : PySem.W.codeIn K cd_multiple "multiple" = true)
    (k_multiple : PySem.W.keepIn K (.ref f_multiple) = true)
    (a_apart : PySem.W.nsIn K mainGlobals "apart" = some (some (.ref f_apart)))
    (l_apart : K.lookup f_apart = some ⟨oc_apart, od_apart, .func (PySem.W.fnOf "apart" "apart" (defArgs s_apart) (defBody s_apart) (defScope s_apart) .none kV_apart dc_apart pm_apart an_apart cd_apart ct_apart), sl_apart⟩)
    (c_apart : PySem.W.codeIn K cd_apart "apart" = true)
    (k_apart : PySem.W.keepIn K (.ref f_apart) = true)
    (a_is_part : PySem.W.nsIn K mainGlobals "is_part" = some (some (.ref f_is_part)))
    (l_is_part : K.lookup f_is_part = some ⟨oc_is_part, od_is_part, .func (PySem.W.fnOf "is_part" "is_part" (defArgs s_is_part) (defBody s_is_part) (defScope s_is_part) .none kV_is_part dc_is_part pm_is_part an_is_part cd_is_part ct_is_part), sl_is_part⟩)
    (c_is_part : PySem.W.codeIn K cd_is_part "is_part" = true)
    (k_is_part : PySem.W.keepIn K (.ref f_is_part) = true)
    (a_together : PySem.W.nsIn K mainGlobals "together" = some (some (.ref f_together)))
    (l_together : K.lookup f_together = some ⟨oc_together, od_together, .func (PySem.W.fnOf "together" "together" (defArgs s_together) (defBody s_together) (defScope s_together) .none kV_together dc_together pm_together an_together cd_together ct_together), sl_together⟩)
    (c_together : PySem.W.codeIn K cd_together "together" = true)
    (k_together : PySem.W.keepIn K (.ref f_together) = true)
    (a_inverse : PySem.W.nsIn K mainGlobals "inverse" = some (some (.ref f_inverse)))
    (l_inverse : K.lookup f_inverse = some ⟨oc_inverse, od_inverse, .func (PySem.W.fnOf "inverse" "inverse" (defArgs s_inverse) (defBody s_inverse) (defScope s_inverse) .none kV_inverse dc_inverse pm_inverse an_inverse cd_inverse ct_inverse), sl_inverse⟩)
    (c_inverse : PySem.W.codeIn K cd_inverse "inverse" = true)
    (k_inverse : PySem.W.keepIn K (.ref f_inverse) = true)
    (a_pen : PySem.W.nsIn K mainGlobals "_law_pen" = some (some (.ref f_pen)))
    (l_pen : K.lookup f_pen = some ⟨oc_pen, od_pen, .func (PySem.W.fnOf "_law_pen" "_law_pen" (defArgs s_pen) (defBody s_pen) (defScope s_pen) .none kV_pen dc_pen pm_pen an_pen cd_pen ct_pen), sl_pen⟩)
    (c_pen : PySem.W.codeIn K cd_pen "_law_pen" = true)
    (k_pen : PySem.W.keepIn K (.ref f_pen) = true)
    (a_draw : PySem.W.nsIn K mainGlobals "_law_draw" = some (some (.ref f_draw)))
    (l_draw : K.lookup f_draw = some ⟨oc_draw, od_draw, .func (PySem.W.fnOf "_law_draw" "_law_draw" (defArgs s_draw) (defBody s_draw) (defScope s_draw) .none kV_draw dc_draw pm_draw an_draw cd_draw ct_draw), sl_draw⟩)
    (c_draw : PySem.W.codeIn K cd_draw "_law_draw" = true)
    (k_draw : PySem.W.keepIn K (.ref f_draw) = true)
    (a_pick : PySem.W.nsIn K mainGlobals "_law_pick" = some (some (.ref f_pick)))
    (l_pick : K.lookup f_pick = some ⟨oc_pick, od_pick, .func (PySem.W.fnOf "_law_pick" "_law_pick" (defArgs s_pick) (defBody s_pick) (defScope s_pick) .none kV_pick dc_pick pm_pick an_pick cd_pick ct_pick), sl_pick⟩)
    (c_pick : PySem.W.codeIn K cd_pick "_law_pick" = true)
    (k_pick : PySem.W.keepIn K (.ref f_pick) = true)
    (a_great : PySem.W.nsIn K mainGlobals "_law_great" = some (some (.ref f_great)))
    (l_great : K.lookup f_great = some ⟨oc_great, od_great, .func (PySem.W.fnOf "_law_great" "_law_great" (defArgs s_great) (defBody s_great) (defScope s_great) .none kV_great dc_great pm_great an_great cd_great ct_great), sl_great⟩)
    (c_great : PySem.W.codeIn K cd_great "_law_great" = true)
    (k_great : PySem.W.keepIn K (.ref f_great) = true)
    (a_remainders_right : PySem.W.nsIn K mainGlobals "_law_remainders_right" = some (some (.ref f_remainders_right)))
    (l_remainders_right : K.lookup f_remainders_right = some ⟨oc_remainders_right, od_remainders_right, .func (PySem.W.fnOf "_law_remainders_right" "_law_remainders_right" (defArgs s_remainders_right) (defBody s_remainders_right) (defScope s_remainders_right) .none kV_remainders_right dc_remainders_right pm_remainders_right an_remainders_right cd_remainders_right ct_remainders_right), sl_remainders_right⟩)
    (c_remainders_right : PySem.W.codeIn K cd_remainders_right "_law_remainders_right" = true)
    (k_remainders_right : PySem.W.keepIn K (.ref f_remainders_right) = true)
    (a_divisors_right : PySem.W.nsIn K mainGlobals "_law_divisors_right" = some (some (.ref f_divisors_right)))
    (l_divisors_right : K.lookup f_divisors_right = some ⟨oc_divisors_right, od_divisors_right, .func (PySem.W.fnOf "_law_divisors_right" "_law_divisors_right" (defArgs s_divisors_right) (defBody s_divisors_right) (defScope s_divisors_right) .none kV_divisors_right dc_divisors_right pm_divisors_right an_divisors_right cd_divisors_right ct_divisors_right), sl_divisors_right⟩)
    (c_divisors_right : PySem.W.codeIn K cd_divisors_right "_law_divisors_right" = true)
    (k_divisors_right : PySem.W.keepIn K (.ref f_divisors_right) = true)
    (a_apart_right : PySem.W.nsIn K mainGlobals "_law_apart_right" = some (some (.ref f_apart_right)))
    (l_apart_right : K.lookup f_apart_right = some ⟨oc_apart_right, od_apart_right, .func (PySem.W.fnOf "_law_apart_right" "_law_apart_right" (defArgs s_apart_right) (defBody s_apart_right) (defScope s_apart_right) .none kV_apart_right dc_apart_right pm_apart_right an_apart_right cd_apart_right ct_apart_right), sl_apart_right⟩)
    (c_apart_right : PySem.W.codeIn K cd_apart_right "_law_apart_right" = true)
    (k_apart_right : PySem.W.keepIn K (.ref f_apart_right) = true)
    (a_law : PySem.W.nsIn K mainGlobals "law" = some (some (.ref f_law)))
    (l_law : K.lookup f_law = some ⟨oc_law, od_law, .func (PySem.W.fnOf "law" "law" (defArgs s_law) (defBody s_law) (defScope s_law) .none kV_law dc_law pm_law an_law cd_law ct_law), sl_law⟩)
    (c_law : PySem.W.codeIn K cd_law "law" = true)
    (k_law : PySem.W.keepIn K (.ref f_law) = true)
    (i_gcd : PySem.W.nsIn K mainGlobals "gcd" = some (some (.builtin "math.gcd")))
    (z_ValueError : PySem.W.nsIn K mainGlobals "ValueError" = some none)
    (z_abs : PySem.W.nsIn K mainGlobals "abs" = some none)
    (z_bool : PySem.W.nsIn K mainGlobals "bool" = some none)
    (z_int : PySem.W.nsIn K mainGlobals "int" = some none)
    (z_isinstance : PySem.W.nsIn K mainGlobals "isinstance" = some none)
    (z_len : PySem.W.nsIn K mainGlobals "len" = some none)
    (z_list : PySem.W.nsIn K mainGlobals "list" = some none)
    (z_min : PySem.W.nsIn K mainGlobals "min" = some none)
    (z_range : PySem.W.nsIn K mainGlobals "range" = some none)
    (z_tuple : PySem.W.nsIn K mainGlobals "tuple" = some none) :
    ∃ fd : FuncData, (∀ (s : Shared) (v : Value), BindsTo s fd ⟨[v], []⟩ [("_law_script", v)]) ∧ ∀ base : Heap, K.In base → base.Ns mainGlobals mg → FnOk P w K mg base CX0 9 fa fd ["_law_script"] (spLaw K) := by
  have e := hfa.symm.trans (PySem.W.mg_of X G a_law)
  cases e
  refine ⟨PySem.W.fnOf "law" "law" (defArgs s_law) (defBody s_law) (defScope s_law) .none kV_law dc_law pm_law an_law cd_law ct_law, fun s v => .of_eq rfl, fun base _ _ => ?_⟩
  exact ok_law (P := P) (w := w) (base := base) (T := { a_is_whole := f_is_whole, fd_is_whole := _, F_is_whole := fun_mk (st := s_is_whole) l_is_whole c_is_whole k_is_whole, m_is_whole := PySem.W.mg_of X G a_is_whole, a_is_from := f_is_from, fd_is_from := _, F_is_from := fun_mk (st := s_is_from) l_is_from c_is_from k_is_from, m_is_from := PySem.W.mg_of X G a_is_from, a_common := f_common, fd_common := _, F_common := fun_mk (st := s_common) l_common c_common k_common, m_common := PySem.W.mg_of X G a_common, a_multiple := f_multiple, fd_multiple := _, F_multiple := fun_mk (st := s_multiple) l_multiple c_multiple k_multiple, m_multiple := PySem.W.mg_of X G a_multiple, a_apart := f_apart, fd_apart := _, F_apart := fun_mk (st := s_apart) l_apart c_apart k_apart, m_apart := PySem.W.mg_of X G a_apart, a_is_part := f_is_part, fd_is_part := _, F_is_part := fun_mk (st := s_is_part) l_is_part c_is_part k_is_part, m_is_part := PySem.W.mg_of X G a_is_part, a_together := f_together, fd_together := _, F_together := fun_mk (st := s_together) l_together c_together k_together, m_together := PySem.W.mg_of X G a_together, a_inverse := f_inverse, fd_inverse := _, F_inverse := fun_mk (st := s_inverse) l_inverse c_inverse k_inverse, m_inverse := PySem.W.mg_of X G a_inverse, a_pen := f_pen, fd_pen := _, F_pen := fun_mk (st := s_pen) l_pen c_pen k_pen, m_pen := PySem.W.mg_of X G a_pen, a_draw := f_draw, fd_draw := _, F_draw := fun_mk (st := s_draw) l_draw c_draw k_draw, m_draw := PySem.W.mg_of X G a_draw, a_pick := f_pick, fd_pick := _, F_pick := fun_mk (st := s_pick) l_pick c_pick k_pick, m_pick := PySem.W.mg_of X G a_pick, a_great := f_great, fd_great := _, F_great := fun_mk (st := s_great) l_great c_great k_great, m_great := PySem.W.mg_of X G a_great, a_remainders_right := f_remainders_right, fd_remainders_right := _, F_remainders_right := fun_mk (st := s_remainders_right) l_remainders_right c_remainders_right k_remainders_right, m_remainders_right := PySem.W.mg_of X G a_remainders_right, a_divisors_right := f_divisors_right, fd_divisors_right := _, F_divisors_right := fun_mk (st := s_divisors_right) l_divisors_right c_divisors_right k_divisors_right, m_divisors_right := PySem.W.mg_of X G a_divisors_right, a_apart_right := f_apart_right, fd_apart_right := _, F_apart_right := fun_mk (st := s_apart_right) l_apart_right c_apart_right k_apart_right, m_apart_right := PySem.W.mg_of X G a_apart_right, a_law := fa, fd_law := _, F_law := fun_mk (st := s_law) l_law c_law k_law, m_law := PySem.W.mg_of X G a_law, m_gcd := PySem.W.mg_of X G i_gcd, n_ValueError := PySem.W.mg_none_of X G z_ValueError, n_abs := PySem.W.mg_none_of X G z_abs, n_bool := PySem.W.mg_none_of X G z_bool, n_int := PySem.W.mg_none_of X G z_int, n_isinstance := PySem.W.mg_none_of X G z_isinstance, n_len := PySem.W.mg_none_of X G z_len, n_list := PySem.W.mg_none_of X G z_list, n_min := PySem.W.mg_none_of X G z_min, n_range := PySem.W.mg_none_of X G z_range, n_tuple := PySem.W.mg_none_of X G z_tuple })
theorem walk {l : PySem.W.OpenLaw} {q : Program} {loose : List Str} {XP : (Str → Option Value) → Heap → Prop} {YP : World → Heap → Prop} {d : DefRec} {K : Params → PySem.W.Frag} (hn : l.most = some 63) (hdf : d.params.defaults = [])
    (hY : ∀ (w : World) (h : Heap), YP w h → (K w.params).In h)
    (F : ∀ (w : World) (mg : Str → Option Value) (fa : Addr) (h : Heap), (K w.params).In h → h.Ns mainGlobals mg → mg d.name = some (.ref fa) →
      ∃ fd : FuncData, (∀ (s : Shared) (u : Value), BindsTo s fd ⟨[u], []⟩ [("_law_script", u)]) ∧ ∀ base : Heap, (K w.params).In base → base.Ns mainGlobals mg → FnOk l.prog w (K w.params) mg base CX0 9 fa fd ["_law_script"] (spLaw (K w.params))) :
    PySem.W.WalkO q loose XP YP l.row.toRowW d [] (fun f vs => PySem.call f vs) :=
  L2.walk_of (n := 63) (k := 9) (x := "_law_script") (CX := fun _ => CX0) (sp := fun w => spLaw (K w.params)) hn (by decide) hdf ⟨rfl, by decide, by decide⟩ hY F (fun _ _ a ns hl _ hS => ⟨a, ns, rfl, hS, hl, fun _ => rfl⟩) fun _ _ _ _ _ z => z
end My
open PySem PySem.W PyProof.Rows in
set_option maxRecDepth 100000 in
set_option maxHeartbeats 0 in
theorem PySem.Challenge.cw_wheelreach_k04_whole_great_numbers_holds : PySem.Challenge.rw_wheelreach_k04_whole_great_numbers.Holds := by
  w_on; o_law; k_head; (case hw => w_witness2)
  k_fill
  refine My.walk (l := PySem.Challenge.rw_wheelreach_k04_whole_great_numbers) rfl rfl (fun w h Y => PySem.W.kIn_of Y) ?F
  case F =>
    intro w mg fa h KX G hmg
    refine' My.all_mk KX G hmg ?a_is_whole ?l_is_whole ?c_is_whole ?k_is_whole ?a_is_from ?l_is_from ?c_is_from ?k_is_from ?a_common ?l_common ?c_common ?k_common ?a_multiple ?l_multiple ?c_multiple ?k_multiple ?a_apart ?l_apart ?c_apart ?k_apart ?a_is_part ?l_is_part ?c_is_part ?k_is_part ?a_together ?l_together ?c_together ?k_together ?a_inverse ?l_inverse ?c_inverse ?k_inverse ?a_pen ?l_pen ?c_pen ?k_pen ?a_draw ?l_draw ?c_draw ?k_draw ?a_pick ?l_pick ?c_pick ?k_pick ?a_great ?l_great ?c_great ?k_great ?a_remainders_right ?l_remainders_right ?c_remainders_right ?k_remainders_right ?a_divisors_right ?l_divisors_right ?c_divisors_right ?k_divisors_right ?a_apart_right ?l_apart_right ?c_apart_right ?k_apart_right ?a_law ?l_law ?c_law ?k_law ?i_gcd ?z_ValueError ?z_abs ?z_bool ?z_int ?z_isinstance ?z_len ?z_list ?z_min ?z_range ?z_tuple
    (case a_is_whole => k_is)
    (case l_is_whole => k_is)
    (case c_is_whole => k_is)
    (case k_is_whole => k_is)
    (case a_is_from => k_is)
    (case l_is_from => k_is)
    (case c_is_from => k_is)
    (case k_is_from => k_is)
    (case a_common => k_is)
    (case l_common => k_is)
    (case c_common => k_is)
    (case k_common => k_is)
    (case a_multiple => k_is)
    (case l_multiple => k_is)
    (case c_multiple => k_is)
    (case k_multiple => k_is)
    (case a_apart => k_is)
    (case l_apart => k_is)
    (case c_apart => k_is)
    (case k_apart => k_is)
    (case a_is_part => k_is)
    (case l_is_part => k_is)
    (case c_is_part => k_is)
    (case k_is_part => k_is)
    (case a_together => k_is)
    (case l_together => k_is)
    (case c_together => k_is)
    (case k_together => k_is)
    (case a_inverse => k_is)
    (case l_inverse => k_is)
    (case c_inverse => k_is)
    (case k_inverse => k_is)
    (case a_pen => k_is)
    (case l_pen => k_is)
    (case c_pen => k_is)
    (case k_pen => k_is)
    (case a_draw => k_is)
    (case l_draw => k_is)
    (case c_draw => k_is)
    (case k_draw => k_is)
    (case a_pick => k_is)
    (case l_pick => k_is)
    (case c_pick => k_is)
    (case k_pick => k_is)
    (case a_great => k_is)
    (case l_great => k_is)
    (case c_great => k_is)
    (case k_great => k_is)
    (case a_remainders_right => k_is)
    (case l_remainders_right => k_is)
    (case c_remainders_right => k_is)
    (case k_remainders_right => k_is)
    (case a_divisors_right => k_is)
    (case l_divisors_right => k_is)
    (case c_divisors_right => k_is)
    (case k_divisors_right => k_is)
    (case a_apart_right => k_is)
    (case l_apart_right => k_is)
    (case c_apart_right => k_is)
    (case k_apart_right => k_is)
    (case a_law => k_is)
    (case l_law => k_is)
    (case c_law => k_is)
    (case k_law => k_is)
    (case i_gcd => k_is)
    (case z_ValueError => k_is)
    (case z_abs => k_is)
    (case z_bool => k_is)
    (case z_int => k_is)
    (case z_isinstance => k_is)
    (case z_len => k_is)
    (case z_list => k_is)
    (case z_min => k_is)
    (case z_range => k_is)
    (case z_tuple => k_is)
