import PyProof.Rows.All
import Wide.All
import OpenK.AllK
import Wide.FinOn
import HandS.ForMost
import HandS.ForExc
import HandS.Star
import HandS.Gcd
import HandS.Wide
import HandS.IsInst
import HandS.Style
import HandS.Codes
import HandS.Lambda
import HandS.EndTab
import KE.KExcIs
import HandS.ExcInit
import HandS.ExcIs
import PySem.Challenge.RW_wheelreach_k03_remainders_put_together
set_option Elab.async false
set_option linter.all false
set_option maxRecDepth 100000
set_option maxHeartbeats 4000000
/-! Numbers: divisors, multiples, remainders put together, as plain functions, and what holds of them. -/
namespace NM

/-! ### common, multiple -/
def gcdL (ns : List Int) : Nat := ns.foldl (fun g n => Nat.gcd g n.natAbs) 0
def lcmL (ns : List Int) : Nat := ns.foldl (fun g n => Nat.lcm g n.natAbs) 1
theorem gcdL_snoc (l : List Int) (z : Int) : gcdL (l ++ [z]) = Nat.gcd (gcdL l) z.natAbs := by
  unfold gcdL; rw [List.foldl_append]; rfl
theorem lcmL_snoc (l : List Int) (z : Int) : lcmL (l ++ [z]) = Nat.lcm (lcmL l) z.natAbs := by
  unfold lcmL; rw [List.foldl_append]; rfl
theorem take_snoc {α : Type} : ∀ {l : List α} {i : Nat} {x : α}, l[i]? = some x → l.take (i + 1) = l.take i ++ [x]
  | [], i, x, h => by simp at h
  | a :: l, 0, x, h => by
    have e : a = x := Option.some.inj h
    subst e
    rfl
  | a :: l, i + 1, x, h => by
    have ih := take_snoc (l := l) (i := i) (x := x) h
    show a :: l.take (i + 1) = a :: l.take i ++ [x]
    rw [ih]
    rfl
theorem lcm_step {f n : Int} (hf : 0 < f) (hn : 0 < n) : f / ((Nat.gcd f.natAbs n.natAbs : Nat) : Int) * n = ((Nat.lcm f.natAbs n.natAbs : Nat) : Int) := by
  obtain ⟨a, rfl⟩ : ∃ a : Nat, f = (a : Int) := ⟨f.toNat, by omega⟩
  obtain ⟨b, rfl⟩ : ∃ b : Nat, n = (b : Int) := ⟨n.toNat, by omega⟩
  simp only [Int.natAbs_natCast]
  have h := Nat.gcd_dvd_left a b
  rw [← Int.natCast_ediv, ← Int.natCast_mul]
  congr 1
  unfold Nat.lcm
  rw [Nat.mul_comm (a / _) b, Nat.mul_comm a b, Nat.mul_div_assoc _ h]
theorem lcmL_pos {l : List Int} (h : ∀ z ∈ l, 0 < z) : 0 < lcmL l := by
  unfold lcmL
  suffices ∀ (l : List Int) (a : Nat), 0 < a → (∀ z ∈ l, 0 < z) → 0 < l.foldl (fun g n => Nat.lcm g n.natAbs) a from this l 1 (by decide) h
  intro l
  induction l with
  | nil => intro a ha _; exact ha
  | cons z l ih =>
    intro a ha h
    refine ih _ ?_ (fun y hy => h y (List.mem_cons_of_mem _ hy))
    have hz := h z List.mem_cons_self
    exact Nat.lcm_pos ha (by omega)
theorem lcm_le_mul {a b : Nat} (ha : 0 < a) (hb : 0 < b) : Nat.lcm a b ≤ a * b := Nat.le_of_dvd (Nat.mul_pos ha hb) (Nat.lcm_dvd_mul a b)

/-! ### how far from a multiple -/
def apartI (d p : Int) : Int := if p - d % p < d % p then p - d % p else d % p
theorem apart_nn {d p : Int} (hp : 0 < p) : 0 ≤ apartI d p := by
  unfold apartI
  have h1 := Int.emod_nonneg d (show p ≠ 0 by omega)
  have h2 := Int.emod_lt_of_pos d hp
  split <;> omega
theorem apart_half {d p : Int} (hp : 0 < p) : 2 * apartI d p ≤ p := by
  unfold apartI
  have h1 := Int.emod_nonneg d (show p ≠ 0 by omega)
  have h2 := Int.emod_lt_of_pos d hp
  split <;> omega
/-- the nearest multiple is that far away -/
theorem apart_at {d p : Int} (hp : 0 < p) : ∃ k, d = p * k + apartI d p ∨ d = p * k - apartI d p := by
  have e := Int.mul_ediv_add_emod d p
  unfold apartI
  split
  · refine ⟨d / p + 1, .inr ?_⟩
    rw [Int.mul_add]; omega
  · exact ⟨d / p, .inl (by omega)⟩
/-- no multiple is nearer -/
theorem apart_le {d p : Int} (hp : 0 < p) (k a : Int) (h : d = p * k + a) : apartI d p ≤ (a.natAbs : Int) := by
  have e1 : d % p = a % p := by rw [h, Int.add_comm, Int.add_mul_emod_self_left]
  have h1 := Int.emod_nonneg a (show p ≠ 0 by omega)
  have h2 := Int.emod_lt_of_pos a hp
  have e := Int.mul_ediv_add_emod a p
  unfold apartI
  rw [e1]
  by_cases h0 : 0 ≤ a
  · have : a % p ≤ a := by
      have : 0 ≤ a / p := Int.ediv_nonneg h0 (by omega)
      have := Int.mul_nonneg (show 0 ≤ p by omega) this
      omega
    split <;> omega
  · have hq : a / p ≤ -1 := by
      have := Int.ediv_lt_of_lt_mul hp (show a < 0 * p by omega)
      omega
    have : p * (a / p) ≤ p * (-1) := Int.mul_le_mul_of_nonneg_left hq (by omega)
    split <;> omega
theorem apart_neg {d p : Int} (hp : 0 < p) : apartI (-d) p = apartI d p := by
  have aux : ∀ x : Int, apartI (-x) p ≤ apartI x p := fun x => by
    obtain ⟨k, h | h⟩ := apart_at (d := x) hp
    · have := apart_le (d := -x) hp (-k) (-apartI x p) (by rw [Int.mul_neg]; omega)
      have := apart_nn (d := x) hp
      omega
    · have := apart_le (d := -x) hp (-k) (apartI x p) (by rw [Int.mul_neg]; omega)
      have := apart_nn (d := x) hp
      omega
  have h1 := aux d
  have h2 := aux (-d)
  rw [Int.neg_neg] at h2
  omega
theorem apart_round {d p : Int} (hp : 0 < p) (k : Int) : apartI (d + p * k) p = apartI d p := by
  unfold apartI
  rw [Int.add_mul_emod_self_left]
theorem apart_tri {d e p : Int} (hp : 0 < p) : apartI (d + e) p ≤ apartI d p + apartI e p := by
  have n1 := apart_nn (d := d) hp
  have n2 := apart_nn (d := e) hp
  obtain ⟨k, h⟩ := apart_at (d := d) hp
  obtain ⟨l, g⟩ := apart_at (d := e) hp
  have fin : ∀ a : Int, d + e = p * (k + l) + a → (a.natAbs : Int) ≤ apartI d p + apartI e p → apartI (d + e) p ≤ apartI d p + apartI e p := fun a ha hb =>
    Int.le_trans (apart_le hp (k + l) a ha) hb
  have ex : p * (k + l) = p * k + p * l := Int.mul_add _ _ _
  rcases h with h | h <;> rcases g with g | g
  · exact fin (apartI d p + apartI e p) (by rw [ex]; omega) (by omega)
  · exact fin (apartI d p - apartI e p) (by rw [ex]; omega) (by omega)
  · exact fin (-apartI d p + apartI e p) (by rw [ex]; omega) (by omega)
  · exact fin (-apartI d p - apartI e p) (by rw [ex]; omega) (by omega)
theorem apart_mult {p k : Int} (hp : 0 < p) : apartI (p * k) p = 0 := by
  unfold apartI
  rw [Int.mul_emod_right]
  split <;> omega
theorem apart_self {p : Int} (hp : 0 < p) : apartI p p = 0 := by
  have h := apart_mult (k := 1) hp
  rwa [Int.mul_one] at h
theorem apart_reach {d p : Int} (hp : 0 < p) : apartI (d - apartI d p) p = 0 ∨ apartI (d + apartI d p) p = 0 := by
  obtain ⟨k, h | h⟩ := apart_at (d := d) hp
  · left
    have e : d - apartI d p = p * k := by omega
    rw [e]; exact apart_mult hp
  · right
    have e : d + apartI d p = p * k := by omega
    rw [e]; exact apart_mult hp

theorem gcd_emod (a b : Int) : Int.gcd (a % b) b = Int.gcd a b := by
  have e := Int.mul_ediv_add_emod a b
  have h : a % b = a - a / b * b := by rw [Int.mul_comm]; omega
  rw [h]; exact Int.gcd_sub_mul_right_left _ _ _
/-! ### the inverse, by Euclid's division -/
structure Euc (number divisor left right found following : Int) : Prop where
  l : 0 < left
  r : 0 ≤ right
  rl : right < left ∨ left = divisor
  le : left ≤ divisor
  rd : right < divisor
  g : Nat.gcd left.natAbs right.natAbs = Nat.gcd divisor.natAbs number.natAbs
  c1 : divisor ∣ found * number - left
  c2 : divisor ∣ following * number - right
  s : (found ≤ 0 ∧ 0 ≤ following ∧ left * following - right * found = divisor) ∨ (0 ≤ found ∧ following ≤ 0 ∧ right * found - left * following = divisor)
theorem Euc.start {number divisor : Int} (hd : 0 < divisor) : Euc number divisor divisor (number % divisor) 0 1 where
  l := hd
  r := Int.emod_nonneg _ (by omega)
  rl := .inr rfl
  le := Int.le_refl _
  rd := Int.emod_lt_of_pos _ hd
  g := by
    have e := Int.mul_ediv_add_emod number divisor
    have h : ((Nat.gcd divisor.natAbs (number % divisor).natAbs : Nat) : Int) = ((Nat.gcd divisor.natAbs number.natAbs : Nat) : Int) := by
      show ((Int.gcd divisor (number % divisor) : Nat) : Int) = ((Int.gcd divisor number : Nat) : Int)
      congr 1
      rw [Int.gcd_comm, Int.gcd_comm divisor number]
      exact gcd_emod _ _
    exact Int.natCast_inj.mp h
  c1 := ⟨-1, by omega⟩
  c2 := by
    have e := Int.mul_ediv_add_emod number divisor
    exact ⟨number / divisor, by omega⟩
  s := .inl ⟨Int.le_refl _, by omega, by omega⟩
theorem Euc.turn {number divisor left right found following : Int} (E : Euc number divisor left right found following) (h : right ≠ 0) :
    Euc number divisor right (left - left / right * right) following (found - left / right * following) := by
  have hr : 0 < right := by have := E.r; omega
  have e := Int.mul_ediv_add_emod left right
  have em : left - left / right * right = left % right := by rw [Int.mul_comm]; omega
  have h1 := Int.emod_nonneg left (show right ≠ 0 by omega)
  have h2 := Int.emod_lt_of_pos left hr
  have hq : 0 ≤ left / right := Int.ediv_nonneg (Int.le_of_lt E.l) (by omega)
  have lrd := E.rd
  refine ⟨hr, by omega, .inl (by omega), by omega, by omega, ?_, E.c2, ?_, ?_⟩
  · rw [← E.g, em]
    show Int.gcd right (left % right) = Int.gcd left right
    rw [Int.gcd_comm]
    exact gcd_emod _ _
  · obtain ⟨a, ha⟩ := E.c1
    obtain ⟨b, hb⟩ := E.c2
    refine ⟨a - left / right * b, ?_⟩
    rw [Int.sub_mul, Int.mul_sub]
    have x1 : left / right * following * number = left / right * (following * number) := Int.mul_assoc _ _ _
    have x2 : divisor * (left / right * b) = left / right * (divisor * b) := by rw [← Int.mul_assoc, Int.mul_comm divisor, Int.mul_assoc]
    rw [x1, x2, ← hb, ← ha, Int.mul_sub]
    omega
  · have hm : ∀ x : Int, 0 ≤ x → 0 ≤ left / right * x := fun x hx => Int.mul_nonneg hq hx
    have hn : ∀ x : Int, x ≤ 0 → left / right * x ≤ 0 := fun x hx => by
      have := Int.mul_nonneg hq (show 0 ≤ -x by omega)
      rw [Int.mul_neg] at this
      omega
    have y1 : right * (found - left / right * following) = right * found - right * (left / right * following) := Int.mul_sub _ _ _
    have y2 : (left - left / right * right) * following = left * following - left / right * right * following := Int.sub_mul _ _ _
    have y3 : left / right * right * following = right * (left / right * following) := by rw [Int.mul_comm (left / right) right, Int.mul_assoc]
    rcases E.s with ⟨s1, s2, s3⟩ | ⟨s1, s2, s3⟩
    · refine .inr ⟨s2, by have := hm _ s2; omega, ?_⟩
      rw [y1, y2, y3]; omega
    · refine .inl ⟨s2, by have := hn _ s2; omega, ?_⟩
      rw [y1, y2, y3]; omega
theorem Euc.less {number divisor left right found following : Int} (E : Euc number divisor left right found following) (h : right ≠ 0) : (left - left / right * right).toNat < right.toNat := by
  have hr : 0 < right := by have := E.r; omega
  have e := Int.mul_ediv_add_emod left right
  have em : left - left / right * right = left % right := by rw [Int.mul_comm]; omega
  have h1 := Int.emod_nonneg left (show right ≠ 0 by omega)
  have h2 := Int.emod_lt_of_pos left hr
  omega
/-- the sizes -/
theorem Euc.size {number divisor left right found following : Int} (E : Euc number divisor left right found following) : following.natAbs ≤ divisor.natAbs ∧ (right ≠ 0 → found.natAbs ≤ divisor.natAbs) := by
  have l := E.l
  have r := E.r
  have key : ∀ a b c e : Int, 0 < a → 0 ≤ b → 0 ≤ c → 0 ≤ e → a * c + b * e = divisor → c ≤ divisor ∧ (b ≠ 0 → e ≤ divisor) := fun a b c e ha hb hc he h => by
    have p1 := Int.mul_nonneg hb he
    have p2 : c ≤ a * c := by
      have := Int.mul_le_mul_of_nonneg_right (show 1 ≤ a by omega) hc
      omega
    refine ⟨by omega, fun hb0 => ?_⟩
    have p3 : e ≤ b * e := by
      have := Int.mul_le_mul_of_nonneg_right (show 1 ≤ b by omega) he
      omega
    have p4 := Int.mul_nonneg (Int.le_of_lt ha) hc
    omega
  rcases E.s with ⟨s1, s2, s3⟩ | ⟨s1, s2, s3⟩
  · have k := key left right following (-found) l r s2 (by omega) (by rw [Int.mul_neg]; omega)
    exact ⟨by omega, fun h => by have := k.2 h; omega⟩
  · have k := key left right (-following) found l r (by omega) s1 (by rw [Int.mul_neg]; omega)
    exact ⟨by omega, fun h => by have := k.2 h; omega⟩
theorem Euc.fin {number divisor left found following : Int} (E : Euc number divisor left 0 found following) (hg : Nat.gcd divisor.natAbs number.natAbs = 1) : divisor ∣ found * number - 1 := by
  have g := E.g
  rw [hg] at g
  have l := E.l
  have : left = 1 := by
    simp at g
    omega
  have c := E.c1
  rwa [this] at c
end NM

namespace NM
/-! ### remainders put together -/
/-- y leaves each remainder by its divisor -/
def Sol (ps : List (Int × Int)) (y : Int) : Prop := ∀ q ∈ ps, q.2 ∣ y - q.1
/-- the integers that leave them are those that leave found by step -/
structure Tog (ps : List (Int × Int)) (found step : Int) : Prop where
  pos : 0 < step
  lo : 0 ≤ found
  hi : found < step
  sol : ∀ y, Sol ps y ↔ step ∣ y - found
theorem Tog.start : Tog [] 0 1 := ⟨by decide, by decide, by decide, fun y => ⟨fun _ => ⟨y, by omega⟩, fun _ q hq => nomatch hq⟩⟩
theorem sol_snoc {ps : List (Int × Int)} {r d y : Int} : Sol (ps ++ [(r, d)]) y ↔ Sol ps y ∧ d ∣ y - r := by
  unfold Sol
  constructor
  · exact fun h => ⟨fun q hq => h q (List.mem_append_left _ hq), h (r, d) (List.mem_append_right _ List.mem_cons_self)⟩
  · rintro ⟨h1, h2⟩ q hq
    rcases List.mem_append.mp hq with h | h
    · exact h1 q h
    · have e : q = (r, d) := by simpa using h
      rw [e]; exact h2
theorem sol_perm {ps qs : List (Int × Int)} {y : Int} (h : ∀ q, q ∈ qs → q ∈ ps) (s : Sol ps y) : Sol qs y := fun q hq => s q (h q hq)
theorem dvd_ml {a b : Int} (c : Int) (h : a ∣ b) : a ∣ c * b := Int.dvd_trans h (Int.dvd_mul_left c b)
theorem dvd_mr {a b : Int} (c : Int) (h : a ∣ b) : a ∣ b * c := Int.dvd_trans h (Int.dvd_mul_right b c)
theorem gI_pos {a b : Int} (hb : 0 < b) : 0 < ((Int.gcd a b : Nat) : Int) := by
  have : 0 < Int.gcd a b := Int.gcd_pos_of_ne_zero_right a (by omega)
  omega
theorem Tog.none {ps : List (Int × Int)} {found step r d : Int} (T : Tog ps found step) (h : ¬ (((Int.gcd step d : Nat) : Int) ∣ r - found)) (y : Int) : ¬ Sol (ps ++ [(r, d)]) y := by
  intro s
  obtain ⟨s1, s2⟩ := sol_snoc.mp s
  have h1 := Int.dvd_trans (Int.gcd_dvd_left step d) ((T.sol y).mp s1)
  have h2 := Int.dvd_trans (Int.gcd_dvd_right step d) s2
  have := Int.dvd_sub h1 h2
  have e : y - found - (y - r) = r - found := by omega
  rw [e] at this
  exact h this
theorem dvd_cancel {a b c : Int} (ha : 0 < a) : a * b ∣ a * c ↔ b ∣ c := Int.mul_dvd_mul_iff_left (by omega)
theorem Tog.cop {step d : Int} (hd : 0 < d) : Nat.gcd (d / ((Int.gcd step d : Nat) : Int)).natAbs (step / ((Int.gcd step d : Nat) : Int)).natAbs = 1 := by
  have hg := gI_pos (a := step) hd
  have h : Int.gcd (step / ((Int.gcd step d : Nat) : Int)) (d / ((Int.gcd step d : Nat) : Int)) = 1 := by
    have e1 := Int.mul_ediv_cancel' (Int.gcd_dvd_left step d)
    have e2 := Int.mul_ediv_cancel' (Int.gcd_dvd_right step d)
    have e3 : Int.gcd step d = Int.gcd (((Int.gcd step d : Nat) : Int) * (step / ((Int.gcd step d : Nat) : Int))) (((Int.gcd step d : Nat) : Int) * (d / ((Int.gcd step d : Nat) : Int))) := by
      rw [e1, e2]
    rw [Int.gcd_mul_left] at e3
    simp only [Int.natAbs_natCast] at e3
    have hp : 0 < Int.gcd step d := by omega
    exact Nat.eq_of_mul_eq_mul_left hp (by omega)
  rw [Nat.gcd_comm]
  exact h
theorem Tog.some {ps : List (Int × Int)} {found step r d shared rest inv turns : Int} (T : Tog ps found step) (hd : 0 < d) (es : shared = ((Int.gcd step d : Nat) : Int)) (h : shared ∣ r - found) (er : rest = d / shared)
    (hi : rest ∣ inv * (step / shared) - 1) (et : turns = (r - found) / shared * inv % rest) : Tog (ps ++ [(r, d)]) (found + step * turns) (step * rest) := by
  have hg : 0 < shared := by rw [es]; exact gI_pos hd
  have e1 : shared * (step / shared) = step := by rw [es]; exact Int.mul_ediv_cancel' (Int.gcd_dvd_left step d)
  have e2 : shared * rest = d := by rw [er, es]; exact Int.mul_ediv_cancel' (Int.gcd_dvd_right step d)
  have e3 : shared * ((r - found) / shared) = r - found := Int.mul_ediv_cancel' h
  have hrest : 0 < rest := by
    rcases Int.lt_trichotomy rest 0 with z | z | z
    · have := Int.mul_neg_of_pos_of_neg hg z; omega
    · rw [z] at e2; omega
    · exact z
  have t0 : 0 ≤ turns := by rw [et]; exact Int.emod_nonneg _ (by omega)
  have t1 : turns < rest := by rw [et]; exact Int.emod_lt_of_pos _ hrest
  have hs := T.pos
  have st := Int.mul_nonneg (Int.le_of_lt hs) t0
  have lo := T.lo
  have hi' := T.hi
  have st2 : step * (turns + 1) ≤ step * rest := Int.mul_le_mul_of_nonneg_left (by omega) (by omega)
  rw [Int.mul_add, Int.mul_one] at st2
  refine ⟨Int.mul_pos hs hrest, by omega, by omega, fun y => ?_⟩
  -- what turns leaves
  have hturn : rest ∣ turns * (step / shared) - (r - found) / shared := by
    have h1 : rest ∣ (r - found) / shared * inv - turns := by
      rw [et]; exact Int.dvd_self_sub_emod
    have h2 := dvd_mr (step / shared) h1
    have h3 := dvd_ml ((r - found) / shared) hi
    have h4 := Int.dvd_sub h3 h2
    have e : (r - found) / shared * (inv * (step / shared) - 1) - ((r - found) / shared * inv - turns) * (step / shared) = turns * (step / shared) - (r - found) / shared := by
      rw [Int.mul_sub, Int.sub_mul, Int.mul_one, ← Int.mul_assoc]; omega
    rwa [e] at h4
  -- k turns of step meet d as turns do exactly if they leave the same by rest
  have hk : ∀ k : Int, d ∣ found + step * k - r ↔ rest ∣ k - turns := fun k => by
    have x : found + step * k - r = shared * (step / shared * k - (r - found) / shared) := by
      rw [Int.mul_sub, ← Int.mul_assoc, e1, e3]; omega
    rw [x, ← e2, dvd_cancel hg]
    constructor
    · intro h1
      have h2 := Int.dvd_sub h1 hturn
      have e : step / shared * k - (r - found) / shared - (turns * (step / shared) - (r - found) / shared) = step / shared * (k - turns) := by
        rw [Int.mul_sub, Int.mul_comm turns]; omega
      rw [e] at h2
      have h3 := dvd_ml inv h2
      have h4 := dvd_mr (k - turns) hi
      have h5 := Int.dvd_sub h3 h4
      have e' : inv * (step / shared * (k - turns)) - (inv * (step / shared) - 1) * (k - turns) = k - turns := by
        rw [Int.sub_mul, Int.one_mul, ← Int.mul_assoc]; omega
      rwa [e'] at h5
    · intro h1
      have h2 := dvd_ml (step / shared) h1
      have h3 := Int.dvd_add h2 hturn
      have e : step / shared * (k - turns) + (turns * (step / shared) - (r - found) / shared) = step / shared * k - (r - found) / shared := by
        rw [Int.mul_sub, Int.mul_comm turns]; omega
      rwa [e] at h3
  rw [sol_snoc, T.sol y]
  constructor
  · rintro ⟨⟨k, ek⟩, h2⟩
    have ey : y = found + step * k := by omega
    rw [ey] at h2
    have h3 := (hk k).mp h2
    have e : y - (found + step * turns) = step * (k - turns) := by rw [Int.mul_sub]; omega
    rw [e]
    exact (dvd_cancel hs).mpr h3
  · rintro ⟨k, ek⟩
    have ey : y = found + step * (turns + rest * k) := by
      have : step * rest * k = step * (rest * k) := Int.mul_assoc _ _ _
      rw [Int.mul_add]; omega
    refine ⟨⟨turns + rest * k, by omega⟩, ?_⟩
    rw [ey]
    exact (hk _).mpr ⟨k, by omega⟩
/-- what together tells: the least integer from 0 on that leaves each remainder, or that there is none -/
def TogIs (ps : List (Int × Int)) : Option Int → Prop
  | .some x => 0 ≤ x ∧ Sol ps x ∧ ∀ y, 0 ≤ y → Sol ps y → x ≤ y
  | .none => ∀ y, ¬ Sol ps y
theorem Tog.is {ps : List (Int × Int)} {found step : Int} (T : Tog ps found step) : TogIs ps (.some found) := by
  refine ⟨T.lo, (T.sol found).mpr ⟨0, by omega⟩, fun y hy s => ?_⟩
  obtain ⟨k, e⟩ := (T.sol y).mp s
  have hi := T.hi
  have lo := T.lo
  have := T.pos
  by_cases hk : 0 ≤ k
  · have := Int.mul_nonneg (show 0 ≤ step by omega) hk; omega
  · have : step * k ≤ step * (-1) := Int.mul_le_mul_of_nonneg_left (by omega) (by omega)
    omega
theorem togIs_none_mono {ps qs : List (Int × Int)} (h : TogIs ps .none) : TogIs (ps ++ qs) .none := fun y s => h y (sol_perm (fun q hq => List.mem_append_left _ hq) s)
end NM
namespace NM
theorem dvd_lcmL {l : List Int} {z : Int} (h : z ∈ l) : z ∣ ((lcmL l : Nat) : Int) := by
  suffices ∀ (l : List Int) (a : Nat), (a ∣ l.foldl (fun g n => Nat.lcm g n.natAbs) a) ∧ (∀ z ∈ l, z.natAbs ∣ l.foldl (fun g n => Nat.lcm g n.natAbs) a) from
    Int.natAbs_dvd.mp (Int.natCast_dvd_natCast.mpr ((this l 1).2 z h))
  intro l
  induction l with
  | nil => exact fun a => ⟨Nat.dvd_refl a, fun z h => nomatch h⟩
  | cons y l ih =>
    intro a
    have q := ih (Nat.lcm a y.natAbs)
    refine ⟨Nat.dvd_trans (Nat.dvd_lcm_left a y.natAbs) q.1, fun z hz => ?_⟩
    rcases List.mem_cons.mp hz with e | e
    · rw [e]; exact Nat.dvd_trans (Nat.dvd_lcm_right a y.natAbs) q.1
    · exact q.2 z e
theorem lcmL_dvd {l : List Int} {y : Int} (h : ∀ z ∈ l, z ∣ y) : ((lcmL l : Nat) : Int) ∣ y := by
  suffices ∀ (l : List Int) (a : Nat), a ∣ y.natAbs → (∀ z ∈ l, z ∣ y) → l.foldl (fun g n => Nat.lcm g n.natAbs) a ∣ y.natAbs from
    Int.dvd_natAbs.mp (Int.natCast_dvd_natCast.mpr (this l 1 (Nat.one_dvd _) h))
  intro l
  induction l with
  | nil => exact fun a ha _ => ha
  | cons z l ih =>
    intro a ha h
    exact ih _ (Nat.lcm_dvd ha (Int.natAbs_dvd_natAbs.mpr (h z List.mem_cons_self))) fun w hw => h w (List.mem_cons_of_mem _ hw)
theorem TogIs.mod {ps : List (Int × Int)} {o : Option Int} (h : TogIs ps o) {w L : Int} (s : Sol ps w) (hp : 0 < L) (hd : ∀ q ∈ ps, q.2 ∣ L) (hL : ∀ y z, Sol ps y → Sol ps z → L ∣ y - z) : o = .some (w % L) := by
  cases o with
  | none => exact absurd s (h w)
  | some x =>
    obtain ⟨x0, xs, xm⟩ := h
    have e := Int.mul_ediv_add_emod w L
    have n0 := Int.emod_nonneg w (show L ≠ 0 by omega)
    have n1 := Int.emod_lt_of_pos w hp
    have sm : Sol ps (w % L) := fun q hq => by
      have h1 := s q hq
      have h2 := dvd_mr (w / L) (hd q hq)
      have h3 := Int.dvd_sub h1 h2
      have e3 : w - q.1 - L * (w / L) = w % L - q.1 := by omega
      rwa [e3] at h3
    have le := xm _ n0 sm
    obtain ⟨k, hk⟩ := hL _ _ sm xs
    have : k = 0 := by
      rcases Int.lt_trichotomy k 0 with z | z | z
      · have : L * k < 0 := Int.mul_neg_of_pos_of_neg hp z
        omega
      · exact z
      · have : L * 1 ≤ L * k := Int.mul_le_mul_of_nonneg_left (by omega) (by omega)
        omega
    rw [this, Int.mul_zero] at hk
    congr 1
    omega
theorem TogIs.ex {ps : List (Int × Int)} {o : Option Int} (h : TogIs ps o) {w : Int} (s : Sol ps w) : ∃ x, o = .some x ∧ Sol ps x := by
  cases o with
  | none => exact absurd s (h w)
  | some x => exact ⟨x, rfl, h.2.1⟩
/-- two that leave the same by coprime divisors meet -/
theorem bezout {a b : Int} (hb : 0 < b) (h : Nat.gcd b.natAbs a.natAbs = 1) : ∃ u, b ∣ u * a - 1 := by
  suffices ∀ (m : Nat) (l r f g : Int), Euc a b l r f g → r.toNat = m → ∃ u, b ∣ u * a - 1 from this _ _ _ _ _ (Euc.start hb) rfl
  intro m
  induction m using Nat.strongRecOn with
  | ind m ih =>
    intro l r f g E hm
    by_cases h0 : r = 0
    · subst h0; exact ⟨f, E.fin h⟩
    · exact ih _ (by rw [← hm]; exact E.less h0) _ _ _ _ (E.turn h0) rfl
end NM

namespace NM
/-- the same by trying: t0 the first turn of step that leaves r by d, m the least turns of step that d divides -/
theorem Tog.due {ps : List (Int × Int)} {found step r d : Int} (T : Tog ps found step) {t0 m : Nat} (hdv : d ∣ found + step * (t0 : Int) - r) (hmin : ∀ t : Nat, t < t0 → ¬ d ∣ found + step * (t : Int) - r)
    (hm : 1 ≤ m) (hmd : d ∣ step * (m : Int)) (hmm : ∀ j : Nat, 1 ≤ j → j < m → ¬ d ∣ step * (j : Int)) : Tog (ps ++ [(r, d)]) (found + step * (t0 : Int)) (step * (m : Int)) := by
  have sp := T.pos
  have lo := T.lo
  have hi := T.hi
  have lt : t0 < m := by
    apply Nat.lt_of_not_le
    intro h
    refine hmin (t0 - m) (by omega) ?_
    have q := Int.dvd_sub hdv hmd
    have e : found + step * (t0 : Int) - r - step * (m : Int) = found + step * ((t0 - m : Nat) : Int) - r := by
      rw [Int.natCast_sub h, Int.mul_sub]; omega
    rwa [e] at q
  have st := Int.mul_nonneg (Int.le_of_lt sp) (Int.natCast_nonneg t0)
  have st2 : step * ((t0 : Int) + 1) ≤ step * (m : Int) := Int.mul_le_mul_of_nonneg_left (by omega) (by omega)
  rw [Int.mul_add, Int.mul_one] at st2
  refine ⟨Int.mul_pos sp (by omega), by omega, by omega, fun y => ?_⟩
  rw [sol_snoc, T.sol y]
  constructor
  · rintro ⟨⟨k, ek⟩, h2⟩
    have e1 : y - r - (found + step * (t0 : Int) - r) = step * (k - t0) := by rw [Int.mul_sub]; omega
    have q := Int.dvd_sub h2 hdv
    rw [e1] at q
    have em := Int.mul_ediv_add_emod (k - t0) (m : Int)
    have s0 := Int.emod_nonneg (k - t0) (show (m : Int) ≠ 0 by omega)
    have s1 := Int.emod_lt_of_pos (k - t0) (show (0 : Int) < m by omega)
    have z : (k - t0) % (m : Int) = 0 := by
      apply Classical.byContradiction
      intro hne
      refine hmm ((k - t0) % (m : Int)).toNat (by omega) (by omega) ?_
      have q2 := dvd_mr ((k - t0) / (m : Int)) hmd
      have q3 := Int.dvd_sub q q2
      have e2 : step * (k - t0) - step * (m : Int) * ((k - t0) / (m : Int)) = step * ((((k - t0) % (m : Int)).toNat : Nat) : Int) := by
        rw [Int.mul_assoc, ← Int.mul_sub]; congr 1; omega
      rwa [e2] at q3
    refine ⟨(k - t0) / (m : Int), ?_⟩
    rw [Int.mul_assoc]
    have e3 : (m : Int) * ((k - t0) / (m : Int)) = k - t0 := by omega
    rw [e3, Int.mul_sub]; omega
  · rintro ⟨q, eq⟩
    have e1 : y = found + step * ((t0 : Int) + m * q) := by
      rw [Int.mul_add, ← Int.mul_assoc]; omega
    refine ⟨⟨(t0 : Int) + m * q, by omega⟩, ?_⟩
    have q2 := dvd_mr q hmd
    have q3 := Int.dvd_add hdv q2
    have e2 : found + step * (t0 : Int) - r + step * (m : Int) * q = y - r := by omega
    rwa [e2] at q3
theorem Tog.dueNone {ps : List (Int × Int)} {found step r d : Int} (T : Tog ps found step) (hd : 0 < d) (h : ∀ t : Nat, (t : Int) < d → ¬ d ∣ found + step * (t : Int) - r) (y : Int) : ¬ Sol (ps ++ [(r, d)]) y := by
  intro s
  obtain ⟨s1, s2⟩ := sol_snoc.mp s
  obtain ⟨k, ek⟩ := (T.sol y).mp s1
  have em := Int.mul_ediv_add_emod k d
  have k0 := Int.emod_nonneg k (show d ≠ 0 by omega)
  have k1 := Int.emod_lt_of_pos k hd
  refine h (k % d).toNat (by omega) ?_
  have q : d ∣ step * (d * (k / d)) := dvd_ml step (Int.dvd_mul_right d (k / d))
  have q2 := Int.dvd_sub s2 q
  have e : y - r - step * (d * (k / d)) = found + step * (((k % d).toNat : Nat) : Int) - r := by
    have e2 : (((k % d).toNat : Nat) : Int) = k - d * (k / d) := by omega
    rw [e2, Int.mul_sub]; omega
  rwa [e] at q2
theorem TogIs.uniq {ps : List (Int × Int)} {o o' : Option Int} (h : TogIs ps o) (h' : TogIs ps o') : o = o' := by
  cases o with
  | none =>
    cases o' with
    | none => rfl
    | some y => exact absurd h'.2.1 (h y)
  | some x =>
    cases o' with
    | none => exact absurd h.2.1 (h' x)
    | some y =>
      have a := h.2.2 y h'.1 h'.2.1
      have b := h'.2.2 x h.1 h.2.1
      congr 1
      omega
end NM

namespace My
open PySem PySem.Spec PyProof.Rows L2 StX
def top (i : Nat) : Stmt := PySem.Challenge.pw_wheelreach_k03_remainders_put_together.main.body.getD i (.Pass ⟨0, 0, 0, 0⟩)
abbrev s_is_whole : Stmt := top 5
abbrev s_is_from : Stmt := top 6
abbrev s_is_part : Stmt := top 7
abbrev s_together : Stmt := top 8
abbrev s_inverse : Stmt := top 9
abbrev s_pen : Stmt := top 11
abbrev s_draw : Stmt := top 12
abbrev s_pick : Stmt := top 13
abbrev s_heard : Stmt := top 14
abbrev s_asked : Stmt := top 15
abbrev s_due : Stmt := top 16
abbrev s_pairs : Stmt := top 17
abbrev s_refused_right : Stmt := top 18
abbrev s_law : Stmt := top 19
abbrev s_BadNumber_init : Stmt := inClass (top 3) 0
theorem sc_is_whole : FnScope ["value"] ["value"] (defScope s_is_whole) := ⟨rfl, rfl, rfl, by decide +kernel, rfl, by decide +kernel, by decide +kernel⟩
theorem sc_is_from : FnScope ["value", "low"] ["value", "low"] (defScope s_is_from) := ⟨rfl, rfl, rfl, by decide +kernel, rfl, by decide +kernel, by decide +kernel⟩
theorem sc_is_part : FnScope ["value"] ["value"] (defScope s_is_part) := ⟨rfl, rfl, rfl, by decide +kernel, rfl, by decide +kernel, by decide +kernel⟩
theorem sc_together : FnScope ["parts", "part", "found", "step", "remainder", "divisor", "shared", "away", "rest", "turns"] ["parts"] (defScope s_together) := ⟨rfl, rfl, rfl, by decide +kernel, rfl, by decide +kernel, by decide +kernel⟩
theorem sc_inverse : FnScope ["number", "divisor", "left", "right", "found", "following", "turns"] ["number", "divisor"] (defScope s_inverse) := ⟨rfl, rfl, rfl, by decide +kernel, rfl, by decide +kernel, by decide +kernel⟩
theorem sc_pen : FnScope ["_law_script"] ["_law_script"] (defScope s_pen) := ⟨rfl, rfl, rfl, by decide +kernel, rfl, by decide +kernel, by decide +kernel⟩
theorem sc_draw : FnScope ["_law_pen_here", "_law_many", "_law_digit", "_law_begun", "_law_raw", "_law_great", "_law_stirred"] ["_law_pen_here", "_law_many"] (defScope s_draw) := ⟨rfl, rfl, rfl, by decide +kernel, rfl, by decide +kernel, by decide +kernel⟩
theorem sc_pick : FnScope ["_law_pen_here", "_law_some"] ["_law_pen_here", "_law_some"] (defScope s_pick) := ⟨rfl, rfl, rfl, by decide +kernel, rfl, by decide +kernel, by decide +kernel⟩
theorem sc_heard : FnScope ["_law_ask", "_law_raised", "error"] ["_law_ask"] (defScope s_heard) := ⟨rfl, rfl, rfl, by decide +kernel, rfl, by decide +kernel, by decide +kernel⟩
theorem sc_asked : FnScope ["_law_some"] ["_law_some"] (defScope s_asked) := ⟨rfl, rfl, rfl, by decide +kernel, rfl, by decide +kernel, by decide +kernel⟩
theorem sc_due : FnScope ["_law_some", "_law_found", "_law_step", "_law_remainder", "_law_divisor", "_law_later", "_law_turn", "_law_more"] ["_law_some"] (defScope s_due) := ⟨rfl, rfl, rfl, by decide +kernel, rfl, by decide +kernel, by decide +kernel⟩
theorem sc_pairs : FnScope ["_law_pen_here", "_law_whole", "_law_is_one", "_law_found", "_law_turn", "_law_divisor", "_law_remainder"] ["_law_pen_here"] (defScope s_pairs) := ⟨rfl, rfl, rfl, by decide +kernel, rfl, by decide +kernel, by decide +kernel⟩
theorem sc_refused_right : FnScope ["_law_pen_here", "_law_odd", "_law_bad", "_law_heard_here"] ["_law_pen_here"] (defScope s_refused_right) := ⟨rfl, rfl, rfl, by decide +kernel, rfl, by decide +kernel, by decide +kernel⟩
theorem sc_law : FnScope ["_law_script", "_law_pen_here", "_law_turn", "_law_some", "_law_many", "_law_told"] ["_law_script"] (defScope s_law) := ⟨rfl, rfl, rfl, by decide +kernel, rfl, by decide +kernel, by decide +kernel⟩
theorem sc_BadNumber_init : FnScope ["self", "value"] ["self", "value"] (defScope s_BadNumber_init) := ⟨rfl, rfl, rfl, by decide +kernel, rfl, by decide +kernel, by decide +kernel⟩
section
variable {P : Program} {w : World} {K : PySem.W.Frag} {mg : Str → Option Value} {base : Heap}
/-! ### rules and words of our own -/
/-- x(e, ..), x a def whose promise is told of the arguments as they are passed -/
theorem pe_callR {X : Cx} {CX : CXT} {k : Nat} {f : Addr} {sp : Sp} {E : XK} {x : Str} {e : Expr} {es : List Expr} {t : TA} {p pos : Pos} (F : FnR X.prog X.w X.K X.mg X.base CX k f sp) (hr : Room k X.A) (hk : PySem.W.keepIn X.K (.ref f) = true) (hg : Gl X x) (hm : X.mg x = some (.ref f)) (hx : Passes CX X E)
    (ha : PA X (e :: es) t) (hd : (x == ("__debug__" : Str)) = false := by decide) (he : starEach (e :: es) X.env = (false, eval e X.env) :: starEach es X.env := by rfl) (hpl : (backTo pos (starEach es X.env)).any (·.1) = false := by rfl) :
    PE X (.Call (.Name x p) (e :: es) [] pos) (fun σ H Q => t σ H fun vs H1 => sp vs H1 Q E) := by
  refine ⟨fun pins s σ H Q I h => ?_⟩
  refine wpAny_Call_Name_kw (ld_glob I hg hm ?_ hd)
  refine PySem.W.callWith_K (h₀ := X.base) I.ok.mod.kin hk (thn (ha.run pos pins s σ H _ I h) fun us s1 ⟨vs, H1, I1, r, q⟩ => ⟨I1.kIn, ?_⟩) he hpl
  exact wpAny_call (run_fnR F hr hx I1 r q)
theorem pe_callR0 {X : Cx} {CX : CXT} {k : Nat} {f : Addr} {sp : Sp} {E : XK} {x : Str} {p pos : Pos} (F : FnR X.prog X.w X.K X.mg X.base CX k f sp) (hr : Room k X.A) (hk : PySem.W.keepIn X.K (.ref f) = true) (hg : Gl X x) (hm : X.mg x = some (.ref f)) (hx : Passes CX X E)
    (hd : (x == ("__debug__" : Str)) = false := by decide) : PE X (.Call (.Name x p) [] [] pos) (fun σ H Q => sp [] H Q E) := by
  refine ⟨fun pins s σ H Q I h => ?_⟩
  refine wpAny_Call_Name_kw (ld_glob I hg hm ?_ hd)
  exact PySem.W.callWith_K0 I.kIn hk (wpAny_call (run_fnR (us := []) F hr hx I .nil h))
/-- def f(*v) of the text -/
theorem star_ok {P : Program} {w : World} {K : PySem.W.Frag} {mg : Str → Option Value} {base : Heap} {k : Nat} {x qual pv : Str} {st : Stmt} {f : Addr} {fd : FuncData} {N : List Str} {sp : List V → Hp → VK → XK → Prop}
    (F : Fun K x qual st f fd) (S : FnScope N [pv] (defScope st))
    (hb : ∀ (kV doc pm : Value) (an : Option Addr) (cdv ct : Value) (rest : List Value), bindArgs (PySem.W.fnOf x qual (defArgs st) (defBody st) (defScope st) .none kV doc pm an cdv ct) ⟨rest, []⟩ = (newTuple rest >>= fun t => pure [(pv, t)]))
    (hbody : ∀ (cdv : Value) (A : Around) (outer : List Env) (s : Shared) (H : Hp) (vs : List V) (p : Addr) (H0 : Hp) (Q : VK) (E : XK), Room k (A.deeper (envOfC qual (defScope st) s.heap.objs.size f cdv)) → sp vs H0 Q E → vs.length ≤ sizeLine → H0 p = Option.none → H = upd H0 p (.tup vs) →
      ∃ t, PSs (cxOf CX0 P w K mg base N qual (defScope st) f cdv A outer s H E).nox (defBody st) t ∧ t { nx := fun _ H' => Q .non H', rt := Q } (start N [V.ref p]) H) :
    FnR P w K mg base CX0 (k + 1) f (fun vs H Q E => vs.length ≤ sizeLine ∧ sp vs H Q E) := by
  obtain ⟨oc, od, kV, doc, pm, an, cdv, ct, osl, rfl, lk, hcd⟩ := F.ex
  refine FnR.imp (fn_star (ps := []) (pv := pv) (CX := CX0) (sp := fun ws H Q E => ∃ (vs : List V) (p : Addr) (H0 : Hp), ws = [V.ref p] ∧ sp vs H0 Q E ∧ vs.length ≤ sizeLine ∧ H0 p = Option.none ∧ H = upd H0 p (.tup vs)) lk hcd S cxUp_none (fun us rest hl => ?_) fun A outer s H vs Q E hr h => ?_) fun vs H Q E h => ?_
  · have e : us = [] := List.length_eq_zero_iff.mp hl
    subst e
    show bindArgs _ ⟨rest, []⟩ = _
    rw [hb]
    rfl
  · obtain ⟨ws, p, H0, rfl, hs, hl, hp, rfl⟩ := h
    obtain ⟨t, ht, hq⟩ := hbody cdv A outer s _ ws p H0 Q E hr hs hl hp rfl
    exact ⟨t, ht.nox, hq⟩
  · exact ⟨[], vs, rfl, rfl, h.1, fun p hp => ⟨vs, p, H, rfl, h.2, h.1, hp, rfl⟩⟩
/-- all but p is as it was -/
structure Fr (p : Addr) (H H' : Hp) : Prop where
  keep : ∀ b o, b ≠ p → H b = some o → H' b = some o
  head : ∀ v xs, H p = some (.lst (v :: xs)) → ∃ ys, H' p = some (.lst (v :: ys))
instance {p : Addr} {H H' : Hp} : CoeFun (Fr p H H') fun _ => ∀ b o, b ≠ p → H b = some o → H' b = some o := ⟨Fr.keep⟩
theorem Fr.refl (p : Addr) (H : Hp) : Fr p H H := ⟨fun _ _ _ h => h, fun _ xs h => ⟨xs, h⟩⟩
theorem Fr.trans {p : Addr} {H H1 H2 : Hp} (a : Fr p H H1) (b : Fr p H1 H2) : Fr p H H2 := ⟨fun c o n h => b.keep c o n (a.keep c o n h), fun v xs h => by
  obtain ⟨ys, h1⟩ := a.head v xs h
  exact b.head v ys h1⟩
theorem same_fr {p : Addr} {H H' : Hp} (s : Same H H') : Fr p H H' := ⟨fun b o _ h => s b o h, fun _ xs h => ⟨xs, s _ _ h⟩⟩
theorem same_new {H : Hp} {p : Addr} {o : HO} (h : H p = Option.none) : Same H (upd H p o) := fun b u e => by
  rw [upd_ne (ne_of_none e h)]; exact e
theorem fr_upd {H : Hp} {p : Addr} {v : V} {xs ys : List V} (hp : H p = some (.lst (v :: xs))) : Fr p H (upd H p (.lst (v :: ys))) := ⟨fun b u n e => by rw [upd_ne n]; exact e, fun v' xs' e => by
  rw [hp] at e
  cases e
  exact ⟨ys, upd_same⟩⟩
theorem Fr.seq {K : PySem.W.Frag} {p a : Addr} {H H' : Hp} {xs : List V} (e : Fr p H H') (n : a ≠ p) (h : SqL K H a xs) : SqL K H' a xs := by
  rcases h with (h | ⟨o, h⟩) | h
  · exact .inl (.inl (e _ _ n h))
  · exact .inl (.inr ⟨o, e _ _ n h⟩)
  · exact .inr h
/-- the state of the draws: the cells, the index, what is left of a great one -/
def Pen (H : Hp) (p : Addr) (n : Nat) : Prop := ∃ (c : Addr) (ns : List Int) (i g : Int), H p = some (.lst [.ref c, .int i, .int g]) ∧ H c = some (.lst (ns.map V.int)) ∧ 0 ≤ i ∧ i ≤ (n : Int) ∧ 0 ≤ g ∧ ns.length ≤ 63
theorem Pen.same {H H' : Hp} {p : Addr} {n : Nat} (h : Pen H p n) (s : Same H H') : Pen H' p n := by
  obtain ⟨c, ns, i, g, h1, h2, h3⟩ := h
  exact ⟨c, ns, i, g, s _ _ h1, s _ _ h2, h3⟩
theorem Pen.mono {H : Hp} {p : Addr} {n m : Nat} (h : Pen H p n) (l : n ≤ m) : Pen H p m := by
  obtain ⟨c, ns, i, g, h1, h2, h3, h4, h5⟩ := h
  exact ⟨c, ns, i, g, h1, h2, h3, by omega, h5⟩
theorem pen_ne {H : Hp} {p c : Addr} {x y : V} {a : Addr} {ns : List Int} (h1 : H p = some (.lst [.ref a, x, y])) (h2 : H c = some (.lst (ns.map V.int))) : c ≠ p := fun e => by
  rw [e, h1] at h2
  cases ns with
  | nil => cases h2
  | cons z r => injection h2 with h2; injection h2 with h2; injection h2 with h2; cases h2
theorem Pen.at {H : Hp} {p : Addr} {n : Nat} (h : Pen H p n) : ∃ xs, H p = some (.lst xs) := by
  obtain ⟨c, ns, i, g, h1, _⟩ := h
  exact ⟨_, h1⟩
theorem Pen.neq {H : Hp} {p a : Addr} {n : Nat} (h : Pen H p n) (e : H a = Option.none) : a ≠ p := fun z => by
  obtain ⟨xs, h⟩ := h.at
  rw [z, h] at e; cases e
theorem if_true_of {c : Bool} {A B : Prop} (hc : c = true) (h : A) : if c = true then A else B := by
  rw [if_pos hc]; exact h
theorem if_false_of {c : Bool} {A B : Prop} (hc : c = false) (h : B) : if c = true then A else B := by
  rw [hc, if_neg Bool.false_ne_true]; exact h
theorem atI_in {ns : List Int} {j : Int} (h0 : 0 ≤ j) (h1 : j < (ns.length : Int)) : ∃ z, atI (ns.map V.int) j = some (V.int z) := by
  have h : j.toNat < ns.length := by omega
  exact ⟨ns[j.toNat], at_of (j := j.toNat) (by omega) (by rw [List.getElem?_map]; simp [h])⟩
theorem atI_any {xs : List V} {j : Int} (h0 : 0 ≤ j) (h1 : j < (xs.length : Int)) : ∃ z, z ∈ xs ∧ atI xs j = some z := by
  have h : j.toNat < xs.length := by omega
  exact ⟨xs[j.toNat], List.getElem_mem h, at_of (j := j.toNat) (by omega) (by simp [h])⟩
theorem cut_ints (ns : List Int) (lo hi : Option Int) : ∃ ms : List Int, cutV (ns.map V.int) lo hi = ms.map V.int ∧ ms.length ≤ ns.length := by
  refine ⟨(ns.drop (HT.sIx (ns.map V.int).length 0 lo)).take (HT.sIx (ns.map V.int).length (ns.map V.int).length hi - HT.sIx (ns.map V.int).length 0 lo), ?_, ?_⟩
  · unfold cutV
    rw [List.map_take, List.map_drop]
  · rw [List.length_take, List.length_drop]
    omega
theorem stir1 {r b d e : Int} (h0 : 0 ≤ r) (h1 : r < 2147483648) (b0 : 0 ≤ b) (b1 : b ≤ 100000) (d0 : 0 ≤ d) (d1 : d ≤ 100000) (e0 : 0 ≤ e) (e1 : e ≤ 100000) : (r + d * b + e).natAbs < 2 ^ 64 := by
  have h2 := Int.mul_nonneg d0 b0
  have h3 : d * b ≤ d * 100000 := Int.mul_le_mul_of_nonneg_left b1 d0
  omega
theorem stir2 {s b c d e : Int} (h0 : 0 ≤ s) (h1 : s < 2147483648) (b0 : 0 ≤ b) (b1 : b ≤ 100000) (c0 : 0 ≤ c) (c1 : c ≤ 100000) (d0 : 0 ≤ d) (d1 : d ≤ 100000) (e0 : 0 ≤ e) (e1 : e ≤ 100000) : (s * (2 * b + c) + d * b * b + e).natAbs < 2 ^ 64 := by
  have h2 := Int.mul_nonneg h0 (show 0 ≤ 2 * b + c by omega)
  have h3 : s * (2 * b + c) ≤ 2147483648 * (2 * b + c) := Int.mul_le_mul_of_nonneg_right (by omega) (by omega)
  have h4 := Int.mul_nonneg d0 b0
  have h5 := Int.mul_nonneg h4 b0
  have h6 : d * b ≤ d * 100000 := Int.mul_le_mul_of_nonneg_left b1 d0
  have h7 : d * b * b ≤ d * b * 100000 := Int.mul_le_mul_of_nonneg_left b1 h4
  omega
theorem small64 {i : Int} (h0 : 0 ≤ i) (h1 : i < 2147483648) : -(2 ^ 64) < i ∧ i < 2 ^ 64 := by omega
theorem fmod_pos {x m : Int} (hm : 0 < m) : 0 ≤ x.fmod m ∧ x.fmod m < m := by
  rw [Int.fmod_eq_emod_of_nonneg x (by omega)]
  exact ⟨Int.emod_nonneg _ (by omega), Int.emod_lt_of_pos _ hm⟩
theorem dp_ints {K : PySem.W.Frag} {H : Hp} : ∀ ns : List Int, DpAll K H (ns.map V.int) (ns.map PyData.int)
  | [] => .nil
  | z :: r => .cons (.int z) (dp_ints r)
theorem eqvAll_ints : ∀ ns : List Int, PyData.eqvAll (ns.map PyData.int) (ns.map PyData.int) = true
  | [] => by simp [PyData.eqvAll]
  | z :: r => by simp [PyData.eqvAll, PyData.eqv, eqvAll_ints r]
theorem eqv_ints (ns : List Int) : PyData.eqv (.list (ns.map PyData.int)) (.list (ns.map PyData.int)) = true := by
  rw [PyData.eqv]; exact eqvAll_ints ns

/-! ### defs told for callers around whom nothing is being shown by repr -/
def FnG (P : Program) (w : World) (K : PySem.W.Frag) (mg : Str → Option Value) (base : Heap) (CX : CXT) (k : Nat) (f : Addr) (sp : Sp) : Prop :=
  ∀ (A : Around) (outer : List Env) (s : Shared) (H : Hp) (us : List Value) (vs : List V) (Q : VK) (E : XK), A.guards = some [] → Room k A → Env0 P w K mg base A outer s H → Vals vs us → sp vs H Q E →
    codeAny (model P w) A (.call (.ref f) { pos := us, kw := [] }) (CR CX outer P w H s Q E) s
theorem FnG.of {P : Program} {w : World} {K : PySem.W.Frag} {mg : Str → Option Value} {base : Heap} {CX : CXT} {k : Nat} {f : Addr} {sp : Sp} (F : FnR P w K mg base CX k f sp) : FnG P w K mg base CX k f sp :=
  fun A o s H us vs Q E _ hr => F A o s H us vs Q E hr
theorem FnG.mk {P : Program} {w : World} {K : PySem.W.Frag} {mg : Str → Option Value} {base : Heap} {CX : CXT} {k : Nat} {x qual : Str} {st : Stmt} {f : Addr} {fd : FuncData} {N ps : List Str} {sp : Sp}
    (F : Fun K x qual st f fd) (S : FnScope N ps (defScope st)) (B : Binds K fd ps []) (len : ∀ vs H Q E, sp vs H Q E → vs.length = ps.length)
    (go : ∀ (cdv : Value) (A : Around) (outer : List Env) (s : Shared) (H : Hp) (vs : List V) (Q : VK) (E : XK), (A.deeper (envOfC qual (defScope st) s.heap.objs.size f cdv)).guards = some [] → Room k (A.deeper (envOfC qual (defScope st) s.heap.objs.size f cdv)) → sp vs H Q E →
      ∃ t, PSs (cxOf CX P w K mg base N qual (defScope st) f cdv A outer s H E) (defBody st) t ∧ t { nx := fun _ H1 => Q .non H1, rt := Q } (start N vs) H) : FnG P w K mg base CX (k + 1) f sp := by
  obtain ⟨oc, od, kV, doc, pm, an, cdv, ct, osl, e, lk, hcd⟩ := F.ex
  subst e
  intro A outer s H us vs Q E hg hr e0 rv hs
  have hl := len _ _ _ _ hs
  have hu : (us ++ []).length = ps.length := by rw [List.append_nil, ← hl]; exact rv.length.symm
  have b := B s us (e0.mod.kin.keeps fun b o z => (e0.bs b o z).1) hu
  rw [List.append_nil] at b
  exact LamX.run_ofS lk hcd S hr e0 b rv hl fun hr1 => go cdv A outer s H vs Q E hg hr1 hs
theorem FnG.mk0 {P : Program} {w : World} {K : PySem.W.Frag} {mg : Str → Option Value} {base : Heap} {k : Nat} {x qual : Str} {st : Stmt} {f : Addr} {fd : FuncData} {N ps : List Str} {sp : Sp}
    (F : Fun K x qual st f fd) (S : FnScope N ps (defScope st)) (B : Binds K fd ps []) (len : ∀ vs H Q E, sp vs H Q E → vs.length = ps.length)
    (go : ∀ (cdv : Value) (A : Around) (outer : List Env) (s : Shared) (H : Hp) (vs : List V) (Q : VK) (E : XK), (A.deeper (envOfC qual (defScope st) s.heap.objs.size f cdv)).guards = some [] → Room k (A.deeper (envOfC qual (defScope st) s.heap.objs.size f cdv)) → sp vs H Q E →
      ∃ t, PSs (cxOf CX0 P w K mg base N qual (defScope st) f cdv A outer s H E).nox (defBody st) t ∧ t { nx := fun _ H1 => Q .non H1, rt := Q } (start N vs) H) : FnG P w K mg base CX0 (k + 1) f sp :=
  FnG.mk F S B len fun cdv A outer s H vs Q E hg hr hs => by
    obtain ⟨t, ht, q⟩ := go cdv A outer s H vs Q E hg hr hs
    exact ⟨t, ht.nox, q⟩
/-- .. of a def whose code object is known -/
theorem FnG.mkL {P : Program} {w : World} {K : PySem.W.Frag} {mg : Str → Option Value} {base : Heap} {k : Nat} {x qual : Str} {st : Stmt} {f c : Addr} {N ps : List Str} {sp : Sp} {oc : Value} {od an : Option Addr} {osl : Array (Option Value)} {kV doc pm ct : Value}
    (lk : K.lookup f = some ⟨oc, od, .func (PySem.W.fnOf x qual (defArgs st) (defBody st) (defScope st) .none kV doc pm an (.ref c) ct), osl⟩) (hcd : PySem.W.codeIn K (.ref c) qual = true) (S : FnScope N ps (defScope st))
    (B : Binds K (PySem.W.fnOf x qual (defArgs st) (defBody st) (defScope st) .none kV doc pm an (.ref c) ct) ps []) (len : ∀ vs H Q E, sp vs H Q E → vs.length = ps.length)
    (go : ∀ (A : Around) (outer : List Env) (s : Shared) (H : Hp) (vs : List V) (Q : VK) (E : XK), (A.deeper (envOfC qual (defScope st) s.heap.objs.size f (.ref c))).guards = some [] → Room k (A.deeper (envOfC qual (defScope st) s.heap.objs.size f (.ref c))) → sp vs H Q E →
      ∃ t, PSs (cxOf CX0 P w K mg base N qual (defScope st) f (.ref c) A outer s H E).nox (defBody st) t ∧ t { nx := fun _ H1 => Q .non H1, rt := Q } (start N vs) H) : FnG P w K mg base CX0 (k + 1) f sp := by
  intro A outer s H us vs Q E hg hr e0 rv hs
  have hl := len _ _ _ _ hs
  have hu : (us ++ []).length = ps.length := by rw [List.append_nil, ← hl]; exact rv.length.symm
  have b := B s us (e0.mod.kin.keeps fun b o z => (e0.bs b o z).1) hu
  rw [List.append_nil] at b
  exact LamX.run_ofS lk hcd S hr e0 b rv hl fun hr1 => by
    obtain ⟨t, ht, q⟩ := go A outer s H vs Q E hg hr1 hs
    exact ⟨t, ht.nox, q⟩
/-- x(e, ..), x such a def -/
theorem pe_callG {X : Cx} {CX : CXT} {k : Nat} {f : Addr} {sp : Sp} {E : XK} {x : Str} {e : Expr} {es : List Expr} {t : TA} {p pos : Pos} (gu : X.A.guards = some []) (F : FnG X.prog X.w X.K X.mg X.base CX k f sp) (hr : Room k X.A) (hk : PySem.W.keepIn X.K (.ref f) = true) (hg : Gl X x) (hm : X.mg x = some (.ref f)) (hx : Passes CX X E)
    (ha : PA X (e :: es) t) (hd : (x == ("__debug__" : Str)) = false := by decide) (he : starEach (e :: es) X.env = (false, eval e X.env) :: starEach es X.env := by rfl) (hpl : (backTo pos (starEach es X.env)).any (·.1) = false := by rfl) :
    PE X (.Call (.Name x p) (e :: es) [] pos) (fun σ H Q => t σ H fun vs H1 => sp vs H1 Q E) := by
  refine ⟨fun pins s σ H Q I h => wpAny_Call_Name_kw (ld_glob I hg hm ?_ hd)⟩
  refine PySem.W.callWith_K (h₀ := X.base) I.ok.mod.kin hk (thn (ha.run pos pins s σ H _ I h) fun us s1 ⟨vs, H1, I1, r, q⟩ => ⟨I1.kIn, wpAny_call ?_⟩) he hpl
  refine codeAny_mono (F X.A X.stack s1 H1 us vs Q E gu hr I1.env0 r q) fun z s2 hz => ?_
  match z, hz with
  | .error er, hz => exact hx pins σ H1 s1 er s2 I1 hz
  | .ok (.ret u), hz => exact I1.after hz
/-! ### the law's entry, with tables of code objects and nothing being shown -/
section
variable {P : Program} {w : World} {K : PySem.W.Frag} {mg mb : Str → Option Value} {a : Addr} {cs : List (Addr × Addr)} {s : Shared} {vs : List Value} {ns : List Int}
open Classical in
/-- what is tracked at the entry: the script, if it is none of the written things, and the tables -/
noncomputable def H1st (K : PySem.W.Frag) (a : Addr) (cs : List (Addr × Addr)) (vs : List Value) (ns : List Int) : Hp := fun b =>
  if b = a ∧ K.lookup a = Option.none then some (.frz ({ cls := .type "list", data := .seq vs.toArray } : Obj) (.lst (ns.map V.int))) else if ∃ p ∈ cs, p.2 = b then some (.tbl #[]) else Option.none
theorem entry (KX : K.In s.heap) (G : s.heap.Ns mainGlobals mg) (Gb : s.heap.Ns builtinsNs mb) (bb : ∀ x : Str, x ≠ "__name__" → mb x = bootBuiltins x) (nl : s.heap.NoLimit) (ng : s.gens = #[])
    (tb : ∀ p ∈ cs, s.heap.get? p.2 = some ({ cls := .none, data := .fields #[] } : Obj)) (tk : ∀ p ∈ cs, K.lookup p.2 = Option.none) (ch : ∀ p ∈ cs, PySem.W.CodeHd s.heap p.1 p.2)
    (bm : ∃ (m : Addr) (o : Obj), mg "__builtins__" = some (.ref m) ∧ m ≠ builtinsNs ∧ s.heap.get? m = some o ∧ o.cls = .type "module" ∧ o.dict = some builtinsNs ∧ o.data = .plain)
    (sc : s.heap.get? a = some ({ cls := .type "list", data := .seq vs.toArray } : Obj)) (iv : IntsAre vs ns) (len : ns.length ≤ sizeLine) :
    ∃ (H : Hp) (base : Heap), K.In base ∧ base.Ns mainGlobals mg ∧ (∀ p ∈ cs, LamX.TabB base mg p.1 p.2) ∧ Env0 P w K mg base callerA [] s H ∧ (∀ p ∈ cs, H p.2 = some (.tbl #[])) ∧ SqL K H a (ns.map V.int) ∧
      ∀ b, H b = Option.none ∨ (∃ p ∈ cs, p.2 = b) ∨ ∃ o xs, H b = some (.frz o (.lst xs)) := by
  have rv := vals_ints iv
  have nt : ¬ ∃ p ∈ cs, p.2 = a := fun ⟨p, hp, e⟩ => by
    have z := tb p hp
    rw [e, sc] at z
    exact nomatch congrArg Obj.data (Option.some.inj z)
  -- what is tracked
  have tr : ∀ b u, H1st K a cs vs ns b = some u → (b = a ∧ K.lookup a = Option.none ∧ u = .frz ({ cls := .type "list", data := .seq vs.toArray } : Obj) (.lst (ns.map V.int))) ∨ ((∃ p ∈ cs, p.2 = b) ∧ u = .tbl #[]) := fun b u h => by
    unfold H1st at h
    split at h
    · rename_i c; exact .inl ⟨c.1, c.2, (Option.some.inj h).symm⟩
    · split at h
      · rename_i c; exact .inr ⟨c, (Option.some.inj h).symm⟩
      · cases h
  have tt : ∀ p ∈ cs, H1st K a cs vs ns p.2 = some (.tbl #[]) := fun p hp => by
    unfold H1st
    rw [if_neg (fun z : p.2 = a ∧ _ => nt ⟨p, hp, z.1⟩), if_pos ⟨p, hp, rfl⟩]
  have un : ∀ b o, s.heap.get? b = some o → (∀ v n, o.data ≠ .seq v n) → o.data ≠ .fields #[] → H1st K a cs vs ns b = Option.none := fun b o e n1 n2 => by
    match q : H1st K a cs vs ns b with
    | Option.none => rfl
    | some u =>
      exfalso
      rcases tr b u q with ⟨z, _, _⟩ | ⟨⟨p, hp, z⟩, _⟩
      · rw [z, sc] at e; cases e; exact n1 _ _ rfl
      · rw [← z, tb p hp] at e; cases e; exact n2 rfl
  have keep : ∀ {b : Addr} {o : Obj}, s.heap.get? b = some o → (∀ v n, o.data ≠ .seq v n) → o.data ≠ .fields #[] → (hidT s.heap (H1st K a cs vs ns)).get? b = some o := fun e n1 n2 => hidT_get e (un _ _ e n1 n2)
  have nsOf : ∀ {b : Addr} {m : Str → Option Value}, s.heap.Ns b m → (hidT s.heap (H1st K a cs vs ns)).Ns b m := fun {b m} ⟨o, es, ep, e, d, r⟩ => ⟨o, es, ep, keep e (fun v n z => by rw [d] at z; cases z) (fun z => by rw [d] at z; cases z), d, r⟩
  have kin : K.In (hidT s.heap (H1st K a cs vs ns)) := fun b o e => hidT_get (KX b o e) (by
    match q : H1st K a cs vs ns b with
    | Option.none => rfl
    | some u =>
      exfalso
      rcases tr b u q with ⟨z, z2, _⟩ | ⟨⟨p, hp, z⟩, _⟩
      · rw [z, z2] at e; cases e
      · rw [← z, tk p hp] at e; cases e)
  have md : L2.Mod K mg (hidT s.heap (H1st K a cs vs ns)) := { kin := kin, glob := nsOf G, blt := ⟨mb, nsOf Gb, bb⟩, nolimit := by obtain ⟨mc, q1, q2⟩ := nl; exact ⟨mc, nsOf q1, q2⟩ }
  have gl : ∀ p ∈ cs, mainGlobals ≠ p.2 := fun p hp z => by
    obtain ⟨o, es, ep, e, d, _⟩ := G
    rw [z, tb p hp] at e
    cases e
    cases d
  refine ⟨H1st K a cs vs ns, hidT s.heap (H1st K a cs vs ns), kin, nsOf G, fun p hp => ⟨?_, ?_, gl p hp⟩, ⟨rfl, md, fun b o e => of_hidT e, Nat.le_of_eq (hidT_size _ _), trivial, fun b hb => (List.not_mem_nil hb).elim, fun b u q => ?_, .of_eq ng⟩, tt, ?_, fun b => ?_⟩
  · obtain ⟨o, us, file, tf, flags, tg, inF, text, tt, q0, q1, q2, q3, rest⟩ := ch p hp
    refine ⟨o, us, file, tf, flags, tg, inF, text, tt, keep q0 (fun v n z => by rw [q2] at z; cases z) (fun z => ?_), q1, q2, q3, rest⟩
    rw [q2] at z
    cases z
    simp at q3
  · obtain ⟨m, o, b1, b2, b3, b4, b5, b6⟩ := bm
    refine ⟨m, o, b1, b2, fun z => ?_, fun z => ?_, keep b3 (fun v n z => by rw [b6] at z; cases z) (fun z => by rw [b6] at z; cases z), b4, b5, b6⟩
    · obtain ⟨o2, es, ep, e, d, _⟩ := G
      rw [z, e] at b3
      cases b3
      rw [d] at b6
      cases b6
    · rw [z, tb p hp] at b3
      cases b3
      cases b6
  · rcases tr b u q with ⟨z, _, z3⟩ | ⟨⟨p, hp, z⟩, z3⟩
    · rw [z, z3]
      exact ⟨sc, by rw [List.length_map]; exact len, vs, _, rv, sc⟩
    · rw [← z, z3]
      exact tb p hp
  · match q : K.lookup a with
    | Option.none => exact .inl (.inr ⟨_, by unfold H1st; rw [if_pos ⟨rfl, q⟩]⟩)
    | some o =>
      have e := KX a o q
      rw [sc] at e
      cases e
      exact .inr ⟨_, vs.toArray, _, q, rfl, rfl, rfl, by rw [List.size_toArray, iv.length]; exact len, by simpa using rv⟩
  · match q : H1st K a cs vs ns b with
    | Option.none => exact .inl rfl
    | some u =>
      rcases tr b u q with ⟨_, _, z3⟩ | ⟨z, _⟩
      · rw [z3]; exact .inr (.inr ⟨_, _, rfl⟩)
      · exact .inr (.inl z)
/-- what stood before the law stands behind it -/
theorem leave {H H2 : Hp} {s2 : Shared} (tb : ∀ p ∈ cs, s.heap.get? p.2 = some ({ cls := .none, data := .fields #[] } : Obj)) (ch : ∀ p ∈ cs, PySem.W.CodeHd s.heap p.1 p.2) (tt : ∀ p ∈ cs, H p.2 = some (.tbl #[]))
    (only : ∀ b, H b = Option.none ∨ (∃ p ∈ cs, p.2 = b) ∨ ∃ o xs, H b = some (.frz o (.lst xs))) (h1 : HOk P w H s.heap) (u : Un (frs []) [] H H2 s.heap s2.heap) (h2 : HOk P w H2 s2.heap) : OldK s.heap s2.heap := by
  have same : ∀ b o, ¬ (∃ p ∈ cs, p.2 = b) → s.heap.get? b = some o → s2.heap.get? b = some o := fun b o n e => by
    rcases only b with z | z | ⟨ob, xs, z⟩
    · exact u.keep b o e z List.not_mem_nil List.not_mem_nil
    · exact (n z).elim
    · have q1 := (h1 b _ z).1
      have q2 := (h2 b _ (u.frzs b ob _ z)).1
      rw [e] at q1
      rw [q2, Option.some.inj q1]
  have more : ∀ p ∈ cs, ∃ ps : Array Value, s2.heap.get? p.2 = some ({ cls := .none, data := .fields ps } : Obj) := fun p hp => by
    obtain ⟨ps, z⟩ := u.tbls p.2 #[] (tt p hp)
    exact ⟨_, h2 p.2 _ z⟩
  refine ⟨fun b o e => ?_, fun b o e => ?_⟩
  all_goals by_cases hb : ∃ p ∈ cs, p.2 = b
  · obtain ⟨p, hp, rfl⟩ := hb
    obtain ⟨ps, z⟩ := more p hp
    have e2 := e
    rw [tb p hp] at e2
    cases e2
    exact .inr (.inl ⟨((ch p hp).tab (tb p hp)).isCodeTable, rfl, #[], ps, rfl, by rw [Array.empty_append]; exact z⟩)
  · exact .inl (same b o hb e)
  · obtain ⟨p, hp, rfl⟩ := hb
    exact ⟨_, (more p hp).choose_spec⟩
  · exact ⟨o, same b o hb e⟩
end
/-- what is shown of the law behind the head: its promise, and the tables that it leans on -/
def LawG (l : PySem.W.OpenLaw) (w : World) (K : PySem.W.Frag) (k : Nat) (mg : Str → Option Value) (fa : Addr) (h : Heap) : Prop :=
  ∃ (cs : List (Addr × Addr)) (sp : Sp), (∀ p ∈ cs, h.get? p.2 = some ({ cls := .none, data := .fields #[] } : Obj)) ∧ (∀ p ∈ cs, K.lookup p.2 = Option.none) ∧ (∀ p ∈ cs, PySem.W.CodeHd h p.1 p.2) ∧
    (∀ (H : Hp) (a : Addr) (ns : List Int), ns.length ≤ 63 → (∀ z ∈ ns, Builtin.Int.intBits z ≤ 1048576) → (∀ p ∈ cs, H p.2 = some (.tbl #[])) → SqL K H a (ns.map V.int) → sp [.ref a] H (fun v _ => v = .bl true) fun _ _ _ => False) ∧
    ∀ base : Heap, K.In base → base.Ns mainGlobals mg → (∀ p ∈ cs, LamX.TabB base mg p.1 p.2) → FnG l.prog w K mg base CX0 k fa sp
/-- the table of the def x is empty behind the top -/
def TabOf (K : PySem.W.Frag) (mg : Str → Option Value) (h : Heap) (x : Str) : Prop := ∀ (f c P : Addr) (o : Obj) (fd : FuncData) (e : Value) (dd : Option Addr) (vs : Array Value) (sl : Array (Option Value)), mg x = some (.ref f) → K.lookup f = some o → o.data = .func fd → fd.code = .ref c →
  K.lookup c = some ⟨e, dd, .fields vs, sl⟩ → vs[11]? = some (.ref P) → h.get? P = some ({ cls := .none, data := .fields #[] } : Obj) ∧ PySem.W.CodeHd h c P
theorem walkG {l : PySem.W.OpenLaw} {k : Nat} {q : Program} {loose : List Str} {XP : (Str → Option Value) → Heap → Prop} {YP : World → Heap → Prop} {d : DefRec} {K : Params → PySem.W.Frag} (xs : List Str) (hxs : (xs.all fun x => (recsOf q).any fun e => e.name == x) = true)
    (hn : l.most = some 63) (hdf : d.params.defaults = []) (hr : Room k callerA) (hY : ∀ (w : World) (h : Heap), YP w h → (K w.params).In h)
    (F : ∀ (w : World) (mg : Str → Option Value) (fa : Addr) (h : Heap), (K w.params).In h → h.Ns mainGlobals mg → mg d.name = some (.ref fa) → (∀ x ∈ xs, TabOf (K w.params) mg h x) → LawG l w (K w.params) k mg fa h) :
    PySem.W.WalkO q loose XP YP l.row.toRowW d [] (fun f vs => PySem.call f vs) := by
  refine Att.attach_callB hn hdf fun w s₀ s mg mb fa o pm cd doc a vs ns G Y _ _ _ hmg hobj hints hlen hbits hg => ?_
  have KX := hY w _ Y
  have tabs : ∀ x ∈ xs, TabOf (K w.params) mg s.heap x := fun x hx f c P o fd e dd us sl m1 m2 m3 m4 m5 m6 => by
    obtain ⟨r, hr1, hr2⟩ := List.any_eq_true.mp (List.all_eq_true.mp hxs x hx)
    obtain ⟨f2, o2, fd2, c2, P2, t1, t2, t3, t4, t5, t6⟩ := G.T.tab r hr1
    rw [beq_iff_eq.mp hr2, m1] at t1
    cases t1
    rw [KX _ _ m2] at t2
    cases t2
    rw [m3] at t3
    cases t3
    rw [m4] at t4
    cases t4
    have hd := PySem.W.CodeHd.of t5 t6
    obtain ⟨⟨oc, vc, u1, _, u3, u4⟩, hP⟩ := t6
    rw [KX _ _ m5] at u1
    cases u1
    cases u3
    rw [m6] at u4
    cases u4
    exact ⟨hP, hd⟩
  obtain ⟨cs, sp, tb, tk, ch, hsp, FG⟩ := F w mg fa _ KX G.T.g hmg tabs
  obtain ⟨H, base, kin, ns1, TB, e0, tt, hS, only⟩ := entry (P := l.prog) (w := w) KX G.T.g G.T.b G.T.builtins G.T.nolimit hg tb tk ch G.T.bmain hobj hints (Nat.le_trans hlen (by decide))
  refine codeAny_mono (FG base kin ns1 TB callerA [] s H [.ref a] [.ref a] _ _ rfl hr e0 (.cons rfl .nil) (hsp H a ns hlen hbits tt hS)) fun r s2 h => ?_
  match r, h with
  | .ok (.ret u), ⟨v, H2, os, bare, un, hok, rel, e⟩ =>
    have e' : v = .bl true := e
    subst e'
    have eu : u = Value.bool true := rel
    subst eu
    exact ⟨rfl, leave tb ch tt only e0.hok un hok, os, bare⟩

/-! ### repr -/
/-- v is read as the datum d: as Dp, and dicts of no entry or one -/
inductive Dq (K : PySem.W.Frag) (H : Hp) : V → PyData → Prop where
  | dp {v : V} {d : PyData} : Dp K H v d → Dq K H v d
  | d0 {a : Addr} : H a = some (.dK []) → Dq K H (.ref a) (.dict [])
mutual
theorem dp_nodict {K : PySem.W.Frag} {H : Hp} : ∀ (d : PyData) (v : V), Dp K H v d → d.hasDict = false
  | .none, _, _ => rfl
  | .bool _, _, _ => rfl
  | .int _, _, _ => rfl
  | .str _, _, _ => rfl
  | .list ds, _, h => by
    cases h with
    | lst _ ha => exact dp_nodictAll ds _ ha
  | .tuple ds, _, h => by
    cases h with
    | tup _ ha => exact dp_nodictAll ds _ ha
  | .dict _, _, h => by cases h
theorem dp_nodictAll {K : PySem.W.Frag} {H : Hp} : ∀ (ds : List PyData) (vs : List V), DpAll K H vs ds → PyData.hasDictAll ds = false
  | [], _, _ => rfl
  | d :: ds, _, h => by
    cases h with
    | cons h1 h2 =>
      show (PyData.hasDict d || PyData.hasDictAll ds) = false
      rw [dp_nodict d _ h1, dp_nodictAll ds _ h2]
      rfl
end
theorem Dq.reads {X : Cx} {pins : List (Addr × Obj)} {σ : L2.St} {H : Hp} {s : Shared} (I : Inv X pins σ H s) {v : V} {d : PyData} {u : Value} (h : Dq X.K H v d) (r : RelV v u) : ∃ as, Reads s.heap u d as ∧ (d.hasDict = true → sysModules ∉ as) := by
  cases h with
  | dp h =>
    obtain ⟨as, q⟩ := Dp.reads I _ _ _ h r
    exact ⟨as, q, fun z => by rw [dp_nodict _ _ h] at z; cases z⟩
  | @d0 a h =>
    obtain rfl : u = Value.ref a := r
    obtain ⟨_, ns, vs, kv, o, es, ep, e1, e2, e3, e4⟩ := (show ObjOk X.prog X.w H s.heap a (.dK []) from I.hok a _ h)
    cases kv
    have e5 : es.toList = [] := by
      have e6 := e4.2.1
      generalize es.toList = l at e6
      cases e6
      rfl
    refine ⟨[a] ++ [] ++ [], Reads.dict e1 e2.1 e3 (by rw [e5]; exact .nil) (by rw [e5]; exact .nil), fun _ z => ?_⟩
    have z' : sysModules = a := by simpa using z
    rw [← z'] at ns
    simp at ns
def rRep (K : PySem.W.Frag) : List V → Hp → VK → Prop := fun vs H Q => ∃ v d, vs = [v] ∧ Dq K H v d ∧ d.showable = true ∧ d.depth ≤ 60 ∧ ((∃ i, d = .int i) ∨ d.shown.length ≤ sizeLine) ∧ Q (.str d.shown) H
theorem call_rep {X : Cx} (gu : X.A.guards = some []) (hu : X.A.units + 64 < cLine) : CallR X (.builtin "repr") (rRep X.K) := by
  intro pins s σ H xs us Q I r h
  obtain ⟨v, d, rfl, hd, h1, h2, h3, q⟩ := h
  obtain ⟨u, rfl, ru⟩ := vals1 r
  obtain ⟨as, rd, ns⟩ := hd.reads I ru
  have done : ∀ (h' : Heap) (t : Tok) (tk : Nat), (∀ b o, s.heap.get? b = some o → h'.get? b = some o) → EP X pins σ Q (.str d.shown t) { s with heap := h', toks := tk } := fun h' t tk k => ⟨.str d.shown, H, I.kept (t' := tk) k, ⟨t, rfl⟩, q⟩
  have same : ∀ t tk, EP X pins σ Q (.str d.shown t) { s with toks := tk } := fun t tk => done s.heap t tk fun _ _ z => z
  have h3 : (∀ i, d ≠ .int i) → d.shown.length ≤ sizeLine := fun n => h3.resolve_left fun ⟨i, z⟩ => n i z
  cases rd with
  | none => exact PySem.P.repr_of_none (same _ _)
  | bool b => exact PySem.P.repr_of_bool (same _ _)
  | int i t => exact PySem.P.repr_of_int (of_decide_eq_true h1) (same _ _)
  | str x t => exact PySem.P.repr_of_str (same _ _) (h3 fun _ z => nomatch z)
  | list e1 e2 e3 e4 => exact PySem.repr_of_reads' (.list e1 e2 e3 e4) h1 ns gu (by omega) (fun _ _ z => z) (fun h' u tk k => done h' u tk k) (h3 fun _ z => nomatch z)
  | tuple e1 e2 e3 e4 => exact PySem.repr_of_reads' (.tuple e1 e2 e3 e4) h1 ns gu (by omega) (fun _ _ z => z) (fun h' u tk k => done h' u tk k) (h3 fun _ z => nomatch z)
  | dict e1 e2 e3 e4 e5 => exact PySem.repr_of_reads' (.dict e1 e2 e3 e4 e5) h1 ns gu (by omega) (fun _ _ z => z) (fun h' u tk k => done h' u tk k) (h3 fun _ z => nomatch z)

/-! ### an error that is caught and kept -/
/-- at a: an exception of the class cls whose own dict is d -/
def XO (a : Addr) (cls : Value) (d : Option Addr) : HO := .ext fun h => ∃ (o : Obj) (vs : Array Value), h.get? a = some o ∧ Zc cls d o ∧ o.data = .fields vs
theorem XO_at {P : Program} {w : World} {H : Hp} {h : Heap} {a : Addr} {cls : Value} {d : Option Addr} (hok : HOk P w H h) (e : H a = some (XO a cls d)) : ∃ (o : Obj) (vs : Array Value), h.get? a = some o ∧ Zc cls d o ∧ o.data = .fields vs := by
  have x : ObjOk P w H h a (.ext fun h => ∃ (o : Obj) (vs : Array Value), h.get? a = some o ∧ Zc cls d o ∧ o.data = .fields vs) := hok a _ e
  exact x.1
theorem XO_ne {a : Addr} {cls : Value} {d : Option Addr} {u : HO} (h : ∀ φ, u ≠ .ext φ) : XO a cls d ≠ u := fun z => h _ z.symm
/-- an object that stands in the heap since the entry is taken up -/
theorem track {X : Cx} {pins : List (Addr × Obj)} {σ : L2.St} {H : Hp} {s : Shared} {a : Addr} {cls : Value} {d : Option Addr} {o : Obj} {vs : Array Value} (I : Inv X pins σ H s) (ha : s.heap.get? a = some o) (hz : Zc cls d o) (hd : o.data = .fields vs) (na : H a = Option.none)
    (n0 : X.s_0.heap.get? a = Option.none) (np : ∀ p ∈ X.pn ++ pins, p.1 ≠ a) (nL : a ≠ X.env.locals) : Inv X pins σ (upd H a (XO a cls d)) s := by
  have other : ∀ b u, H b = some u → b ≠ a := fun b u e => ne_of_none e na
  have cell : ∀ x c, X.env.cells.lookup x = some c → c ≠ a := fun x c e z => by
    obtain ⟨v, oc, q1, q2⟩ := I.cell x c e
    rw [z, ha] at q1
    cases q1
    rw [hd] at q2
    cases q2
  have start0 : ∀ b u, X.s_0.heap.get? b = some u → b ≠ a := fun b u e z => by
    rw [z, n0] at e
    cases e
  have B := I.base
  exact { ok := I.ok, os := I.os, bare := I.bare, loc := I.loc, cell := I.cell, len := I.len
          base := { keep := B.keep, slot := B.slot, there := B.there
                    free := fun b u e1 e2 e3 => by rw [upd_ne (start0 b u e1)]; exact B.free b u e1 e2 e3
                    tups := fun b xs e => by rw [upd_ne (other b _ (B.tups b xs e))]; exact B.tups b xs e
                    frzs := fun b ob u e => by rw [upd_ne (other b _ (B.frzs b ob u e))]; exact B.frzs b ob u e
                    tbls := fun b ps e => by
                      obtain ⟨more, q⟩ := B.tbls b ps e
                      exact ⟨more, by rw [upd_ne (other b _ q)]; exact q⟩ }
          free := by rw [upd_ne (Ne.symm nL)]; exact I.free
          freeC := fun x c e => by rw [upd_ne (cell x c e)]; exact I.freeC x c e
          pin := fun p hp => by
            obtain ⟨q1, q2, q3⟩ := I.pin p hp
            exact ⟨q1, by rw [upd_ne (np p hp)]; exact q2, q3⟩
          hok := fun b u e => by
            by_cases hb : b = a
            · rw [hb, upd_same] at e
              cases e
              rw [hb]
              exact ⟨⟨o, vs, ha, hz, hd⟩, ⟨o, ha⟩, fun h1 h2 ⟨o1, v1, q1, q2⟩ k => ⟨o1, v1, k _ q1, q2⟩⟩
            · rw [upd_ne hb] at e
              exact (I.hok b u e).stay (fun _ _ _ q => q) (fun c q => by rw [upd_ne (other c _ q)]; exact q) fun c xs q => by rw [upd_ne (other c _ q)]; exact q }
/-- what the clause «except x as n» wishes, the error kept behind it -/
def wKeep (K : PySem.W.Frag) (c : Value) (i : Nat) (ts : Addr → Value → Option Addr → TS) (D : Ends) : WX := fun cls d σ H =>
  PySem.W.exmOne K cls c = some true ∧ ∀ a, H a = Option.none → ts a cls d { nx := fun σ1 H1 => H1 a = Option.none → D.nx (σ1.set i Option.none) (upd H1 a (XO a cls d)), rt := fun _ _ => False } (σ.set i (some (.ref a))) H
section
variable {X : Cx} {x n : Str} {c : Value} {i : Nat} {body suite : List Stmt} {b₀ : Stmt} {np pos pos' : Pos} {tb : WX → TS} {ts : Addr → Value → Option Addr → TS}
theorem ps_try_keep (hs : X.stack = X.env :: X.outer) (hf : X.env.frame = some X.env.locals) (hex : X.ex = []) (hN : X.N.Nodup) (hi : X.N[i]? = some n) (hln : X.env.kindOf n = some .local) (hc : Names X x c)
    (hb : ∀ (W : WX) (pn : List (Addr × Obj)) (xe : Value → Shared → Prop), Takes (X.tr pn xe) W → PassesOwn (model X.prog X.w) X.A X.env xe → PSs (X.tr pn xe) body (tb W))
    (hsu : ∀ (a : Addr) (oe : Obj) (cls : Value) (d : Option Addr) (pn : List (Addr × Obj)), Zc cls d oe → (∃ vs, oe.data = .fields vs) → PSs (X.suite a ((a, oe) :: pn)) (b₀ :: suite) (ts a cls d)) :
    PS X (.Try body [.ExceptHandler (some (.Name x np)) (some n) (b₀ :: suite) pos'] [] [] pos) (fun D σ H => tb (wKeep X.K c i ts D) D σ H) := by
  refine ⟨fun pins s σ H D I h => wpAny_Try_except ?_⟩
  have ok := I.ok
  have frames : X.A.frames = some (X.env :: X.outer) := ok.frames.trans (by rw [hs])
  have R := (hb (wKeep X.K c i ts D) (X.pn ++ pins)
    (fun e q1 => wpAny (model X.prog X.w) X.A (noteFrame e X.env) (fun _ q2 => wpAny (model X.prog X.w) X.A (setFlight e none) (fun _ q3 => wpAny (model X.prog X.w) X.A (handleBy e X.env [.ExceptHandler (some (.Name x np)) (some n) (b₀ :: suite) pos']) (SP X pins D) X.xe q3) X.xe q2) X.xe q1)
    (fun u q xx => ?caught) PassesOwn.looking).run [] s σ H D (I.toTry _) h
  case caught =>
    obtain ⟨a, B, t, ps1, σ1, H1, cls, d, rfl, J0, ground, upto, sky, na, os, ag, yes, rest⟩ := xx
    have J : Inv X pins σ1 H1 t := J0.ofTry ok
    show wpAny (model X.prog X.w) X.A (noteFrame (.ref a) X.env) _ _ _
    refine Sky.land Zc.steady frames hf (hs ▸ sky) fun hp fl upto2 => ?_
    have J1 : Inv X pins σ1 H1 { q with heap := hp } := J.landed ground fl.1 (upto.trans upto2) os ag
    obtain ⟨o1, v1, at1, z1, d1⟩ := fl.there
    have nfr : a ∉ frs (X.env :: X.outer) := fun hm => by
      obtain ⟨_, o2, e2, nd⟩ := fl.2.2.1.mem hm
      rw [at1] at e2
      cases e2
      exact nd _ d1
    have nL : a ≠ X.env.locals := fun z => nfr (List.mem_filterMap.mpr ⟨X.env, List.mem_cons_self, by rw [hf, z]⟩)
    have nF : a ∉ X.fs := fun hm => by
      obtain ⟨e, he, z⟩ := List.mem_filterMap.mp hm
      exact nfr (List.mem_filterMap.mpr ⟨e, List.mem_cons_of_mem _ he, z⟩)
    -- it did not stand there
    have nt : t.heap.get? a = Option.none := by
      match z : t.heap.get? a with
      | Option.none => rfl
      | some o2 =>
        have z2 := ground a o2 z (by rw [hs]; exact nfr)
        rw [fl.2.1] at z2
        cases z2
    have n0 : X.s_0.heap.get? a = Option.none := by
      match z : X.s_0.heap.get? a with
      | Option.none => rfl
      | some o2 =>
        obtain ⟨o3, z3⟩ := J.base.there a o2 z (by rw [hex]; exact List.not_mem_nil)
        rw [nt] at z3
        cases z3
    have npn : ∀ p ∈ X.pn ++ pins, p.1 ≠ a := fun p hp z => by
      have z2 := (J.pin p hp).1
      rw [z, nt] at z2
      cases z2
    have S1 := J1.suite at1 d1 na nL nF
    refine wpAny_handleBy_cons (codeAny_handlers_test ?_) (by intro z; cases z)
    have kind : PySem.W.Looks (model X.prog X.w) hp (typeOf (.ref a)) cls := fun A Q E s1 k z => wpAny_typeOf_ref (k _ _ at1) (by rw [z1.1]; exact z)
    have meets := PySem.W.exm_one (M := model X.prog X.w) J1.kIn kind yes
    have look : ∀ {Q : Value → Shared → Prop} {E : Value → Shared → Prop}, Q c { q with heap := hp } → wpAny (model X.prog X.w) (X.A.mark (some (.ref a))) (eval (.Name x np) X.env) Q E { q with heap := hp } := fun {Q E} z => by
      obtain ⟨g1, g2, g3⟩ := hc
      rcases g3 with g3 | ⟨g3, g4, g5⟩
      · exact ld_glob (X := X.suite a ((a, o1) :: (X.pn ++ pins))) S1 g1 g3 z g2
      · exact ld_blt (X := X.suite a ((a, o1) :: (X.pn ++ pins))) S1 g1 g3 g4 z g5 g2
    refine look (meets.here (codeAny_handlers_suite_as (HandSPX.lands_againZ fl fun hp2 fl2 upto3 => ?_)))
    have J2 : Inv X pins σ1 H1 { q with heap := hp2 } := J.landed ground fl2.1 ((upto.trans upto2).trans upto3) os ag
    obtain ⟨o2, v2, at2, z2, d2⟩ := fl2.there
    refine store_ok (X := X.suite a ((a, o2) :: (X.pn ++ pins))) (v := .ref a) (J2.suite at2 d2 na nL nF) hN hi (.inl hln) rfl (fun s5 S5 => ?_) (.inr hln)
    refine wpAny_mono ((hsu a o2 cls d (X.pn ++ pins) z2 ⟨_, d2⟩).run [] s5 _ H1 _ S5 (rest a na)) (fun f s6 hsp => ?_) (fun _ _ z => z.elim)
    match f, hsp with
    | .next, ⟨σ6, H6, S6, q6⟩ =>
      obtain ⟨p1, p2, _⟩ := S6.pin (a, o2) (List.mem_append_left _ List.mem_cons_self)
      have J6 := track (S6.unsuite ok) p1 z2 d2 p2 n0 npn nL
      exact gone_ok J6 hN hi hln fun s7 J7 => ⟨_, _, J7, q6 p2⟩
    | .ret u, ⟨_, _, _, _, _, z⟩ => exact z.elim
    | .brk, ⟨_, _, _, z⟩ => exact z.elim
    | .cont, ⟨_, _, _, z⟩ => exact z.elim
  refine wpAny_mono R (fun f s1 hsp => ?_) fun e s1 he => he
  match f, hsp with
  | .next, ⟨σ1, H1, J, q⟩ => exact wpAny_execs_nil ⟨σ1, H1, J.ofTry ok, q⟩
  | .ret u, ⟨v, σ1, H1, J, r, q⟩ => exact ⟨v, σ1, H1, J.ofTry ok, r, q⟩
  | .brk, ⟨σ1, H1, J, q⟩ => exact ⟨σ1, H1, J.ofTry ok, q⟩
  | .cont, ⟨σ1, H1, J, q⟩ => exact ⟨σ1, H1, J.ofTry ok, q⟩
end
/-- what the written part says of an error's class C -/
structure ErrC (K : PySem.W.Frag) (C : Addr) : Prop where
  cl : (PySem.W.clsIn K C).isSome = true
  ga : PySem.W.findIn K (.ref C) "__getattribute__" = some (some (.builtin "BaseException.__getattribute__"))
  gg : PySem.W.findIn K (.ref C) "__getattr__" = some Option.none
  ex : PySem.W.subIn K (.ref C) (.type "BaseException") = some true
  hd : PySem.W.hasDictIn K C = true
  ha : PySem.W.findIn K (.ref C) "__class__" = some (some (.builtin "object.__class__"))
  hn : PySem.W.specialIn K (.builtin "object.__class__") "__get__" = some (some (.builtin "getset_descriptor.__get__"))
  ht : PySem.W.takesIn K (.builtin "object.__class__") = some true
  hm : PySem.W.mroIn K C (.type "object") = some true
theorem XO_inst {X : Cx} {pins : List (Addr × Obj)} {σ : L2.St} {H : Hp} {s : Shared} {a C d : Addr} {fs : List (Str × V)} (I : Inv X pins σ H s) (e : H a = some (XO a (.ref C) (some d))) (ed : H d = some (.xd fs)) :
    ∃ (o od : Obj), PySem.W.InstAt s.heap a o C (some od) ∧ ∃ mA : Str → Option Value, (∀ f, RelO (fs.lookup f) (mA f)) ∧ ∀ f : Str, PySem.W.lookIn f od = some (mA f) := by
  obtain ⟨o, vs, h1, h2, h3⟩ := XO_at I.hok e
  obtain ⟨mA, hns, hr⟩ := (show ObjOk X.prog X.w H s.heap d (.xd fs) from I.hok d _ ed)
  obtain ⟨od, ho, hl⟩ := lookIn_ns hns
  exact ⟨o, od, ⟨h1, h2.1, by unfold PySem.W.notCls; rw [h3] <;> rfl, by rw [h2.2]; exact ho⟩, mA, hr, hl⟩
/-- isinstance(e, c), e kept -/
def rIsK (K : PySem.W.Frag) : List V → Hp → VK → Prop := fun xs H Q => ∃ (a C d : Addr) (fs : List (Str × V)) (c : V) (cv : Value) (b : Bool), xs = [.ref a, c] ∧ H a = some (XO a (.ref C) (some d)) ∧ H d = some (.xd fs) ∧ ErrC K C ∧ (∀ u, RelV c u → u = cv) ∧ PySem.W.kitOne K (.ref C) cv = some b ∧ Q (.bl b) H
theorem call_isK {X : Cx} : CallR X (.builtin "isinstance") (rIsK X.K) := by
  intro pins s σ H xs us Q I r h
  obtain ⟨a, C, d, fs, c, cv, b, rfl, e, ed, T, hc, k, q⟩ := h
  obtain ⟨u1, u2, rfl, r1, r2⟩ := vals2 r
  obtain rfl : u1 = Value.ref a := r1
  have e2 := hc _ r2
  subst e2
  obtain ⟨o, od, J, _⟩ := XO_inst I e ed
  exact PySem.W.kia_one (PySem.W.kitx_exc T.cl T.ga T.gg T.ex T.ha T.hn T.ht T.hm) I.kIn J k (fun z => nomatch z) fun tk => ⟨.bl b, H, I.kept (t' := tk) fun _ _ z => z, rfl, q⟩
/-- e.f, e kept -/
def tFldK (K : PySem.W.Frag) (f : Str) (te : TE) : TE := fun σ H Q => te σ H fun x H1 => ∃ (a C d : Addr) (fs : List (Str × V)) (v : V), x = .ref a ∧ H1 a = some (XO a (.ref C) (some d)) ∧ H1 d = some (.xd fs) ∧ ErrC K C ∧ PySem.W.findIn K (.ref C) f = some Option.none ∧ fs.lookup f = some v ∧ Q v H1
theorem pe_fldK {X : Cx} {e : Expr} {te : TE} {f : Str} {pos : Pos} (he : PE X e te) (hb : attributeBase e f X.env (eval e X.env) = eval e X.env := by rfl) : PE X (.Attribute e f pos) (tFldK X.K f te) := by
  refine ⟨fun pins s σ H Q I h => attr_of hb (thn (he.run pins s σ H _ I h) fun u s1 hh => ?_)⟩
  obtain ⟨y, H1, I1, ry, a, C, d, fs, v, rfl, ea, ed, T, no, l, q⟩ := hh
  obtain rfl : u = Value.ref a := ry
  obtain ⟨o, od, J, mA, hr, hl⟩ := XO_inst I1 ea ed
  obtain ⟨u, hu, ru⟩ := RelO.some_of (v := v) (o := mA f) (by rw [← l]; exact hr f)
  exact HandSPX.exc_get I1.kIn J T.ga T.gg T.ex (PySem.W.findObj_own T.hd no rfl (by rw [hl, hu])) (handed_of ru) ⟨v, H1, I1.tok _, ru, q⟩

/-! ### values by kinds; numbers that are refused -/
/-- v is of the built-in kind t -/
inductive NT (H : Hp) : V → String → Prop where
  | non : NT H .non "NoneType"
  | bl (b : Bool) : NT H (.bl b) "bool"
  | int (i : Int) : NT H (.int i) "int"
  | str (x : Str) : NT H (.str x) "str"
  | lst {a : Addr} {xs : List V} : H a = some (.lst xs) → NT H (.ref a) "list"
  | tup {a : Addr} {xs : List V} : H a = some (.tup xs) → NT H (.ref a) "tuple"
  | dic {a : Addr} {kvs : List (Key × V)} : H a = some (.dK kvs) → NT H (.ref a) "dict"
theorem NT.same {H H' : Hp} (s : Same H H') {v : V} {t : String} (h : NT H v t) : NT H' v t := by
  cases h with
  | non => exact .non
  | bl b => exact .bl b
  | int i => exact .int i
  | str x => exact .str x
  | lst e => exact .lst (s _ _ e)
  | tup e => exact .tup (s _ _ e)
  | dic e => exact .dic (s _ _ e)
theorem NT.ty {K : PySem.W.Frag} {H : Hp} {v : V} {t : String} (h : NT H v t) : TyX K H v (.type t) := by
  cases h with
  | non => exact .base .non
  | bl b => exact .base (.bl b)
  | int i => exact .base (.int i)
  | str x => exact .base (.str x)
  | lst e => exact .base (.lst e)
  | tup e => exact .base (.tup e)
  | dic e => exact .base (.dK e)
theorem NT.kit {H : Hp} {v : V} {t : String} (h : NT H v t) : ∃ b1 b2, kitB t "int" = some b1 ∧ kitB t "bool" = some b2 ∧ (b1 && !b2) = (t == "int") := by
  cases h with
  | non => exact ⟨false, false, by decide +kernel, by decide +kernel, by decide +kernel⟩
  | bl b => exact ⟨true, true, by decide +kernel, by decide +kernel, by decide +kernel⟩
  | int i => exact ⟨true, false, by decide +kernel, by decide +kernel, by decide +kernel⟩
  | str x => exact ⟨false, false, by decide +kernel, by decide +kernel, by decide +kernel⟩
  | lst e => exact ⟨false, false, by decide +kernel, by decide +kernel, by decide +kernel⟩
  | tup e => exact ⟨false, false, by decide +kernel, by decide +kernel, by decide +kernel⟩
  | dic e => exact ⟨false, false, by decide +kernel, by decide +kernel, by decide +kernel⟩
theorem NT.tupB {H : Hp} {v : V} {t : String} (h : NT H v t) : kitB t "tuple" = some (t == "tuple") := by
  cases h <;> decide +kernel
theorem NT.isInt {H : Hp} {v : V} {t : String} (h : NT H v t) (e : t = "int") : ∃ i, v = .int i := by
  cases h with
  | int i => exact ⟨i, rfl⟩
  | _ => exact absurd e (by decide)
/-- def f(*v) of the text, which may raise -/
theorem star_okX {x qual pv : Str} {k : Nat} {st : Stmt} {f : Addr} {fd : FuncData} {N : List Str} {sp : List V → Hp → VK → XK → Prop}
    (F : Fun K x qual st f fd) (S : FnScope N [pv] (defScope st))
    (hb : ∀ (kV doc pm : Value) (an : Option Addr) (cdv ct : Value) (rest : List Value), bindArgs (PySem.W.fnOf x qual (defArgs st) (defBody st) (defScope st) .none kV doc pm an cdv ct) { pos := rest, kw := [] } = (newTuple rest >>= fun t => pure [(pv, t)]))
    (go : ∀ (cdv : Value) (A : Around) (outer : List Env) (s : Shared) (H : Hp) (vs : List V) (p : Addr) (H0 : Hp) (Q : VK) (E : XK), Room k (A.deeper (envOfC qual (defScope st) s.heap.objs.size f cdv)) → sp vs H0 Q E → vs.length ≤ sizeLine → H0 p = Option.none → H = upd H0 p (.tup vs) →
      ∃ t, PSs (cxOf (L2.CX P w) P w K mg base N qual (defScope st) f cdv A outer s H E) (defBody st) t ∧ t { nx := fun _ H1 => Q .non H1, rt := Q } (start N [V.ref p]) H) :
    FnR P w K mg base (L2.CX P w) (k + 1) f (fun vs H Q E => vs.length ≤ sizeLine ∧ sp vs H Q E) := by
  obtain ⟨oc, od, kV, doc, pm, an, cdv, ct, osl, e, lk, hcd⟩ := F.ex
  subst e
  refine FnR.imp (fn_star (ps := []) (pv := pv) (CX := L2.CX P w) (sp := fun ws H Q E => ∃ (vs : List V) (p : Addr) (H0 : Hp), ws = [V.ref p] ∧ sp vs H0 Q E ∧ vs.length ≤ sizeLine ∧ H0 p = Option.none ∧ H = upd H0 p (.tup vs)) lk hcd S cxUp (fun us rest hl => ?_) fun A outer s H vs Q E hr h => ?_) fun vs H Q E h => ?_
  · have e : us = [] := List.length_eq_zero_iff.mp hl
    subst e
    show bindArgs _ { pos := rest, kw := [] } = _
    rw [hb]
    rfl
  · obtain ⟨ws, p, H0, rfl, hs, hl, hp, rfl⟩ := h
    exact go cdv A outer s _ ws p H0 Q E hr hs hl hp rfl
  · exact ⟨[], vs, rfl, rfl, h.1, fun p hp => ⟨vs, p, H, rfl, h.2, h.1, hp, rfl⟩⟩

/-! ### the error BadNumber -/
/-- what the written part says of BadNumber, at C, and of its __init__ -/
structure BadN (K : PySem.W.Frag) (mg : Str → Option Value) where
  C : Addr
  f : Addr
  fd : FuncData
  oex : OexC K C
  iC : PySem.W.findIn K (.ref C) "__init__" = some (some (.ref f))
  tI : PySem.W.typeIn K (.ref f) = some (.type "function")
  F : Fun K "__init__" "BadNumber.__init__" s_BadNumber_init f fd
  no : PySem.W.findIn K (.ref C) "value" = some Option.none
  m : mg "BadNumber" = some (.ref C)
/-- the init of an error of one field -/
def spInit1 (K : PySem.W.Frag) (f : Str) : Sp := fun vs H Q _ => ∃ (a C : Addr) (v : V), vs = [.ref a, v] ∧ OexC K C ∧ PySem.W.findIn K (.ref C) f = some Option.none ∧ H a = some (exo a C Option.none) ∧
  ∀ dx, H dx = Option.none → dx ≠ a → Q .non (upd (upd H dx (exd dx [(f, v)])) a (exo a C (some dx)))
theorem ok_bad_init (B : BadN K mg) : FnOk P w K mg base CX0 1 B.f B.fd ["self", "value"] (spInit1 K "value") := by
  refine B.F.ok sc_BadNumber_init (fun vs H Q E h => ?_) (fun cdv A outer s H vs Q E hr h => ?_)
  · obtain ⟨a, C, v, rfl, _⟩ := h; rfl
  · obtain ⟨a, C, v, rfl, T, no, ha, k⟩ := h
    refine ⟨_, pss_one (ps_ost (pv 0) (pv 1)), ?_⟩
    exact ⟨_, rfl, _, rfl, a, C, rfl, T, no, .inl ⟨ha, k⟩⟩
theorem b_bad (B : BadN K mg) : Binds K B.fd ["self", "value"] [] := B.F.binds (ps := ["self", "value"]) fun _ _ _ _ _ _ us hl => match us, hl with | [_, _], _ => rfl
theorem pmk_bad {X : Cx} {x : Expr} {te : TE} {p pos : Pos} (B : BadN X.K X.mg) (hr : Room 2 X.A) (hg : Gl X "BadNumber") (he : PE X x te)
    (hs : starEach (x :: []) X.env = (false, eval x X.env) :: starEach [] X.env := by rfl) (hpl : (backTo pos (starEach [] X.env)).any (·.1) = false := by rfl) : PMk X (.Call (.Name "BadNumber" p) [x] [] pos) (tMkO B.C (spInit1 X.K "value") [] (tCons te tNil)) :=
  pmk_oex (CX := CX0) (dvs := []) (ds := []) B.oex B.iC B.tI (ok_bad_init B) hr (b_bad B) .nil (fun _ _ _ _ _ _ _ z => z.elim) hg B.m (pa_cons he pa_nil hs) (by decide) hs hpl
/-- how its reading is answered -/
theorem bad_fin (B : BadN K mg) {H : Hp} {a : Addr} {v : V} {Q : XK} (ha : H a = Option.none) (k : ∀ (d : Addr) (H2 : Hp), Same H H2 → H d = Option.none → H2 d = some (.xd [("value", v)]) → Q (.ref B.C) (some d) H2) :
    spInit1 K "value" (.ref a :: ([v] ++ [])) (upd H a (exo a B.C Option.none)) (fun v' H2 => v' = .non ∧ ∃ (d : Addr) (fs : List (Str × V)), H2 a = some (exo a B.C (some d)) ∧ H2 d = some (exd d fs) ∧ H d = Option.none ∧ Q (.ref B.C) (some d) (upd (del H2 a) d (.xd fs))) (fun _ _ _ => False) := by
  refine ⟨a, B.C, v, rfl, B.oex, B.no, upd_same, fun dx h1 h2 => ⟨rfl, dx, _, upd_same, by rw [upd_ne h2, upd_same], ?_, ?_⟩⟩
  · rw [upd_ne h2] at h1; exact h1
  · have hd : H dx = Option.none := by rw [upd_ne h2] at h1; exact h1
    refine k dx _ (fun b o e => ?_) hd upd_same
    have n1 := ne_of_none e ha
    have n2 := ne_of_none e hd
    rw [upd_ne n2, del_ne n1, upd_ne n1, upd_ne n2, upd_ne n1]
    exact e


end
/-- what the top has written -/
structure Txt (K : PySem.W.Frag) (mg : Str → Option Value) where
  a_is_whole : Addr
  fd_is_whole : FuncData
  F_is_whole : Fun K "is_whole" "is_whole" s_is_whole a_is_whole fd_is_whole
  m_is_whole : mg "is_whole" = some (.ref a_is_whole)
  a_is_from : Addr
  fd_is_from : FuncData
  F_is_from : Fun K "is_from" "is_from" s_is_from a_is_from fd_is_from
  m_is_from : mg "is_from" = some (.ref a_is_from)
  a_is_part : Addr
  fd_is_part : FuncData
  F_is_part : Fun K "is_part" "is_part" s_is_part a_is_part fd_is_part
  m_is_part : mg "is_part" = some (.ref a_is_part)
  a_together : Addr
  fd_together : FuncData
  F_together : Fun K "together" "together" s_together a_together fd_together
  m_together : mg "together" = some (.ref a_together)
  a_inverse : Addr
  fd_inverse : FuncData
  F_inverse : Fun K "inverse" "inverse" s_inverse a_inverse fd_inverse
  m_inverse : mg "inverse" = some (.ref a_inverse)
  a_pen : Addr
  fd_pen : FuncData
  F_pen : Fun K "_law_pen" "_law_pen" s_pen a_pen fd_pen
  m_pen : mg "_law_pen" = some (.ref a_pen)
  a_draw : Addr
  fd_draw : FuncData
  F_draw : Fun K "_law_draw" "_law_draw" s_draw a_draw fd_draw
  m_draw : mg "_law_draw" = some (.ref a_draw)
  a_pick : Addr
  fd_pick : FuncData
  F_pick : Fun K "_law_pick" "_law_pick" s_pick a_pick fd_pick
  m_pick : mg "_law_pick" = some (.ref a_pick)
  a_heard : Addr
  fd_heard : FuncData
  F_heard : Fun K "_law_heard" "_law_heard" s_heard a_heard fd_heard
  m_heard : mg "_law_heard" = some (.ref a_heard)
  a_asked : Addr
  fd_asked : FuncData
  F_asked : Fun K "_law_asked" "_law_asked" s_asked a_asked fd_asked
  m_asked : mg "_law_asked" = some (.ref a_asked)
  a_due : Addr
  fd_due : FuncData
  F_due : Fun K "_law_due" "_law_due" s_due a_due fd_due
  m_due : mg "_law_due" = some (.ref a_due)
  a_pairs : Addr
  fd_pairs : FuncData
  F_pairs : Fun K "_law_pairs" "_law_pairs" s_pairs a_pairs fd_pairs
  m_pairs : mg "_law_pairs" = some (.ref a_pairs)
  a_refused_right : Addr
  fd_refused_right : FuncData
  F_refused_right : Fun K "_law_refused_right" "_law_refused_right" s_refused_right a_refused_right fd_refused_right
  m_refused_right : mg "_law_refused_right" = some (.ref a_refused_right)
  a_law : Addr
  fd_law : FuncData
  F_law : Fun K "law" "law" s_law a_law fd_law
  m_law : mg "law" = some (.ref a_law)
  a_BadNumber_init : Addr
  fd_BadNumber_init : FuncData
  F_BadNumber_init : Fun K "__init__" "BadNumber.__init__" s_BadNumber_init a_BadNumber_init fd_BadNumber_init
  m_gcd : mg "gcd" = some (.builtin "math.gcd")
  n_ValueError : mg "ValueError" = none
  n_abs : mg "abs" = none
  n_bool : mg "bool" = none
  n_int : mg "int" = none
  n_isinstance : mg "isinstance" = none
  n_len : mg "len" = none
  n_list : mg "list" = none
  n_range : mg "range" = none
  n_repr : mg "repr" = none
  n_tuple : mg "tuple" = none
  bad : BadN K mg
section
variable {P : Program} {w : World} {K : PySem.W.Frag} {mg : Str → Option Value} {base : Heap}
theorem b_is_whole (T : Txt K mg) : Binds K T.fd_is_whole ["value"] [] := T.F_is_whole.binds (ps := ["value"]) fun _ _ _ _ _ _ us hl => match us, hl with | [_], _ => rfl
theorem b_is_from (T : Txt K mg) : Binds K T.fd_is_from ["value", "low"] [] := T.F_is_from.binds (ps := ["value", "low"]) fun _ _ _ _ _ _ us hl => match us, hl with | [_, _], _ => rfl
theorem b_is_part (T : Txt K mg) : Binds K T.fd_is_part ["value"] [] := T.F_is_part.binds (ps := ["value"]) fun _ _ _ _ _ _ us hl => match us, hl with | [_], _ => rfl
theorem b_inverse (T : Txt K mg) : Binds K T.fd_inverse ["number", "divisor"] [] := T.F_inverse.binds (ps := ["number", "divisor"]) fun _ _ _ _ _ _ us hl => match us, hl with | [_, _], _ => rfl
theorem b_pen (T : Txt K mg) : Binds K T.fd_pen ["_law_script"] [] := T.F_pen.binds (ps := ["_law_script"]) fun _ _ _ _ _ _ us hl => match us, hl with | [_], _ => rfl
theorem b_draw (T : Txt K mg) : Binds K T.fd_draw ["_law_pen_here", "_law_many"] [] := T.F_draw.binds (ps := ["_law_pen_here", "_law_many"]) fun _ _ _ _ _ _ us hl => match us, hl with | [_, _], _ => rfl
theorem b_pick (T : Txt K mg) : Binds K T.fd_pick ["_law_pen_here", "_law_some"] [] := T.F_pick.binds (ps := ["_law_pen_here", "_law_some"]) fun _ _ _ _ _ _ us hl => match us, hl with | [_, _], _ => rfl
theorem b_heard (T : Txt K mg) : Binds K T.fd_heard ["_law_ask"] [] := T.F_heard.binds (ps := ["_law_ask"]) fun _ _ _ _ _ _ us hl => match us, hl with | [_], _ => rfl
theorem b_asked (T : Txt K mg) : Binds K T.fd_asked ["_law_some"] [] := T.F_asked.binds (ps := ["_law_some"]) fun _ _ _ _ _ _ us hl => match us, hl with | [_], _ => rfl
theorem b_due (T : Txt K mg) : Binds K T.fd_due ["_law_some"] [] := T.F_due.binds (ps := ["_law_some"]) fun _ _ _ _ _ _ us hl => match us, hl with | [_], _ => rfl
theorem b_pairs (T : Txt K mg) : Binds K T.fd_pairs ["_law_pen_here"] [] := T.F_pairs.binds (ps := ["_law_pen_here"]) fun _ _ _ _ _ _ us hl => match us, hl with | [_], _ => rfl
theorem b_refused_right (T : Txt K mg) : Binds K T.fd_refused_right ["_law_pen_here"] [] := T.F_refused_right.binds (ps := ["_law_pen_here"]) fun _ _ _ _ _ _ us hl => match us, hl with | [_], _ => rfl
theorem b_law (T : Txt K mg) : Binds K T.fd_law ["_law_script"] [] := T.F_law.binds (ps := ["_law_script"]) fun _ _ _ _ _ _ us hl => match us, hl with | [_], _ => rfl
theorem b_BadNumber_init (T : Txt K mg) : Binds K T.fd_BadNumber_init ["self", "value"] [] := T.F_BadNumber_init.binds (ps := ["self", "value"]) fun _ _ _ _ _ _ us hl => match us, hl with | [_, _], _ => rfl

--CUT
def spWhole : Sp := fun vs H Q _ => ∃ (v : V) (t : String), vs = [v] ∧ NT H v t ∧ Q (.bl (t == "int")) H
theorem ok_is_whole (T : Txt K mg) : FnOk P w K mg base CX0 1 T.a_is_whole T.fd_is_whole ["value"] spWhole := by
  refine T.F_is_whole.ok sc_is_whole (fun vs H Q E h => ?_) (fun cdv A outer s H vs Q E hr h => ?_)
  · obtain ⟨v, t, rfl, _⟩ := h; rfl
  · obtain ⟨v, t, rfl, ht, k⟩ := h
    obtain ⟨b1, b2, h1, h2, h3⟩ := ht.kit
    refine ⟨_, pss_one (ps_ret (pe_and (pe_callB call_isi (by rfl) T.n_isinstance (by decide +kernel) (pa_cons (pv 0) (pa_cons (pe_bltn (v := .ty "int") (u := .type "int") (by rfl) T.n_int (by decide +kernel) rfl) (pa_nil)))) (pe_one (pe_not (pe_callB call_isi (by rfl) T.n_isinstance (by decide +kernel) (pa_cons (pv 0) (pa_cons (pe_bltn (v := .ty "bool") (u := .type "bool") (by rfl) T.n_bool (by decide +kernel) rfl) (pa_nil)))))))), ?_⟩
    refine ⟨_, rfl, v, .ty "int", .type t, .type "int", b1, rfl, .ty _, ht.ty, kit_ty h1, b1, rfl, ?_⟩
    rw [← h3] at k
    cases b1 with
    | false => exact iteF k
    | true => exact iteT ⟨_, rfl, v, .ty "bool", .type t, .type "bool", b2, rfl, .ty _, ht.ty, kit_ty h2, b2, rfl, k⟩
/-- whether v is an integer from l on -/
def fromB (l : Int) : V → Bool
  | .int i => decide (l ≤ i)
  | _ => false
def spFrom : Sp := fun vs H Q _ => ∃ (v : V) (t : String) (l : Int), vs = [v, .int l] ∧ NT H v t ∧ Q (.bl (fromB l v)) H
theorem fromB_no {H : Hp} {v : V} {t : String} {l : Int} (h : NT H v t) (n : (t == "int") = false) : fromB l v = false := by
  cases h <;> first | rfl | cases n
theorem ok_is_from (T : Txt K mg) : FnOk P w K mg base CX0 2 T.a_is_from T.fd_is_from ["value", "low"] spFrom := by
  refine T.F_is_from.ok sc_is_from (fun vs H Q E h => ?_) (fun cdv A outer s H vs Q E hr h => ?_)
  · obtain ⟨v, t, l, rfl, _⟩ := h; rfl
  · obtain ⟨v, t, l, rfl, ht, k⟩ := h
    refine ⟨_, pss_one (ps_ret (pe_and (pe_call (ok_is_whole T) (hr.mono (by decide)) rfl T.m_is_whole T.F_is_whole.kp (b_is_whole T) .nil pass0 (pa_cons (pv 0) (pa_nil))) (pe_one (pe_cmpR op_ge (pv 0) (pv 1) (nomark _))))), ?_⟩
    refine ⟨_, rfl, v, t, rfl, ht, (t == "int"), rfl, ?_⟩
    cases e : (t == "int") with
    | false => rw [fromB_no ht e] at k; exact iteF k
    | true =>
      obtain ⟨i, rfl⟩ := ht.isInt (beq_iff_eq.mp e)
      exact iteT ⟨_, rfl, _, rfl, _, _, rfl, rfl, k⟩

/-! ### parts -/
/-- whether v is a part -/
inductive PartB (H : Hp) : V → Bool → Prop where
  | no {v : V} {t : String} : NT H v t → (t == "tuple") = false → PartB H v false
  | len {a : Addr} {xs : List V} : H a = some (.tup xs) → xs.length ≠ 2 → PartB H (.ref a) false
  | two {a : Addr} {x y : V} {t u : String} : H a = some (.tup [x, y]) → NT H x t → NT H y u → PartB H (.ref a) ((t == "int") && fromB 1 y)
theorem PartB.same {H H' : Hp} (s : Same H H') {v : V} {b : Bool} (h : PartB H v b) : PartB H' v b := by
  cases h with
  | no h n => exact .no (h.same s) n
  | len e n => exact .len (s _ _ e) n
  | two e h1 h2 => exact .two (s _ _ e) (h1.same s) (h2.same s)
def spPart : Sp := fun vs H Q _ => ∃ (v : V) (b : Bool), vs = [v] ∧ PartB H v b ∧ Q (.bl b) H
theorem ok_is_part (T : Txt K mg) : FnOk P w K mg base CX0 4 T.a_is_part T.fd_is_part ["value"] spPart := by
  refine T.F_is_part.ok sc_is_part (fun vs H Q E h => ?_) (fun cdv A outer s H vs Q E hr h => ?_)
  · obtain ⟨v, b, rfl, _⟩ := h; rfl
  · obtain ⟨v, b, rfl, hb, k⟩ := h
    refine ⟨_, pss_one (ps_ret (pe_and (pe_callB call_isi (by rfl) T.n_isinstance (by decide +kernel) (pa_cons (pv 0) (pa_cons (pe_bltn (v := .ty "tuple") (u := .type "tuple") (by rfl) T.n_tuple (by decide +kernel) rfl) (pa_nil)))) (pe_and (pe_cmpR op_eq (pe_callB call_len_seq (by rfl) T.n_len (by decide +kernel) (pa_cons (pv 0) (pa_nil))) (pe_int) (nomark _)) (pe_and (pe_call (ok_is_whole T) (hr.mono (by decide)) rfl T.m_is_whole T.F_is_whole.kp (b_is_whole T) .nil pass0 (pa_cons (pe_ix ix_tup (pv 0) (pe_int) (fun _ _ => rfl)) (pa_nil))) (pe_one (pe_call (ok_is_from T) (hr.mono (by decide)) rfl T.m_is_from T.F_is_from.kp (b_is_from T) .nil pass0 (pa_cons (pe_ix ix_tup (pv 0) (pe_int) (fun _ _ => rfl)) (pa_cons (pe_int) (pa_nil))))))))), ?_⟩
    cases hb with
    | @no _ t h n => exact ⟨_, rfl, v, .ty "tuple", .type t, .type "tuple", false, rfl, .ty _, h.ty, kit_ty (by rw [h.tupB, n]), false, rfl, iteF k⟩
    | @len a xs e n =>
      refine ⟨_, rfl, .ref a, .ty "tuple", .type "tuple", .type "tuple", true, rfl, .ty _, .base (.tup e), kit_ty (by decide +kernel), true, rfl, iteT ?_⟩
      refine ⟨_, rfl, a, _, rfl, .inr (SqT.of e), rfl, false, ?_, iteF k⟩
      have n2 : ¬ ((xs.length : Nat) : Int) = 2 := by omega
      show V.bl (decide (V.int ((xs.length : Nat) : Int) = V.int 2)) = .bl false
      rw [decide_eq_false fun z => n2 (by injection z)]
    | @two a x y t u e h1 h2 =>
      refine ⟨_, rfl, .ref a, .ty "tuple", .type "tuple", .type "tuple", true, rfl, .ty _, .base (.tup e), kit_ty (by decide +kernel), true, rfl, iteT ?_⟩
      refine ⟨_, rfl, a, _, rfl, .inr (SqT.of e), rfl, true, rfl, iteT ?_⟩
      refine ⟨_, rfl, a, _, _, _, rfl, rfl, SqT.of e, rfl, x, t, rfl, h1, (t == "int"), rfl, ?_⟩
      cases q : (t == "int") with
      | false => rw [q] at k; exact iteF k
      | true =>
        rw [q] at k
        refine iteT ⟨_, rfl, a, _, _, _, rfl, rfl, SqT.of e, rfl, y, u, 1, rfl, h2, k⟩

--CUT
def spInverse : Sp := fun vs H Q _ => ∃ n d : Int, vs = [.int n, .int d] ∧ 0 < d ∧ d.natAbs < 2 ^ 1000 ∧ Nat.gcd d.natAbs n.natAbs = 1 ∧ ∀ (r : Int) (H' : Hp), Same H H' → 0 ≤ r → r < d → d ∣ r * n - 1 → Q (.int r) H'
theorem ok_inverse (T : Txt K mg) : FnOk P w K mg base CX0 4 T.a_inverse T.fd_inverse ["number", "divisor"] spInverse := by
  refine T.F_inverse.ok sc_inverse (fun vs H Q E h => ?_) (fun cdv A outer s H vs Q E hr h => ?_)
  · obtain ⟨n, d, rfl, _⟩ := h; rfl
  · obtain ⟨n, d, rfl, hd, hb, hg, k⟩ := h
    refine ⟨_, pss_cons (ps_par (i := 2) (j := 3) (by rfl) sc_inverse.nd rfl rfl (by decide) rfl rfl (pa_cons (pv 1) (pa_cons (pe_op op_modN (pv 0) (pv 1)) (pa_nil))) (by rfl))
      (pss_cons (ps_asg (pe_tup (pa_cons (pe_int) (pa_cons (pe_int) (pa_nil)))) (pg_tup rfl (pgs_cons (pg_name (i := 4) sc_inverse.nd rfl (Or.inl rfl)) (pgs_cons (pg_name (i := 5) sc_inverse.nd rfl (Or.inl rfl)) (pgs_nil)))))
      (pss_cons (ps_while PassesOwn.never (pt_cmpR op_ne (pv 3) (pe_int) (nomark _)) (pss_cons (ps_set (i := 6) sc_inverse.nd rfl (Or.inl rfl) (pe_op op_fdivW (pv 2) (pv 3)))
      (pss_cons (ps_par (i := 2) (j := 3) (by rfl) sc_inverse.nd rfl rfl (by decide) rfl rfl (pa_cons (pv 3) (pa_cons (pe_op op_sub (pv 2) (pe_op op_mulW (pv 6) (pv 3))) (pa_nil))) (by rfl))
      (pss_one (ps_par (i := 4) (j := 5) (by rfl) sc_inverse.nd rfl rfl (by decide) rfl rfl (pa_cons (pv 5) (pa_cons (pe_op op_sub (pv 4) (pe_op op_mulW (pv 6) (pv 5))) (pa_nil))) (by rfl))))))
      (pss_one (ps_ret (pe_op op_modN (pv 4) (pv 1)))))), ?_⟩
    refine ⟨_, rfl, _, rfl, _, rfl, _, _, rfl, rfl, (by omega), _, _, rfl, (by show 2 ≤ sizeLine; decide), fun tp htp => ⟨_, _, rfl, SqT.of upd_same, rfl, _, _, rfl, _, _, rfl, rfl, ?_⟩⟩
    have s0 : Same H (upd H tp (.tup [V.int 0, V.int 1])) := same_new htp
    generalize upd H tp (.tup [V.int 0, V.int 1]) = H1 at s0 ⊢
    refine while_by (fun σ H' => H' = H1 ∧ ∃ (l r f g : Int) (t : Option V), σ = [some (.int n), some (.int d), some (.int l), some (.int r), some (.int f), some (.int g), t] ∧ NM.Euc n d l r f g)
      (fun σ _ => match σ with | [_, _, _, some (.int r), _, _, _] => r.toNat | _ => 0) ⟨rfl, d, n % d, 0, 1, Option.none, ?_, NM.Euc.start hd⟩ ?_ ?_
    · rw [← Int.fmod_eq_emod_of_nonneg n (Int.le_of_lt hd)]
      rfl
    · rintro σ H' ⟨rfl, l, r, f, g, t, rfl, E⟩
      refine ⟨_, rfl, rfl, _, rfl, ?_⟩
      by_cases hr0 : r = 0
      · subst hr0
        refine iteF ?_
        refine ⟨_, rfl, _, rfl, _, _, rfl, rfl, (by omega), ?_⟩
        have c := E.fin hg
        show Q (V.int (f.fmod d)) H'
        rw [Int.fmod_eq_emod_of_nonneg f (Int.le_of_lt hd)]
        refine k _ _ s0 (Int.emod_nonneg _ (by omega)) (Int.emod_lt_of_pos _ hd) ?_
        have h1 : d ∣ f - f % d := Int.dvd_self_sub_emod
        have h2 := NM.dvd_mr n h1
        have h3 := Int.dvd_sub c h2
        have e : f * n - 1 - (f - f % d) * n = f % d * n - 1 := by rw [Int.sub_mul]; omega
        rwa [e] at h3
      · have ne : decide ((V.int r) = V.int 0) = false := decide_eq_false fun z => hr0 (by injection z)
        rw [ne]
        refine iteT ?_
        have hrp : 0 < r := by have := E.r; omega
        have sz := E.size
        have rd := E.rd
        have lp := E.l
        have ll := E.le
        have rb : r.natAbs < 2 ^ 1000 := Nat.lt_of_le_of_lt (by omega) hb
        have lb : l.natAbs < 2 ^ 1000 := Nat.lt_of_le_of_lt (by omega) hb
        have qb : (l / r).natAbs < 2 ^ 1000 := by
          have h0 : 0 ≤ l / r := Int.ediv_nonneg (by omega) (by omega)
          have h1 : l / r ≤ l := Int.ediv_le_self r (by omega)
          exact Nat.lt_of_le_of_lt (by omega) lb
        have gb : g.natAbs < 2 ^ 1000 := Nat.lt_of_le_of_lt (by omega) hb
        refine ⟨_, rfl, _, rfl, _, _, rfl, rfl, wide_div (b := 1000) hrp rb (by decide) (by decide), ?_⟩
        refine ⟨_, rfl, _, rfl, _, rfl, _, rfl, _, _, rfl, rfl, wide_mul qb rb (by decide) (by decide) (by decide), _, _, rfl, rfl, _, _, rfl, ?_⟩
        refine ⟨_, rfl, _, rfl, _, rfl, _, rfl, _, _, rfl, rfl, wide_mul qb gb (by decide) (by decide) (by decide), _, _, rfl, rfl, _, _, rfl, ?_⟩
        exact ⟨⟨rfl, _, _, _, _, _, rfl, E.turn hr0⟩, E.less hr0⟩
    · intro σ H' Q1 Q2 hq h
      obtain ⟨v, e1, e2, c, e3, h⟩ := h
      exact ⟨v, e1, e2, c, e3, hq _ _ h⟩

/-- what together returns -/
def oV : Option Int → V
  | some x => .int x
  | Option.none => .non
/-- the values are the parts ps, as they stand in the heap -/
def Parts (H : Hp) (vs : List V) (ps : List (Int × Int)) : Prop := vs.length = ps.length ∧ ∀ (i : Nat) (y : V), vs[i]? = some y → ∃ (a : Addr) (q : Int × Int), y = .ref a ∧ ps[i]? = some q ∧ H a = some (.tup [.int q.1, .int q.2])
theorem Parts.nil {H : Hp} : Parts H [] [] := ⟨rfl, fun i y h => by simp at h⟩
theorem Parts.cons {H : Hp} {vs : List V} {ps : List (Int × Int)} {a : Addr} {r d : Int} (h : H a = some (.tup [.int r, .int d])) (t : Parts H vs ps) : Parts H (.ref a :: vs) ((r, d) :: ps) :=
  ⟨by rw [List.length_cons, List.length_cons, t.1], fun i y e => by
    cases i with
    | zero => exact ⟨a, (r, d), (Option.some.inj e).symm, rfl, h⟩
    | succ i => exact t.2 i y e⟩
theorem Parts.same {H H' : Hp} {vs : List V} {ps : List (Int × Int)} (h : Parts H vs ps) (s : Same H H') : Parts H' vs ps := ⟨h.1, fun i y e => by
  obtain ⟨a, q, e1, e2, e3⟩ := h.2 i y e
  exact ⟨a, q, e1, e2, s _ _ e3⟩⟩
def spTogether (C : Addr) : Sp := fun vs H Q E =>
  (∃ ps : List (Int × Int), Parts H vs ps ∧ ps.length ≤ 6 ∧ (∀ q ∈ ps, 0 < q.2 ∧ q.2.natAbs < 2 ^ 1000 ∧ q.1.natAbs < 2 ^ 1000) ∧ ∀ (o : Option Int) (H' : Hp), Same H H' → NM.TogIs ps o → Q (oV o) H') ∨
  (∃ (j : Nat) (v : V), vs[j]? = some v ∧ (∀ (i : Nat) (y : V), i < j → vs[i]? = some y → PartB H y true) ∧ PartB H v false ∧ ∀ (d : Addr) (H' : Hp), Same H H' → H d = Option.none → H' d = some (.xd [("value", v)]) → E (.ref C) (some d) H')
theorem ok_together (T : Txt K mg) : FnR P w K mg base (L2.CX P w) 6 T.a_together (fun vs H Q E => vs.length ≤ sizeLine ∧ spTogether T.bad.C vs H Q E) := by
  refine star_okX T.F_together sc_together (fun _ _ _ _ _ _ rest => ?_) (fun cdv A outer s H vs p H0 Q E hr h hl hp eH => ?_)
  · cases rest <;> rfl
  · subst eH
    have s0 : Same H0 (upd H0 p (.tup vs)) := same_new hp
    have hT0 : SqT K (upd H0 p (.tup vs)) p vs := SqT.of upd_same
    have hp0 : (upd H0 p (.tup vs)) p = some (.tup vs) := upd_same
    generalize upd H0 p (.tup vs) = H at s0 hT0 hp0 ⊢
    refine ⟨_, pss_cons (ps_for (passes_of rfl) rfl (pi_tup (pv 0)) (pg_name (i := 1) sc_together.nd rfl (Or.inl rfl)) (pss_one (ps_if (pt_not (pt_val (pe_call (ok_is_part T) (hr.mono (by decide)) rfl T.m_is_part T.F_is_part.kp (b_is_part T) .nil pass0 (pa_cons (pv 1) (pa_nil))))) (pss_one (ps_raise rfl (takes_of rfl rfl rfl rfl) (pmk_bad T.bad (hr.mono (by decide)) rfl (pv 1)))) (pss_nil))))
      (pss_cons (ps_asg (pe_tup (pa_cons (pe_int) (pa_cons (pe_int) (pa_nil)))) (pg_tup rfl (pgs_cons (pg_name (i := 2) sc_together.nd rfl (Or.inl rfl)) (pgs_cons (pg_name (i := 3) sc_together.nd rfl (Or.inl rfl)) (pgs_nil)))))
      (pss_cons (ps_for (passes_of rfl) rfl (pi_tup (pv 0)) (pg_tup rfl (pgs_cons (pg_name (i := 4) sc_together.nd rfl (Or.inl rfl)) (pgs_cons (pg_name (i := 5) sc_together.nd rfl (Or.inl rfl)) (pgs_nil)))) (pss_cons (ps_set (i := 6) sc_together.nd rfl (Or.inl rfl) (pe_callBfun cr_gcd (by rfl) T.m_gcd (pa_cons (pv 3) (pa_cons (pv 5) (pa_nil)))))
      (pss_cons (ps_set (i := 7) sc_together.nd rfl (Or.inl rfl) (pe_op op_sub (pv 4) (pv 2)))
      (pss_cons (ps_if (pt_cmpR op_ne (pe_op op_modN (pv 7) (pv 6)) (pe_int) (nomark _)) (pss_one (ps_ret (pe_non))) (pss_nil))
      (pss_cons (ps_set (i := 8) sc_together.nd rfl (Or.inl rfl) (pe_op op_fdivW (pv 5) (pv 6)))
      (pss_cons (ps_set (i := 9) sc_together.nd rfl (Or.inl rfl) (pe_op op_modN (pe_op op_mulW (pe_op op_fdivW (pv 7) (pv 6)) (pe_call (ok_inverse T) (hr.mono (by decide)) rfl T.m_inverse T.F_inverse.kp (b_inverse T) .nil pass0 (pa_cons (pe_op op_fdivW (pv 3) (pv 6)) (pa_cons (pv 8) (pa_nil))))) (pv 8)))
      (pss_cons (ps_set (i := 2) sc_together.nd rfl (Or.inl rfl) (pe_op op_add (pv 2) (pe_op op_mulW (pv 3) (pv 9))))
      (pss_one (ps_set (i := 3) sc_together.nd rfl (Or.inl rfl) (pe_op op_mulW (pv 3) (pv 8)))))))))))
      (pss_one (ps_ret (pv 2))))), ?_⟩
    rcases h with ⟨ps, hP0, hlen, hps, k⟩ | ⟨j, v, hj, hgood, hbad, k⟩
    rotate_left
    · refine ⟨_, rfl, p, rfl, ⟨_, hT0⟩, for_tup (K := K) (a := p) (xs := vs) (fun i σ H' => i ≤ j ∧ H' = H ∧ ∃ v, σ = [some (.ref p), v, Option.none, Option.none, Option.none, Option.none, Option.none, Option.none, Option.none, Option.none]) ⟨Nat.zero_le _, rfl, Option.none, rfl⟩ (fun _ _ _ _ h => h.2.1 ▸ hT0) ?_ ?_⟩
      · rintro i y σ H' hi ⟨hij, rfl, v', rfl⟩
        by_cases e : i = j
        · subst e
          rw [hj] at hi
          cases hi
          refine ⟨_, rfl, _, false, rfl, hbad.same s0, false, rfl, iteT ?_⟩
          refine ⟨_, rfl, (by show 1 ≤ 1000; decide), fun a ha => bad_fin T.bad ha fun d H2 s2 hd h2 => k d H2 (s0.trans s2) (s0.free hd) h2⟩
        · refine ⟨_, rfl, y, true, rfl, (hgood i y (by omega) hi).same s0, true, rfl, iteF ⟨by omega, rfl, _, rfl⟩⟩
      · rintro σ H' ⟨hij, rfl, v', rfl⟩
        have := (List.getElem?_eq_some_iff.mp hj).1
        omega
    have hP := hP0.same s0
    refine ⟨_, rfl, p, rfl, ⟨_, hT0⟩, for_tup (K := K) (a := p) (xs := vs) (fun i σ H' => H' = H ∧ ∃ v, σ = [some (.ref p), v, Option.none, Option.none, Option.none, Option.none, Option.none, Option.none, Option.none, Option.none]) ⟨rfl, Option.none, rfl⟩ (fun _ _ _ _ h => h.1 ▸ hT0) ?_ ?_⟩
    · rintro i y σ H' hi ⟨rfl, v, rfl⟩
      obtain ⟨a, q, rfl, hq, ha⟩ := hP.2 i y hi
      have hb := hps q (List.mem_of_getElem? hq)
      have hB : PartB H' (.ref a) true := by
        have z := PartB.two ha (.int q.1) (.int q.2)
        have e : (("int" : String) == "int" && fromB 1 (V.int q.2)) = true := by
          show (("int" : String) == "int" && decide (1 ≤ q.2)) = true
          rw [decide_eq_true (show (1 : Int) ≤ q.2 by omega)]
          decide
        rwa [e] at z
      exact ⟨_, rfl, _, true, rfl, hB, true, rfl, iteF ⟨rfl, _, rfl⟩⟩
    · rintro σ H' ⟨rfl, v, rfl⟩
      refine ⟨(by show 2 ≤ sizeLine; decide), fun tp htp => ⟨_, _, rfl, SqT.of upd_same, rfl, _, _, rfl, _, _, rfl, rfl, ?_⟩⟩
      have s1 : Same H' (upd H' tp (.tup [V.int 0, V.int 1])) := same_new htp
      have s01 := s0.trans s1
      have hP1 := hP.same s1
      have hp1 := s1 _ _ hp0
      generalize upd H' tp (.tup [V.int 0, V.int 1]) = H1 at s1 s01 hP1 hp1 ⊢
      refine ⟨_, rfl, p, rfl, ⟨_, SqT.of hp1⟩, for_tup (K := K) (a := p) (xs := vs) (fun i σ H2 => Same H1 H2 ∧ ∃ (f st : Int) (x1 x4 x5 x6 x7 x8 x9 : Option V), σ = [some (.ref p), x1, some (.int f), some (.int st), x4, x5, x6, x7, x8, x9] ∧ NM.Tog (ps.take i) f st ∧ st ≤ 2 ^ (1000 * i))
        ⟨Same.refl _, 0, 1, _, _, _, _, _, _, _, rfl, NM.Tog.start, by decide⟩ (fun _ _ _ _ h => SqT.of (h.1 _ _ hp1)) ?_ ?_⟩
      · rintro i y σ H2 hi ⟨s2, f, st, x1, x4, x5, x6, x7, x8, x9, rfl, Tg, hst⟩
        obtain ⟨a, ⟨r, d⟩, rfl, hq, ha⟩ := hP1.2 i y hi
        obtain ⟨hd, hdb, hrb⟩ := hps _ (List.mem_of_getElem? hq)
        have hd : 0 < d := hd
        have hdb : d.natAbs < 2 ^ 1000 := hdb
        have hrb : r.natAbs < 2 ^ 1000 := hrb
        have hi6 : i < 6 := by
          have := (List.getElem?_eq_some_iff.mp hq).1
          omega
        refine ⟨a, _, rfl, SqT.of (s2 _ _ ha), rfl, _, _, rfl, _, _, rfl, rfl, ?_⟩
        have sp := Tg.pos
        have fl := Tg.lo
        have fh := Tg.hi
        have gp := NM.gI_pos (a := st) hd
        have gd : ((Int.gcd st d : Nat) : Int) ≤ d := Int.le_of_dvd hd (Int.gcd_dvd_right st d)
        have gb : ((Int.gcd st d : Nat) : Int).natAbs < 2 ^ 1000 := Nat.lt_of_le_of_lt (by omega) hdb
        -- shared, away
        refine ⟨_, rfl, _, rfl, st, d, rfl, ?_⟩
        refine ⟨_, rfl, _, rfl, r, f, rfl, rfl, ?_⟩
        refine ⟨_, rfl, _, rfl, r - f, ((Int.gcd st d : Nat) : Int), rfl, rfl, (by omega), rfl, _, rfl, ?_⟩
        have efm : (r - f).fmod ((Int.gcd st d : Nat) : Int) = (r - f) % ((Int.gcd st d : Nat) : Int) := Int.fmod_eq_emod_of_nonneg _ (by omega)
        by_cases hdv : ((Int.gcd st d : Nat) : Int) ∣ r - f
        · have e0 : (r - f).fmod ((Int.gcd st d : Nat) : Int) = 0 := by rw [efm]; exact Int.emod_eq_zero_of_dvd hdv
          have et : (!decide (V.int ((r - f).fmod ((Int.gcd st d : Nat) : Int)) = V.int 0)) = false := by rw [e0]; rfl
          refine if_false_of et ?_
          -- rest
          refine ⟨_, rfl, _, rfl, d, ((Int.gcd st d : Nat) : Int), rfl, rfl, wide_div (b := 1000) gp gb (by decide) (by decide), ?_⟩
          have rp : 0 < d / ((Int.gcd st d : Nat) : Int) := Int.ediv_pos_of_pos_of_dvd hd (by omega) (Int.gcd_dvd_right st d)
          have rl : d / ((Int.gcd st d : Nat) : Int) ≤ d := Int.ediv_le_self _ (by omega)
          have rb : (d / ((Int.gcd st d : Nat) : Int)).natAbs < 2 ^ 1000 := Nat.lt_of_le_of_lt (by omega) hdb
          -- turns
          have pw : (2 : Int) ^ (1000 * i) ≤ 2 ^ 5001 := by
            have h0 : (2 : Nat) ^ (1000 * i) ≤ 2 ^ 5001 := Nat.pow_le_pow_right (by decide) (by omega)
            exact_mod_cast h0
          have sb : st.natAbs < 2 ^ 5002 := by
            have : (2 : Int) ^ 5001 < 2 ^ 5002 := by
              have h0 : (2 : Nat) ^ 5001 < 2 ^ 5002 := Nat.pow_lt_pow_right (by decide) (by decide)
              exact_mod_cast h0
            have h2 : st < 2 ^ 5002 := by omega
            have h3 : ((st.natAbs : Nat) : Int) < ((2 ^ 5002 : Nat) : Int) := by
              rw [Int.natAbs_of_nonneg (by omega)]; exact_mod_cast h2
            exact_mod_cast h3
          have fb : f.natAbs < 2 ^ 5002 := Nat.lt_of_le_of_lt (by omega) sb
          have ab : (r - f).natAbs < 2 ^ 5003 := by
            have h1 : (r - f).natAbs ≤ r.natAbs + f.natAbs := by omega
            have h2 : (2 : Nat) ^ 1000 ≤ 2 ^ 5002 := Nat.pow_le_pow_right (by decide) (by decide)
            have h3 : (2 : Nat) ^ 5003 = 2 ^ 5002 + 2 ^ 5002 := by rw [Nat.pow_succ]; omega
            omega
          have qb : ((r - f) / ((Int.gcd st d : Nat) : Int)).natAbs < 2 ^ 5003 := Nat.lt_of_le_of_lt (Int.natAbs_ediv_le_natAbs _ _) ab
          refine ⟨_, rfl, _, rfl, r - f, ((Int.gcd st d : Nat) : Int), rfl, rfl, wide_div (b := 1000) gp gb (by decide) (by decide), ?_⟩
          refine ⟨_, rfl, _, rfl, st, ((Int.gcd st d : Nat) : Int), rfl, rfl, wide_div (b := 1000) gp gb (by decide) (by decide), _, rfl, ?_⟩
          refine ⟨st / ((Int.gcd st d : Nat) : Int), d / ((Int.gcd st d : Nat) : Int), rfl, rp, rb, NM.Tog.cop hd, fun iv H3 s3 i0 i1 hiv => ?_⟩
          have ib : iv.natAbs < 2 ^ 1000 := Nat.lt_of_le_of_lt (by omega) rb
          refine ⟨_, _, rfl, rfl, wide_mul qb ib (by decide) (by decide) (by decide), _, rfl, _, _, rfl, rfl, (by show d / ((Int.gcd st d : Nat) : Int) ≠ 0; omega), ?_⟩
          have em : ((r - f) / ((Int.gcd st d : Nat) : Int) * iv).fmod (d / ((Int.gcd st d : Nat) : Int)) = (r - f) / ((Int.gcd st d : Nat) : Int) * iv % (d / ((Int.gcd st d : Nat) : Int)) := Int.fmod_eq_emod_of_nonneg _ (by omega)
          have t0 := Int.emod_nonneg ((r - f) / ((Int.gcd st d : Nat) : Int) * iv) (show d / ((Int.gcd st d : Nat) : Int) ≠ 0 by omega)
          have t1 := Int.emod_lt_of_pos ((r - f) / ((Int.gcd st d : Nat) : Int) * iv) rp
          have tb : (((r - f) / ((Int.gcd st d : Nat) : Int) * iv).fmod (d / ((Int.gcd st d : Nat) : Int))).natAbs < 2 ^ 1000 := by rw [em]; exact Nat.lt_of_le_of_lt (by omega) rb
          refine ⟨_, rfl, _, rfl, _, rfl, st, _, rfl, rfl, wide_mul sb tb (by decide) (by decide) (by decide), f, _, rfl, rfl, ?_⟩
          refine ⟨_, rfl, _, rfl, st, _, rfl, rfl, wide_mul sb rb (by decide) (by decide) (by decide), ?_⟩
          have Tn := Tg.some hd rfl hdv rfl hiv em
          have etk : ps.take (i + 1) = ps.take i ++ [(r, d)] := NM.take_snoc hq
          refine ⟨s2.trans s3, _, _, _, _, _, _, _, _, _, rfl, ?_, ?_⟩
          · rw [etk]; exact Tn
          · have e1 : (2 : Int) ^ (1000 * (i + 1)) = 2 ^ (1000 * i) * 2 ^ 1000 := by rw [Nat.mul_add, Nat.mul_one, Int.pow_add]
            have e2 : d ≤ 2 ^ 1000 := by
              have h3 : ((d.natAbs : Nat) : Int) < ((2 ^ 1000 : Nat) : Int) := by exact_mod_cast hdb
              rw [Int.natAbs_of_nonneg (by omega)] at h3
              have h4 : ((2 ^ 1000 : Nat) : Int) = (2 : Int) ^ 1000 := by exact_mod_cast rfl
              omega
            rw [e1]
            refine Int.le_trans (Int.mul_le_mul_of_nonneg_left (show d / ((Int.gcd st d : Nat) : Int) ≤ 2 ^ 1000 by omega) (by omega)) (Int.mul_le_mul_of_nonneg_right hst ?_)
            exact Int.le_of_lt (Int.pow_pos (by decide))
        · have e0 : ¬ (r - f).fmod ((Int.gcd st d : Nat) : Int) = 0 := by rw [efm]; exact fun z => hdv (Int.dvd_of_emod_eq_zero z)
          have et : (!decide (V.int ((r - f).fmod ((Int.gcd st d : Nat) : Int)) = V.int 0)) = true := by
            rw [decide_eq_false (fun z => e0 (by injection z))]; rfl
          refine if_true_of et ?_
          have hn : NM.TogIs ps Option.none := by
            have h1 : NM.TogIs (ps.take i ++ [(r, d)]) Option.none := fun y => Tg.none hdv y
            rw [← NM.take_snoc hq] at h1
            have h2 := NM.togIs_none_mono (qs := ps.drop (i + 1)) h1
            rwa [List.take_append_drop] at h2
          exact k Option.none H2 (s01.trans s2) hn
      · rintro σ H2 ⟨s2, f, st, x1, x4, x5, x6, x7, x8, x9, rfl, Tg, hst⟩
        rw [hP1.1, List.take_length] at Tg
        exact ⟨_, rfl, k (some f) H2 (s01.trans s2) Tg.is⟩

--CUT
/-! ### the draws -/
def spPen (K : PySem.W.Frag) : Sp := fun vs H Q _ => ∃ (a : Addr) (ns : List Int), vs = [.ref a] ∧ SqL K H a (ns.map V.int) ∧ ns.length ≤ 63 ∧ ∀ (p : Addr) (H' : Hp), Same H H' → Pen H' p 0 → Q (.ref p) H'
theorem ok_pen (T : Txt K mg) : FnOk P w K mg base CX0 1 T.a_pen T.fd_pen ["_law_script"] (spPen K) := by
  refine T.F_pen.ok sc_pen (fun vs H Q E h => ?_) (fun cdv A outer s H vs Q E hr h => ?_)
  · obtain ⟨a, ns, rfl, _⟩ := h; rfl
  · obtain ⟨a, ns, rfl, hS, hl, k⟩ := h
    refine ⟨_, pss_one (ps_ret (pe_lst (pa_cons (pe_callTy call_list_of (by rfl) T.n_list (by decide +kernel) (pa_cons (pe_slice sl_list (pv 0) (po_none) (po_some (pe_int))) (pa_nil))) (pa_cons (pe_int) (pa_cons (pe_int) (pa_nil)))))), ?_⟩
    obtain ⟨ms, em, lm⟩ := cut_ints ns none (some 63)
    refine ⟨_, rfl, _, rfl, a, _, rfl, hS, fun q hq => ?_⟩
    refine ⟨q, _, rfl, .inl (SqL.of upd_same), fun l hl => ?_⟩
    refine ⟨(by show 3 ≤ sizeLine; decide), fun p hp => k p _ ?_ ?_⟩
    · exact (same_new hq).trans ((same_new hl).trans (same_new hp))
    · refine ⟨l, ms, 0, 0, upd_same, ?_, by omega, by omega, by omega, by omega⟩
      rw [upd_ne (ne_of_none upd_same hp), upd_same, em]
def spDraw : Sp := fun vs H Q _ => ∃ (p : Addr) (m : Int) (n : Nat), vs = [.ref p, .int m] ∧ 0 < m ∧ m < 1073741824 ∧ Pen H p n ∧ n < 100000 ∧ ∀ (r : Int) (H' : Hp), 0 ≤ r → r < m → Pen H' p (n + 1) → Fr p H H' → Q (.int r) H'
theorem ok_draw (T : Txt K mg) : FnOk P w K mg base CX0 1 T.a_draw T.fd_draw ["_law_pen_here", "_law_many"] spDraw := by
  refine T.F_draw.ok sc_draw (fun vs H Q E h => ?_) (fun cdv A outer s H vs Q E hr h => ?_)
  · obtain ⟨p, m, n, rfl, _⟩ := h; rfl
  · obtain ⟨p, m, n, rfl, hm, hm2, ⟨c, ns, i, g, hp, hc, i0, i1, g0, hl⟩, hn, k⟩ := h
    have cp : c ≠ p := pen_ne hp hc
    have mb : m.natAbs < 2 ^ 30 := by omega
    refine ⟨_, pss_cons (ps_if (pt_cmpR op_gt (pe_ix ix_list (pv 0) (pe_int) (fun _ _ => rfl)) (pe_int) (nomark _)) (pss_cons (ps_set (i := 2) sc_draw.nd rfl (Or.inl rfl) (pe_op op_modN (pe_callTy call_int1 (by rfl) T.n_int (by decide +kernel) (pa_cons (pe_ix ix_list (pv 0) (pe_int) (fun _ _ => rfl)) (pa_nil))) (pv 1)))
      (pss_cons (ps_asg (pe_op op_fdivW (pe_callTy call_int1 (by rfl) T.n_int (by decide +kernel) (pa_cons (pe_ix ix_list (pv 0) (pe_int) (fun _ _ => rfl)) (pa_nil))) (pv 1)) (pg_sub (pv 0) (pe_int) set_list))
      (pss_one (ps_ret (pv 2))))) (pss_nil))
      (pss_cons (ps_set (i := 3) sc_draw.nd rfl (Or.inl rfl) (pe_ix ix_list (pv 0) (pe_int) (fun _ _ => rfl)))
      (pss_cons (ps_asg (pe_op op_add (pv 3) (pe_int)) (pg_sub (pv 0) (pe_int) set_list))
      (pss_cons (ps_set (i := 4) sc_draw.nd rfl (Or.inl rfl) (pe_op op_add (pe_op op_mul (pe_int) (pv 3)) (pe_int)))
      (C8.pss_cut (ps_if (pt_cmpR (op_neD hr.units) (pe_ix ix_list (pv 0) (pe_int) (fun _ _ => rfl)) (pe_lst (pa_nil)) (nomark _)) (pss_one (ps_set (i := 4) sc_draw.nd rfl (Or.inl rfl) (pe_ix ix_list (pe_ix ix_list (pv 0) (pe_int) (fun _ _ => rfl)) (pe_op op_modN (pe_callTy call_int1 (by rfl) T.n_int (by decide +kernel) (pa_cons (pv 3) (pa_nil))) (pe_callB call_len_seq (by rfl) T.n_len (by decide +kernel) (pa_cons (pe_ix ix_list (pv 0) (pe_int) (fun _ _ => rfl)) (pa_nil)))) (fun _ _ => rfl)))) (pss_nil))
      (C8.pss_cut (ps_if (PW.pt (pw_and (pt_cmpR op_lt (pv 3) (pe_callB call_len_seq (by rfl) T.n_len (by decide +kernel) (pa_cons (pe_ix ix_list (pv 0) (pe_int) (fun _ _ => rfl)) (pa_nil))) (nomark _)) (pw_and1 (pt_cmpR op_ge (pe_callB call_abs (by rfl) T.n_abs (by decide +kernel) (pa_cons (pv 4) (pa_nil))) (pe_op op_pow (pe_int) (pe_int)) (nomark _))))) (pss_cons (ps_set (i := 5) sc_draw.nd rfl (Or.inl rfl) (pe_op op_add (pe_op op_mul (pe_int) (pe_op op_sub (pe_callB call_abs (by rfl) T.n_abs (by decide +kernel) (pa_cons (pv 4) (pa_nil))) (pe_op op_pow (pe_int) (pe_int)))) (pe_callTy call_int1 (by rfl) T.n_int (by decide +kernel) (pa_cons (pe_cmpR op_lt (pv 4) (pe_int) (nomark _)) (pa_nil)))))
      (pss_cons (ps_asg (pe_op op_fdivW (pe_callTy call_int1 (by rfl) T.n_int (by decide +kernel) (pa_cons (pv 5) (pa_nil))) (pv 1)) (pg_sub (pv 0) (pe_int) set_list))
      (pss_one (ps_ret (pe_op op_modN (pe_callTy call_int1 (by rfl) T.n_int (by decide +kernel) (pa_cons (pv 5) (pa_nil))) (pv 1)))))) (pss_nil))
      (pss_cons (ps_set (i := 6) sc_draw.nd rfl (Or.inl rfl) (pe_op op_modN (pe_callTy call_int1 (by rfl) T.n_int (by decide +kernel) (pa_cons (pe_op op_pow (pe_op op_add (pe_op op_add (pe_op op_modN (pe_callTy call_int1 (by rfl) T.n_int (by decide +kernel) (pa_cons (pv 4) (pa_nil))) (pe_int)) (pe_op op_mul (pe_int) (pv 3))) (pe_int)) (pe_int)) (pa_nil))) (pe_int)))
      (pss_cons (ps_set (i := 6) sc_draw.nd rfl (Or.inl rfl) (pe_op op_modN (pe_callTy call_int1 (by rfl) T.n_int (by decide +kernel) (pa_cons (pe_op op_pow (pe_op op_add (pe_op op_add (pe_op op_mul (pv 6) (pe_op op_add (pe_op op_mul (pe_int) (pv 3)) (pe_int))) (pe_op op_mul (pe_op op_mul (pe_int) (pv 3)) (pv 3))) (pe_int)) (pe_int)) (pa_nil))) (pe_int)))
      (pss_one (ps_ret (pe_op op_modN (pe_callTy call_int1 (by rfl) T.n_int (by decide +kernel) (pa_cons (pe_op op_fdivW (pv 6) (pe_int)) (pa_nil))) (pv 1))))))))))), ?_⟩
    refine ⟨_, rfl, p, _, _, _, rfl, rfl, SqL.of hp, rfl, _, _, rfl, rfl, _, rfl, ?_⟩
    refine ite2 (fun hg => ?_) (fun hg => ?_)
    · refine ⟨_, rfl, p, _, _, _, rfl, rfl, SqL.of hp, rfl, .inl ⟨_, rfl, ?_⟩⟩
      refine ⟨_, rfl, _, _, rfl, rfl, (by omega), ?_⟩
      refine ⟨_, rfl, p, _, _, _, rfl, rfl, SqL.of hp, rfl, .inl ⟨_, rfl, ?_⟩⟩
      refine ⟨_, rfl, _, _, rfl, rfl, wide_div hm mb (by decide) (by decide), ?_⟩
      refine ⟨_, rfl, p, _, _, _, rfl, rfl, hp, rfl, _, rfl, ?_⟩
      have fm := fmod_pos (x := g) hm
      refine k _ _ fm.1 fm.2 ⟨c, ns, i, g / m, upd_same, ?_, i0, by omega, Int.ediv_nonneg g0 (by omega), hl⟩ (fr_upd hp)
      rw [upd_ne cp]; exact hc
    · refine ⟨_, rfl, p, _, _, _, rfl, rfl, SqL.of hp, rfl, ?_⟩
      refine ⟨_, rfl, _, _, rfl, rfl, _, rfl, p, _, _, _, rfl, rfl, hp, rfl, ?_⟩
      -- the index is one more
      have f1 : Fr p H (upd H p (.lst [.ref c, .int (i + 1), .int g])) := fr_upd hp
      have hp1 : (upd H p (.lst [.ref c, .int (i + 1), .int g])) p = some (.lst [.ref c, .int (i + 1), .int g]) := upd_same
      have hc1 : (upd H p (.lst [.ref c, .int (i + 1), .int g])) c = some (.lst (ns.map V.int)) := by rw [upd_ne cp]; exact hc
      show _
      refine ⟨_, rfl, _, _, rfl, rfl, .inl ⟨by decide, by decide⟩, _, _, rfl, rfl, ?_⟩
      refine ⟨fun σ' H' => ∃ raw : Int, σ' = [some (.ref p), some (.int m), Option.none, some (.int i), some (.int raw), Option.none, Option.none] ∧ Same (upd H p (.lst [.ref c, .int (i + 1), .int g])) H', ?_, ?_⟩
      · refine ⟨_, rfl, p, _, _, _, rfl, rfl, SqL.of hp1, rfl, Nat.zero_le _, fun l hl0 => ?_⟩
        refine ⟨.list (ns.map PyData.int), .list [], .lst (SqL.of (same_new hl0 _ _ hc1)) (dp_ints ns), .lst (SqL.of upd_same) .nil, PySem.W.ke_shaped_ints ns, by decide +kernel, _, rfl, ?_⟩
        have s1 := same_new (o := .lst []) hl0
        cases ns with
        | nil => exact iteF ⟨_, rfl, s1⟩
        | cons z r =>
          refine iteT ?_
          refine ⟨_, rfl, p, _, _, _, rfl, rfl, SqL.of (s1 _ _ hp1), rfl, ?_⟩
          refine ⟨_, rfl, .inl ⟨_, rfl, ?_⟩⟩
          refine ⟨_, rfl, p, _, _, _, rfl, rfl, SqL.of (s1 _ _ hp1), rfl, c, _, rfl, .inl (SqL.of (s1 _ _ hc1)), _, _, rfl, rfl, ?_⟩
          have lp : (0 : Int) < (((z :: r).map V.int).length : Nat) := by rw [List.length_map, List.length_cons]; omega
          have fm := fmod_pos (x := i) lp
          have fm2 : i.fmod (((z :: r).map V.int).length : Nat) < (((z :: r).length : Nat) : Int) := by have := fm.2; rw [List.length_map] at this; rw [List.length_map]; exact this
          obtain ⟨y, hy⟩ := atI_in fm.1 fm2
          exact ⟨by omega, c, _, _, _, rfl, rfl, SqL.of (s1 _ _ hc1), hy, y, rfl, s1⟩
      · rintro σ' H' ⟨raw, rfl, s1⟩
        have hp2 := s1 _ _ hp1
        have hc2 := s1 _ _ hc1
        have f2 : Fr p H H' := f1.trans (same_fr s1)
        have penE : ∀ g' : Int, 0 ≤ g' → Pen (upd H' p (.lst [.ref c, .int (i + 1), .int g'])) p (n + 1) := fun g' h' => ⟨c, ns, i + 1, g', upd_same, by rw [upd_ne cp]; exact hc2, by omega, by omega, h', hl⟩
        refine ⟨fun σ'' H'' => σ'' = [some (.ref p), some (.int m), Option.none, some (.int i), some (.int raw), Option.none, Option.none] ∧ H'' = H', ?_, ?_⟩
        rotate_left
        · rintro σ'' H'' ⟨rfl, rfl⟩
          refine ⟨_, rfl, .inl ⟨_, rfl, ?_⟩⟩
          refine ⟨_, _, rfl, rfl, (by show (_ : Int) ≠ 0; decide), _, rfl, _, _, rfl, rfl, .inl ⟨by decide, by decide⟩, _, _, rfl, rfl, _, _, rfl, rfl, ?_⟩
          have r1 := fmod_pos (x := raw) (m := 2147483549) (by decide)
          refine ⟨_, _, rfl, rfl, ⟨by decide, by decide, stir1 r1.1 (by omega) i0 (by omega) (by decide) (by decide) (by decide) (by decide)⟩, .inl ⟨_, rfl, ?_⟩⟩
          refine ⟨_, _, rfl, rfl, (by show (_ : Int) ≠ 0; decide), ?_⟩
          have r2 : ∀ x : Int, 0 ≤ x.fmod 2147483629 ∧ x.fmod 2147483629 < 2147483629 := fun x => fmod_pos (by decide)
          refine ⟨_, rfl, _, rfl, _, _, rfl, rfl, .inl ⟨by decide, by decide⟩, _, _, rfl, rfl, _, _, rfl, rfl, .inl (small64 (r2 _).1 (Int.lt_trans (r2 _).2 (by decide))), ?_⟩
          refine ⟨_, rfl, _, _, rfl, rfl, .inl ⟨by decide, by decide⟩, _, rfl, _, _, rfl, rfl, .inr ⟨by omega, by omega⟩, _, _, rfl, rfl, _, _, rfl, rfl, ?_⟩
          refine ⟨_, _, rfl, rfl, ⟨by decide, by decide, stir2 (r2 _).1 (Int.lt_trans (r2 _).2 (by decide)) i0 (by omega) (by decide) (by decide) (by decide) (by decide) (by decide) (by decide)⟩, .inl ⟨_, rfl, ?_⟩⟩
          refine ⟨_, _, rfl, rfl, (by show (_ : Int) ≠ 0; decide), ?_⟩
          refine ⟨_, rfl, _, _, rfl, rfl, wide_div (b := 10) (by decide) (by decide) (by decide) (by decide), .inl ⟨_, rfl, ?_⟩⟩
          refine ⟨_, rfl, _, _, rfl, rfl, (by omega), ?_⟩
          have fm := fun x => fmod_pos (x := x) hm
          exact k _ _ (fm _).1 (fm _).2 ⟨c, ns, i + 1, g, hp2, hc2, by omega, by omega, g0, hl⟩ f2
        refine ⟨_, rfl, _, rfl, p, _, _, _, rfl, rfl, SqL.of hp2, rfl, c, _, rfl, .inl (SqL.of hc2), _, _, rfl, rfl, _, rfl, ?_⟩
        refine ite2 (fun hlt => ?_) (fun hlt => ?_)
        · refine ⟨_, rfl, _, rfl, _, _, rfl, rfl, ⟨by decide, by decide, by decide⟩, _, _, rfl, rfl, _, rfl, ?_⟩
          refine ite2 (fun hge => ?_) (fun hge => ?_)
          · have hge := of_decide_eq_true hge
            refine ⟨_, rfl, _, rfl, _, _, rfl, rfl, ⟨by decide, by decide, by decide⟩, _, _, rfl, rfl, _, _, rfl, rfl, .inl ⟨by decide, by decide⟩, ?_⟩
            refine ⟨_, rfl, _, _, rfl, rfl, .inr ⟨_, rfl, ?_⟩⟩
            refine ⟨_, _, rfl, rfl, ?_⟩
            have gpos : (0 : Int) ≤ 2 * ((if raw < 0 then -raw else raw) - 10 ^ (18 : Int).toNat) + (if decide (raw < 0) = true then 1 else 0) := by
              have : (0 : Int) ≤ (if decide (raw < 0) = true then 1 else 0) := by split <;> omega
              omega
            refine ⟨_, rfl, .inl ⟨_, rfl, ?_⟩⟩
            refine ⟨_, rfl, _, _, rfl, rfl, wide_div hm mb (by decide) (by decide), ?_⟩
            refine ⟨_, rfl, p, _, _, _, rfl, rfl, hp2, rfl, ?_⟩
            refine ⟨_, rfl, .inl ⟨_, rfl, ?_⟩⟩
            refine ⟨_, rfl, _, _, rfl, rfl, (by omega), ?_⟩
            have fm := fun x => fmod_pos (x := x) hm
            exact k _ _ (fm _).1 (fm _).2 (penE _ (Int.ediv_nonneg gpos (by omega))) (f2.trans (fr_upd hp2))
          · exact ⟨rfl, rfl⟩
        · exact ⟨rfl, rfl⟩

--CUT
/-- a list of parts -/
def PartsAt (K : PySem.W.Frag) (H : Hp) (l : Addr) (ps : List (Int × Int)) : Prop := ∃ vs, H l = some (.lst vs) ∧ Parts H vs ps
def small (ps : List (Int × Int)) : Prop := ∀ q ∈ ps, 0 < q.2 ∧ q.2.natAbs < 2 ^ 1000 ∧ q.1.natAbs < 2 ^ 1000
def spAsked (K : PySem.W.Frag) : Sp := fun vs H Q _ => ∃ (l : Addr) (ps : List (Int × Int)), vs = [.ref l] ∧ PartsAt K H l ps ∧ ps.length ≤ 4 ∧ small ps ∧ ∀ (o : Option Int) (H' : Hp), Same H H' → NM.TogIs ps o → Q (oV o) H'
theorem ok_asked (T : Txt K mg) : FnOk P w K mg base CX0 8 T.a_asked T.fd_asked ["_law_some"] (spAsked K) := by
  refine T.F_asked.ok sc_asked (fun vs H Q E h => ?_) (fun cdv A outer s H vs Q E hr h => ?_)
  · obtain ⟨l, ps, rfl, _⟩ := h; rfl
  · obtain ⟨l, ps, rfl, ⟨vs, hl, hP⟩, h4, hs, k⟩ := h
    have go : ∀ ws : List V, ws = vs → ws.length ≤ sizeLine ∧ spTogether T.bad.C ws H Q (fun _ _ _ => False) := fun ws e => by
      subst e
      have z := hP.1
      exact ⟨Nat.le_trans (show ws.length ≤ 4 by omega) (by decide), .inl ⟨ps, hP, by omega, hs, k⟩⟩
    refine ⟨_, pss_cons (ps_if (pt_cmpR op_eq (pe_callB call_len_seq (by rfl) T.n_len (by decide +kernel) (pa_cons (pv 0) (pa_nil))) (pe_int) (nomark _)) (pss_one (ps_ret (pe_callR0 (ok_together T) (hr.mono (by decide)) T.F_together.kp rfl T.m_together passL))) (pss_nil))
      (pss_cons (ps_if (pt_cmpR op_eq (pe_callB call_len_seq (by rfl) T.n_len (by decide +kernel) (pa_cons (pv 0) (pa_nil))) (pe_int) (nomark _)) (pss_one (ps_ret (pe_callR (ok_together T) (hr.mono (by decide)) T.F_together.kp rfl T.m_together passL (pa_cons (pe_ix ix_list (pv 0) (pe_int) (fun _ _ => rfl)) (pa_nil))))) (pss_nil))
      (pss_cons (ps_if (pt_cmpR op_eq (pe_callB call_len_seq (by rfl) T.n_len (by decide +kernel) (pa_cons (pv 0) (pa_nil))) (pe_int) (nomark _)) (pss_one (ps_ret (pe_callR (ok_together T) (hr.mono (by decide)) T.F_together.kp rfl T.m_together passL (pa_cons (pe_ix ix_list (pv 0) (pe_int) (fun _ _ => rfl)) (pa_cons (pe_ix ix_list (pv 0) (pe_int) (fun _ _ => rfl)) (pa_nil)))))) (pss_nil))
      (pss_one (ps_ret (pe_ifExp (pt_cmpR op_eq (pe_callB call_len_seq (by rfl) T.n_len (by decide +kernel) (pa_cons (pv 0) (pa_nil))) (pe_int) (nomark _)) (pe_callR (ok_together T) (hr.mono (by decide)) T.F_together.kp rfl T.m_together passL (pa_cons (pe_ix ix_list (pv 0) (pe_int) (fun _ _ => rfl)) (pa_cons (pe_ix ix_list (pv 0) (pe_int) (fun _ _ => rfl)) (pa_cons (pe_ix ix_list (pv 0) (pe_int) (fun _ _ => rfl)) (pa_nil))))) (pe_callR (ok_together T) (hr.mono (by decide)) T.F_together.kp rfl T.m_together passL (pa_cons (pe_ix ix_list (pv 0) (pe_int) (fun _ _ => rfl)) (pa_cons (pe_ix ix_list (pv 0) (pe_int) (fun _ _ => rfl)) (pa_cons (pe_ix ix_list (pv 0) (pe_int) (fun _ _ => rfl)) (pa_cons (pe_ix ix_list (pv 0) (pe_int) (fun _ _ => rfl)) (pa_nil))))))))))), ?_⟩
    have hS : SqL K H l vs := SqL.of hl
    have hlen : vs.length ≤ 4 := by have := hP.1; omega
    match vs, hlen, hS, go with
    | [], _, hS, go => exact ⟨_, rfl, l, _, rfl, .inl hS, rfl, _, rfl, iteT (go _ rfl)⟩
    | [x], _, hS, go =>
      refine ⟨_, rfl, l, _, rfl, .inl hS, rfl, _, rfl, iteF ?_⟩
      refine ⟨_, rfl, l, _, rfl, .inl hS, rfl, _, rfl, iteT ?_⟩
      exact ⟨_, rfl, l, _, _, _, rfl, rfl, hS, rfl, go _ rfl⟩
    | [x, y], _, hS, go =>
      refine ⟨_, rfl, l, _, rfl, .inl hS, rfl, _, rfl, iteF ?_⟩
      refine ⟨_, rfl, l, _, rfl, .inl hS, rfl, _, rfl, iteF ?_⟩
      refine ⟨_, rfl, l, _, rfl, .inl hS, rfl, _, rfl, iteT ?_⟩
      exact ⟨_, rfl, l, _, _, _, rfl, rfl, hS, rfl, _, rfl, l, _, _, _, rfl, rfl, hS, rfl, go _ rfl⟩
    | [x, y, z], _, hS, go =>
      refine ⟨_, rfl, l, _, rfl, .inl hS, rfl, _, rfl, iteF ?_⟩
      refine ⟨_, rfl, l, _, rfl, .inl hS, rfl, _, rfl, iteF ?_⟩
      refine ⟨_, rfl, l, _, rfl, .inl hS, rfl, _, rfl, iteF ?_⟩
      refine ⟨_, rfl, l, _, rfl, .inl hS, rfl, _, rfl, iteT ?_⟩
      exact ⟨_, rfl, l, _, _, _, rfl, rfl, hS, rfl, _, rfl, l, _, _, _, rfl, rfl, hS, rfl, _, rfl, l, _, _, _, rfl, rfl, hS, rfl, go _ rfl⟩
    | [x, y, z, t], _, hS, go =>
      refine ⟨_, rfl, l, _, rfl, .inl hS, rfl, _, rfl, iteF ?_⟩
      refine ⟨_, rfl, l, _, rfl, .inl hS, rfl, _, rfl, iteF ?_⟩
      refine ⟨_, rfl, l, _, rfl, .inl hS, rfl, _, rfl, iteF ?_⟩
      refine ⟨_, rfl, l, _, rfl, .inl hS, rfl, _, rfl, iteF ?_⟩
      exact ⟨_, rfl, l, _, _, _, rfl, rfl, hS, rfl, _, rfl, l, _, _, _, rfl, rfl, hS, rfl, _, rfl, l, _, _, _, rfl, rfl, hS, rfl, _, rfl, l, _, _, _, rfl, rfl, hS, rfl, go _ rfl⟩
    | _ :: _ :: _ :: _ :: _ :: _, h, _, _ => simp at h
--CUT
/-- parts as the law draws them -/
def tiny (ps : List (Int × Int)) : Prop := ∀ q ∈ ps, 0 < q.2 ∧ q.2 ≤ 12 ∧ q.1.natAbs < 100000
theorem tiny.small {ps : List (Int × Int)} (h : tiny ps) : small ps := fun q hq => by
  obtain ⟨h1, h2, h3⟩ := h q hq
  exact ⟨h1, Nat.lt_of_le_of_lt (show q.2.natAbs ≤ 12 by omega) (by decide), Nat.lt_of_lt_of_le h3 (by decide)⟩
/-- what the trying of turns has found behind i of them -/
def Tries (f : Nat → Int) (D : Nat → Prop) (i : Nat) (ms : List Int) : Prop := ms.length ≤ i ∧ ((ms = [] ∧ ∀ t, t < i → ¬ D t) ∨ ∃ (t0 : Nat) (rest : List Int), ms = f t0 :: rest ∧ t0 < i ∧ D t0 ∧ ∀ t, t < t0 → ¬ D t)
theorem Tries.yes {f : Nat → Int} {D : Nat → Prop} {i : Nat} {ms : List Int} (h : Tries f D i ms) (d : D i) : Tries f D (i + 1) (ms ++ [f i]) := by
  obtain ⟨hl, h⟩ := h
  refine ⟨by rw [List.length_append, List.length_singleton]; omega, .inr ?_⟩
  rcases h with ⟨rfl, hn⟩ | ⟨t0, rest, rfl, h1, h2, h3⟩
  · exact ⟨i, [], rfl, by omega, d, hn⟩
  · exact ⟨t0, rest ++ [f i], rfl, by omega, h2, h3⟩
theorem Tries.no {f : Nat → Int} {D : Nat → Prop} {i : Nat} {ms : List Int} (h : Tries f D i ms) (d : ¬ D i) : Tries f D (i + 1) ms := by
  obtain ⟨hl, h⟩ := h
  refine ⟨by omega, ?_⟩
  rcases h with ⟨rfl, hn⟩ | ⟨t0, rest, rfl, h1, h2, h3⟩
  · exact .inl ⟨rfl, fun t ht => by
      rcases Nat.lt_succ_iff_lt_or_eq.mp ht with q | q
      · exact hn t q
      · rw [q]; exact d⟩
  · exact .inr ⟨t0, rest, rfl, by omega, h2, h3⟩
def spDue (K : PySem.W.Frag) : Sp := fun vs H Q _ => ∃ (l : Addr) (ps : List (Int × Int)), vs = [.ref l] ∧ PartsAt K H l ps ∧ ps.length ≤ 4 ∧ tiny ps ∧ ∀ (o : Option Int) (H' : Hp), Same H H' → NM.TogIs ps o → Q (oV o) H'
theorem step_le {st d : Int} {m i : Nat} (h : st ≤ 12 ^ i) (h0 : 0 < st) (hm : (m : Int) ≤ d) (hd : d ≤ 12) : st * (m : Int) ≤ 12 ^ (i + 1) := by
  rw [Int.pow_succ]
  have h1 : st * (m : Int) ≤ st * 12 := Int.mul_le_mul_of_nonneg_left (by omega) (by omega)
  have h2 : st * 12 ≤ 12 ^ i * 12 := Int.mul_le_mul_of_nonneg_right h (by decide)
  omega
theorem ok_due (T : Txt K mg) : FnOk P w K mg base CX0 4 T.a_due T.fd_due ["_law_some"] (spDue K) := by
  refine T.F_due.ok sc_due (fun vs H Q E h => ?_) (fun cdv A outer s H vs Q E hr h => ?_)
  · obtain ⟨l, ps, rfl, _⟩ := h; rfl
  · obtain ⟨l, ps, rfl, ⟨vs, hl, hP⟩, h4, hs, k⟩ := h
    refine ⟨_, pss_cons (ps_asg (pe_tup (pa_cons (pe_int) (pa_cons (pe_int) (pa_nil)))) (pg_tup rfl (pgs_cons (pg_name (i := 1) sc_due.nd rfl (Or.inr rfl)) (pgs_cons (pg_name (i := 2) sc_due.nd rfl (Or.inr rfl)) (pgs_nil)))))
      (pss_cons (ps_for PassesOwn.never rfl (pi_list (pv 0)) (pg_tup rfl (pgs_cons (pg_name (i := 3) sc_due.nd rfl (Or.inr rfl)) (pgs_cons (pg_name (i := 4) sc_due.nd rfl (Or.inr rfl)) (pgs_nil)))) (pss_cons (ps_setLc (i := 5) (own := [("_law_turn", 6)]) (g := gName 6) rfl sc_due.nd rfl rfl (sw_true rfl rfl rfl (by decide +kernel)) (pi_range1 (by rfl) T.n_range (pa_cons (pv 4) (pa_nil))) (blkOk_by (own := [("_law_turn", 6)]) (N := ["_law_some", "_law_found", "_law_step", "_law_remainder", "_law_divisor", "_law_later", "_law_turn", "_law_more"]) (sc := defScope s_due) (by decide +kernel)) (fun _ _ _ _ _ => pg_name (i := 6) sc_due.nd rfl (Or.inl rfl)) (fun _ _ _ _ _ => pts_one (pt_cmpR op_eq (pe_op op_modN (pe_callTy call_int1 (by rfl) T.n_int (by decide +kernel) (pa_cons (pe_op op_sub (pe_op op_add (pv 1) (pe_op op_mul (pv 2) (pv 6))) (pv 3)) (pa_nil))) (pv 4)) (pe_int) (nomark _))) (fun _ _ _ _ _ => pe_op op_add (pv 1) (pe_op op_mul (pv 2) (pv 6))))
      (pss_cons (ps_if (pt_cmpR (op_eqD hr.units) (pv 5) (pe_lst (pa_nil)) (nomark _)) (pss_one (ps_ret (pe_non))) (pss_nil))
      (pss_cons (ps_set (i := 7) sc_due.nd rfl (Or.inl rfl) (pv 2))
      (pss_cons (ps_while PassesOwn.never (pt_cmpR op_ne (pe_op op_modN (pe_callTy call_int1 (by rfl) T.n_int (by decide +kernel) (pa_cons (pv 7) (pa_nil))) (pv 4)) (pe_int) (nomark _)) (pss_one (ps_set (i := 7) sc_due.nd rfl (Or.inl rfl) (pe_op op_add (pv 7) (pv 2)))))
      (pss_one (ps_asg (pe_tup (pa_cons (pe_ix ix_list (pv 5) (pe_int) (fun _ _ => rfl)) (pa_cons (pv 7) (pa_nil)))) (pg_tup rfl (pgs_cons (pg_name (i := 1) sc_due.nd rfl (Or.inr rfl)) (pgs_cons (pg_name (i := 2) sc_due.nd rfl (Or.inr rfl)) (pgs_nil)))))))))))
      (pss_one (ps_ret (pv 1)))), ?_⟩
    refine ⟨(by show 2 ≤ sizeLine; decide), fun tp htp => ⟨_, _, rfl, SqT.of upd_same, rfl, _, _, rfl, _, _, rfl, rfl, ?_⟩⟩
    have s1 : Same H (upd H tp (.tup [V.int 0, V.int 1])) := same_new htp
    generalize upd H tp (.tup [V.int 0, V.int 1]) = H1 at s1 ⊢
    refine ⟨_, rfl, l, rfl, ⟨_, SqL.of (s1 _ _ hl)⟩, for_list (K := K) (a := l) (xs := vs) (fun i σ H2 => Same H H2 ∧ ∃ (f st : Int) (x3 x4 x5 x6 x7 : Option V), σ = [some (.ref l), some (.int f), some (.int st), x3, x4, x5, x6, x7] ∧ NM.Tog (ps.take i) f st ∧ st ≤ 12 ^ i)
      ⟨s1, 0, 1, _, _, _, _, _, rfl, NM.Tog.start, by decide⟩ (fun _ _ _ _ h => SqL.of (h.1 _ _ hl)) ?_ ?_⟩
    · rintro i y σ H2 hi ⟨s2, f, st, x3, x4, x5, x6, x7, rfl, Tg, hst⟩
      obtain ⟨a, ⟨r, d⟩, rfl, hq, ha⟩ := hP.2 i y hi
      have hqd := hs _ (List.mem_of_getElem? hq)
      have hd : 0 < d := hqd.1
      have hd12 : d ≤ 12 := hqd.2.1
      have hr5 : r.natAbs < 100000 := hqd.2.2
      have hi4 : i < 4 := by have := (List.getElem?_eq_some_iff.mp hq).1; omega
      have sp := Tg.pos
      have fl := Tg.lo
      have fh := Tg.hi
      have stb : st ≤ 12 ^ 4 := Int.le_trans hst (by
        have : i = 0 ∨ i = 1 ∨ i = 2 ∨ i = 3 := by omega
        rcases this with e | e | e | e <;> rw [e] <;> decide)
      have stb2 : st ≤ 20736 := stb
      refine ⟨a, _, rfl, SqT.of (s2 _ _ ha), rfl, _, _, rfl, _, _, rfl, rfl, ?_⟩
      have etk : ps.take (i + 1) = ps.take i ++ [(r, d)] := NM.take_snoc hq
      -- the turns that leave r
      refine ⟨_, rfl, d, rfl, by omega, by omega, fun L hL => lc_range (lo := 0) (n := d.toNat) (fun t H3 => ∃ ms : List Int, H3 = upd H2 L (.lst (ms.map V.int)) ∧ Tries (fun t => f + st * (t : Int)) (fun t => d ∣ f + st * (t : Int) - r) t ms) ⟨[], rfl, Nat.le_refl _, .inl ⟨rfl, fun t ht => by omega⟩⟩ ?_ ?_⟩
      · rintro t H3 ht ⟨ms, rfl, hT⟩
        refine ⟨rfl, ?_⟩
        refine ⟨_, rfl, _, rfl, _, rfl, _, _, rfl, rfl, .inl ⟨by omega, by omega⟩, _, _, rfl, rfl, _, rfl, _, _, rfl, rfl, .inl ⟨_, rfl, ?_⟩⟩
        refine ⟨_, rfl, _, _, rfl, rfl, (by show d ≠ 0; omega), rfl, _, rfl, ?_⟩
        have e0 : (0 : Int) + (t : Int) = (t : Int) := Int.zero_add _
        have em : (f + st * (0 + (t : Int)) - r).fmod d = (f + st * (t : Int) - r) % d := by rw [e0]; exact Int.fmod_eq_emod_of_nonneg _ (by omega)
        refine ite2 (fun h0 => ?_) (fun h0 => ?_)
        · have hdv : d ∣ f + st * (t : Int) - r := by
            have h1 := of_decide_eq_true h0
            injection h1 with h1
            rw [em] at h1
            exact Int.dvd_of_emod_eq_zero h1
          refine ⟨_, rfl, _, rfl, _, rfl, _, _, rfl, rfl, .inl ⟨by omega, by omega⟩, _, _, rfl, rfl, ms.map V.int, upd_same, ?_, ms ++ [f + st * (t : Int)], ?_, hT.yes hdv⟩
          · rw [List.length_map]
            exact Nat.lt_of_le_of_lt (show ms.length ≤ 12 by have := hT.1; omega) (by decide)
          · rw [upd_upd, List.map_append, e0]
            rfl
        · refine ⟨ms, rfl, hT.no fun hdv => h0 (decide_eq_true ?_)⟩
          show V.int ((f + st * (0 + (t : Int)) - r).fmod d) = V.int 0
          rw [em, Int.emod_eq_zero_of_dvd hdv]
      · rintro H3 ⟨ms, rfl, hT⟩
        have s3 : Same H2 (upd H2 L (.lst (ms.map V.int))) := same_new hL
        have s3H := s2.trans s3
        have hL3 : (upd H2 L (.lst (ms.map V.int))) L = some (.lst (ms.map V.int)) := upd_same
        generalize upd H2 L (.lst (ms.map V.int)) = H3 at s3 s3H hL3 ⊢
        refine ⟨_, rfl, Nat.zero_le _, fun l0 hl0 => ?_⟩
        have s4 := same_new (o := .lst []) hl0
        refine ⟨.list (ms.map PyData.int), .list [], .lst (SqL.of (s4 _ _ hL3)) (dp_ints ms), .lst (SqL.of upd_same) .nil, PySem.W.ke_shaped_ints ms, by decide +kernel, _, rfl, ?_⟩
        have s4H := s3H.trans s4
        have hL4 := s4 _ _ hL3
        generalize upd H3 l0 (.lst []) = H4 at s4 s4H hL4 ⊢
        rcases hT with ⟨hml, ⟨rfl, hno⟩ | ⟨t0, rest, rfl, ht0, hdv, hmin⟩⟩
        · refine iteT ?_
          have hn : NM.TogIs ps Option.none := by
            have h1 : NM.TogIs (ps.take i ++ [(r, d)]) Option.none := fun y => Tg.dueNone hd (fun t ht => hno t (by omega)) y
            rw [← etk] at h1
            have h2 := NM.togIs_none_mono (qs := ps.drop (i + 1)) h1
            rwa [List.take_append_drop] at h2
          exact k Option.none H4 s4H hn
        · refine iteF ?_
          refine ⟨_, rfl, while_by (fun σ H5 => H5 = H4 ∧ ∃ m : Nat, σ = [some (.ref l), some (.int f), some (.int st), some (.int r), some (.int d), some (.ref L), x6, some (.int (st * (m : Int)))] ∧ 1 ≤ m ∧ (m : Int) ≤ d ∧ ∀ j : Nat, 1 ≤ j → j < m → ¬ d ∣ st * (j : Int))
            (fun σ _ => match σ with | [_, _, _, _, _, _, _, some (.int mo)] => (st * d - mo).toNat | _ => 0) ⟨rfl, 1, by rw [show st * ((1 : Nat) : Int) = st by omega]; rfl, Nat.le_refl _, by omega, fun j h1 h2 => by omega⟩ ?_ ?_⟩
          · rintro σ H5 ⟨rfl, m, rfl, m1, md, mn⟩
            refine ⟨_, rfl, .inl ⟨_, rfl, ?_⟩⟩
            refine ⟨_, rfl, _, _, rfl, rfl, (by show d ≠ 0; omega), rfl, _, rfl, ?_⟩
            have em : (st * (m : Int)).fmod d = (st * (m : Int)) % d := Int.fmod_eq_emod_of_nonneg _ (by omega)
            by_cases hz : d ∣ st * (m : Int)
            · refine if_false_of (by show (!decide (V.int ((st * (m : Int)).fmod d) = V.int 0)) = false; rw [em, Int.emod_eq_zero_of_dvd hz]; rfl) ?_
              have hL5 : H5 L = some (.lst (V.int (f + st * (t0 : Int)) :: rest.map V.int)) := hL4
              refine ⟨_, rfl, L, _, _, _, rfl, rfl, SqL.of hL5, atI_nat (j := 0) rfl, _, rfl, (by show 2 ≤ sizeLine; decide), fun t2 ht2 => ⟨_, _, rfl, SqT.of upd_same, rfl, _, _, rfl, _, _, rfl, rfl, ?_⟩⟩
              refine ⟨s4H.trans (same_new ht2), f + st * (t0 : Int), st * (m : Int), _, _, _, _, _, rfl, ?_, step_le hst sp md hd12⟩
              rw [etk]
              exact Tg.due hdv hmin m1 hz mn
            · refine if_true_of (by
                show (!decide (V.int ((st * (m : Int)).fmod d) = V.int 0)) = true
                rw [decide_eq_false (fun z => by injection z with z; rw [em] at z; exact hz (Int.dvd_of_emod_eq_zero z))]; rfl) ?_
              have mlt : (m : Int) < d := by
                rcases Int.lt_or_eq_of_le md with q | q
                · exact q
                · exact absurd (by rw [q]; exact Int.dvd_mul_left st d) hz
              have e2 : st * (m : Int) + st = st * ((m + 1 : Nat) : Int) := by rw [Int.natCast_succ, Int.mul_add, Int.mul_one]
              refine ⟨_, rfl, _, rfl, _, _, rfl, rfl, ⟨rfl, m + 1, ?_, by omega, by omega, fun j h1 h2 => ?_⟩, ?_⟩
              · rw [← e2]; rfl
              · rcases Nat.lt_succ_iff_lt_or_eq.mp h2 with q | q
                · exact mn j h1 q
                · rw [q]; exact hz
              · show (st * d - (st * (m : Int) + st)).toNat < (st * d - st * (m : Int)).toNat
                have : st * ((m : Int) + 1) ≤ st * d := Int.mul_le_mul_of_nonneg_left (by omega) (by omega)
                rw [Int.mul_add, Int.mul_one] at this
                omega
          · intro σ H5 Q1 Q2 hq h
            obtain ⟨v, e1, h⟩ := h
            rcases h with ⟨i1, e2, w1, e3, i2, i3, e4, e5, n1, e6, c, e7, h⟩ | ⟨i1, e2, w1, e3, i2, i3, e4, e5, n1, e6, c, e7, h⟩
            · exact ⟨v, e1, .inl ⟨i1, e2, w1, e3, i2, i3, e4, e5, n1, e6, c, e7, hq _ _ h⟩⟩
            · exact ⟨v, e1, .inr ⟨i1, e2, w1, e3, i2, i3, e4, e5, n1, e6, c, e7, hq _ _ h⟩⟩
    · rintro σ H2 ⟨s2, f, st, x3, x4, x5, x6, x7, rfl, Tg, hst⟩
      rw [hP.1, List.take_length] at Tg
      exact ⟨_, rfl, k (some f) H2 s2 Tg.is⟩

--CUT
/-- the parts that a turn draws -/
def spPairs (K : PySem.W.Frag) : Sp := fun vs H Q _ => ∃ (p : Addr) (n : Nat), vs = [.ref p] ∧ Pen H p n ∧ n < 90000 ∧ ∀ (l : Addr) (ps : List (Int × Int)) (H' : Hp), PartsAt K H' l ps → ps.length ≤ 4 → tiny ps → Pen H' p (n + 20) → Fr p H H' → Q (.ref l) H'
theorem Fr.parts {p : Addr} {H H' : Hp} {vs : List V} {ps : List (Int × Int)} {xs : List V} (f : Fr p H H') (hp : H p = some (.lst xs)) (h : Parts H vs ps) : Parts H' vs ps := ⟨h.1, fun i y e => by
  obtain ⟨a, q, e1, e2, e3⟩ := h.2 i y e
  refine ⟨a, q, e1, e2, f a _ (fun z => ?_) e3⟩
  rw [z, hp] at e3
  cases e3⟩
theorem Parts.snoc {H : Hp} {vs : List V} {ps : List (Int × Int)} {a : Addr} {r d : Int} (t : Parts H vs ps) (h : H a = some (.tup [.int r, .int d])) : Parts H (vs ++ [.ref a]) (ps ++ [(r, d)]) :=
  ⟨by rw [List.length_append, List.length_append, t.1]; rfl, fun i y e => by
    rcases Nat.lt_trichotomy i vs.length with q | q | q
    · rw [List.getElem?_append_left q] at e
      obtain ⟨a', q', e1, e2, e3⟩ := t.2 i y e
      exact ⟨a', q', e1, by rw [List.getElem?_append_left (by rw [← t.1]; exact q)]; exact e2, e3⟩
    · subst q
      rw [List.getElem?_append_right (Nat.le_refl _), Nat.sub_self] at e
      refine ⟨a, (r, d), (Option.some.inj e).symm, ?_, h⟩
      rw [List.getElem?_append_right (by rw [t.1]; exact Nat.le_refl _), ← t.1, Nat.sub_self]
      rfl
    · rw [List.getElem?_eq_none (by rw [List.length_append, List.length_singleton]; omega)] at e
      cases e⟩
theorem tiny.snoc {ps : List (Int × Int)} {r d : Int} (h : tiny ps) (h1 : 0 < d) (h2 : d ≤ 12) (h3 : r.natAbs < 100000) : tiny (ps ++ [(r, d)]) := fun q hq => by
  rcases List.mem_append.mp hq with z | z
  · exact h q z
  · rw [List.mem_singleton.mp z]; exact ⟨h1, h2, h3⟩
theorem ok_pairs (T : Txt K mg) : FnOk P w K mg base CX0 2 T.a_pairs T.fd_pairs ["_law_pen_here"] (spPairs K) := by
  refine T.F_pairs.ok sc_pairs (fun vs H Q E h => ?_) (fun cdv A outer s H vs Q E hr h => ?_)
  · obtain ⟨p, n, rfl, _⟩ := h; rfl
  · obtain ⟨p, n, rfl, hP, hn, k⟩ := h
    refine ⟨_, pss_cons (ps_par (i := 1) (j := 2) (by rfl) sc_pairs.nd rfl rfl (by decide) rfl rfl (pa_cons (pe_call (ok_draw T) (hr.mono (by decide)) rfl T.m_draw T.F_draw.kp (b_draw T) .nil pass0 (pa_cons (pv 0) (pa_cons (pe_int) (pa_nil)))) (pa_cons (pe_cmpR op_eq (pe_call (ok_draw T) (hr.mono (by decide)) rfl T.m_draw T.F_draw.kp (b_draw T) .nil pass0 (pa_cons (pv 0) (pa_cons (pe_int) (pa_nil)))) (pe_int) (nomark _)) (pa_nil))) (by rfl))
      (pss_cons (ps_set (i := 3) sc_pairs.nd rfl (Or.inl rfl) (pe_lst (pa_nil)))
      (pss_cons (ps_for PassesOwn.never rfl (pi_range1 (by rfl) T.n_range (pa_cons (pe_call (ok_draw T) (hr.mono (by decide)) rfl T.m_draw T.F_draw.kp (b_draw T) .nil pass0 (pa_cons (pv 0) (pa_cons (pe_int) (pa_nil)))) (pa_nil))) (pg_name (i := 4) sc_pairs.nd rfl (Or.inl rfl)) (pss_cons (ps_set (i := 5) sc_pairs.nd rfl (Or.inl rfl) (pe_op op_add (pe_int) (pe_call (ok_draw T) (hr.mono (by decide)) rfl T.m_draw T.F_draw.kp (b_draw T) .nil pass0 (pa_cons (pv 0) (pa_cons (pe_int) (pa_nil))))))
      (pss_cons (ps_set (i := 6) sc_pairs.nd rfl (Or.inl rfl) (pe_ifExp (pt_val (pv 2)) (pe_op op_add (pv 1) (pe_op op_mul (pv 5) (pe_op op_sub (pe_call (ok_draw T) (hr.mono (by decide)) rfl T.m_draw T.F_draw.kp (b_draw T) .nil pass0 (pa_cons (pv 0) (pa_cons (pe_int) (pa_nil)))) (pe_int)))) (pe_op op_sub (pe_call (ok_draw T) (hr.mono (by decide)) rfl T.m_draw T.F_draw.kp (b_draw T) .nil pass0 (pa_cons (pv 0) (pa_cons (pe_int) (pa_nil)))) (pe_int))))
      (pss_one (ps_expr (pe_bm PySem.F.plainAttrs_list PySem.F.slot_list_append PySem.F.type_list_append mt_append (pv 3) (pa_cons (pe_tup (pa_cons (pv 6) (pa_cons (pv 5) (pa_nil)))) (pa_nil))))))))
      (pss_one (ps_ret (pv 3))))), ?_⟩
    refine ⟨_, rfl, p, 9999, n, rfl, by decide, by decide, hP, by omega, fun wh H1 w0 w1 hP1 f1 => ?_⟩
    refine ⟨_, rfl, p, 2, n + 1, rfl, by decide, by decide, hP1, by omega, fun io H2 i0 i1 hP2 f2 => ?_⟩
    refine ⟨rfl, ?_⟩
    generalize hb : decide (V.int io = V.int 0) = b
    refine ⟨_, _, rfl, Nat.zero_le _, fun L hL => ?_⟩
    have nLp : L ≠ p := hP2.neq hL
    have f3 : Fr p H2 (upd H2 L (.lst [])) := same_fr (same_new hL)
    have hP3 := hP2.same (same_new (o := .lst []) hL)
    obtain ⟨c0, ns0, _, _, hp0, hc0, _⟩ := id hP2
    have ncL : c0 ≠ L := ne_of_none hc0 hL
    have hL3 : (upd H2 L (.lst [])) L = some (.lst []) := upd_same
    generalize upd H2 L (.lst []) = H3 at f3 hP3 hL3 ⊢
    refine ⟨_, rfl, p, 5, n + 2, rfl, by decide, by decide, hP3, by omega, fun t H4 t0 t1 hP4 f4 => ?_⟩
    refine ⟨t, rfl, by omega, by omega, for_range (n := t.toNat) (fun i σ H' => ∃ (vs : List V) (ps : List (Int × Int)) (x4 x5 x6 : Option V), σ = [some (.ref p), some (.int wh), some (.bl b), some (.ref L), x4, x5, x6] ∧ H' L = some (.lst vs) ∧ Parts H' vs ps ∧ ps.length = i ∧ tiny ps ∧ Pen H' p (n + 3 + 2 * i) ∧ Fr p H2 H')
      ⟨[], [], _, _, _, rfl, f4 _ _ nLp hL3, .nil, rfl, fun q hq => (List.not_mem_nil hq).elim, hP4, f3.trans f4⟩ ?_ ?_⟩
    · rintro i σ H5 hi ⟨vs, ps, x4, x5, x6, rfl, hL5, hPs, hl, ht, hP5, f5⟩
      refine ⟨_, rfl, p, 12, _, rfl, by decide, by decide, hP5, by omega, fun d H6 d0 d1 hP6 f6 => ?_⟩
      refine ⟨_, _, rfl, rfl, ?_⟩
      cases b with
      | true =>
        refine ⟨_, rfl, true, rfl, iteT ?_⟩
        refine ⟨_, rfl, _, rfl, _, rfl, p, 9, _, rfl, by decide, by decide, hP6, by omega, fun r H7 r0 r1 hP7 f7 => ?_⟩
        have hb1 : (1 + d) * (r - 5) ≤ 12 * 5 ∧ -(12 * 5) ≤ (1 + d) * (r - 5) := by
          have h1 : r = 0 ∨ r = 1 ∨ r = 2 ∨ r = 3 ∨ r = 4 ∨ r = 5 ∨ r = 6 ∨ r = 7 ∨ r = 8 := by omega
          rcases h1 with e | e | e | e | e | e | e | e | e <;> rw [e] <;> omega
        refine ⟨_, _, rfl, rfl, _, _, rfl, rfl, .inl ⟨by omega, by omega⟩, _, _, rfl, rfl, ?_⟩
        have hL7 := (f6.trans f7) _ _ nLp hL5
        obtain ⟨pxs, hpx⟩ := hP5.at
        have hPs7 : Parts H7 vs ps := (f6.trans f7).parts hpx hPs
        refine ⟨_, rfl, .inl ⟨rfl, _, SqL.of hL7⟩, _, rfl, _, rfl, (by show 2 ≤ sizeLine; decide), fun tp htp => ?_⟩
        have s8 := same_new (o := .tup [V.int (wh + (1 + d) * (r - 5)), V.int (1 + d)]) htp
        have hL8 := s8 _ _ hL7
        have hPs8 := (hPs7.same s8).snoc (a := tp) (r := (wh + (1 + d) * (r - 5))) (d := 1 + d) upd_same
        have hP8 := hP7.same s8
        have f8 := (f5.trans (f6.trans f7)).trans (same_fr (p := p) s8)
        generalize upd H7 tp (.tup [V.int (wh + (1 + d) * (r - 5)), V.int (1 + d)]) = H8 at s8 hL8 hPs8 hP8 f8 ⊢
        refine ⟨L, _, _, rfl, rfl, hL8, ?_, vs ++ [V.ref tp], ps ++ [((wh + (1 + d) * (r - 5)), 1 + d)], _, _, _, rfl, upd_same, ?_, ?_, ht.snoc (by omega) (by omega) (by omega), ?_, ?_⟩
        · exact Nat.lt_of_le_of_lt (show vs.length ≤ 4 by have := hPs.1; omega) (by decide)
        · refine ⟨hPs8.1, fun j y e => ?_⟩
          obtain ⟨a, q, e1, e2, e3⟩ := hPs8.2 j y e
          refine ⟨a, q, e1, e2, ?_⟩
          rw [upd_ne (fun z => by rw [z, hL8] at e3; cases e3)]
          exact e3
        · rw [List.length_append, List.length_singleton, hl]
        · refine Pen.mono (n := n + 3 + 2 * i + 1 + 1) ?_ (by omega)
          obtain ⟨c, ns, i0, g, q1, q2, q3⟩ := hP8
          obtain ⟨ys, q4⟩ := f8.head _ _ hp0
          rw [q1] at q4
          cases q4
          exact ⟨c0, ns, i0, g, by rw [upd_ne nLp.symm]; exact q1, by rw [upd_ne ncL]; exact q2, q3⟩
        · refine ⟨fun a o na e => ?_, fun v xs e => ?_⟩
          · rw [upd_ne (ne_of_none e hL)]
            exact f8 a o na e
          · rw [upd_ne nLp.symm]
            exact f8.head v xs e
      | false =>
        refine ⟨_, rfl, false, rfl, iteF ?_⟩
        refine ⟨_, rfl, p, 40, _, rfl, by decide, by decide, hP6, by omega, fun r H7 r0 r1 hP7 f7 => ?_⟩
        refine ⟨_, _, rfl, rfl, ?_⟩
        have hL7 := (f6.trans f7) _ _ nLp hL5
        obtain ⟨pxs, hpx⟩ := hP5.at
        have hPs7 : Parts H7 vs ps := (f6.trans f7).parts hpx hPs
        refine ⟨_, rfl, .inl ⟨rfl, _, SqL.of hL7⟩, _, rfl, _, rfl, (by show 2 ≤ sizeLine; decide), fun tp htp => ?_⟩
        have s8 := same_new (o := .tup [V.int (r - 20), V.int (1 + d)]) htp
        have hL8 := s8 _ _ hL7
        have hPs8 := (hPs7.same s8).snoc (a := tp) (r := (r - 20)) (d := 1 + d) upd_same
        have hP8 := hP7.same s8
        have f8 := (f5.trans (f6.trans f7)).trans (same_fr (p := p) s8)
        generalize upd H7 tp (.tup [V.int (r - 20), V.int (1 + d)]) = H8 at s8 hL8 hPs8 hP8 f8 ⊢
        refine ⟨L, _, _, rfl, rfl, hL8, ?_, vs ++ [V.ref tp], ps ++ [((r - 20), 1 + d)], _, _, _, rfl, upd_same, ?_, ?_, ht.snoc (by omega) (by omega) (by omega), ?_, ?_⟩
        · exact Nat.lt_of_le_of_lt (show vs.length ≤ 4 by have := hPs.1; omega) (by decide)
        · refine ⟨hPs8.1, fun j y e => ?_⟩
          obtain ⟨a, q, e1, e2, e3⟩ := hPs8.2 j y e
          refine ⟨a, q, e1, e2, ?_⟩
          rw [upd_ne (fun z => by rw [z, hL8] at e3; cases e3)]
          exact e3
        · rw [List.length_append, List.length_singleton, hl]
        · refine Pen.mono (n := n + 3 + 2 * i + 1 + 1) ?_ (by omega)
          obtain ⟨c, ns, i0, g, q1, q2, q3⟩ := hP8
          obtain ⟨ys, q4⟩ := f8.head _ _ hp0
          rw [q1] at q4
          cases q4
          exact ⟨c0, ns, i0, g, by rw [upd_ne nLp.symm]; exact q1, by rw [upd_ne ncL]; exact q2, q3⟩
        · refine ⟨fun a o na e => ?_, fun v xs e => ?_⟩
          · rw [upd_ne (ne_of_none e hL)]
            exact f8 a o na e
          · rw [upd_ne nLp.symm]
            exact f8.head v xs e
    · rintro σ H5 ⟨vs, ps, x4, x5, x6, rfl, hL5, hPs, hl, ht, hP5, f5⟩
      exact ⟨_, rfl, k L ps H5 ⟨vs, hL5, hPs⟩ (by omega) ht (hP5.mono (by omega)) ((f1.trans f2).trans f5)⟩

--CUT
/-! ### what is heard of a call: its value in a list, or the value that a BadNumber tells -/
/-- what the written part says of the classes that are asked for -/
structure Caught (K : PySem.W.Frag) (mg : Str → Option Value) (C : Addr) where
  R : Addr
  m_R : mg "ReachError" = some (.ref R)
  ex : PySem.W.exmOne K (.ref C) (.ref R) = some true
  err : ErrC K C
  k1 : PySem.W.kitOne K (.ref C) (.ref C) = some true
  k2 : PySem.W.kitOne K (.ref C) (.type "ValueError") = some true
theorem takes_len {X : Cx} {W : WX} (t : Takes X W) : Takes X (fun cls d σ H => σ.length = X.N.length → W cls d σ H) := fun u s' ⟨a, B, sI, pins, σ, H, cls, d, e, I, nb, up, sky, na, os, ag, w⟩ =>
  t u s' ⟨a, B, sI, pins, σ, H, cls, d, e, I, nb, up, sky, na, os, ag, w I.len⟩
/-- the reading: the call returns v, or raises a BadNumber that tells v -/
def TTheard (K : PySem.W.Frag) (C : Addr) : (XK → Hp → VK → Prop) → Hp → VK → Prop := fun tl H Q =>
  tl (fun cls d H' => ∃ (dx : Addr) (v : V) (dd : PyData), cls = .ref C ∧ d = some dx ∧ H' dx = some (.xd [("value", v)]) ∧ (∀ H2, Same H' H2 → Dq K H2 v dd) ∧ dd.showable = true ∧ dd.depth ≤ 60 ∧ dd.shown.length ≤ sizeLine ∧ ∀ H2, Same H' H2 → Q (.str dd.shown) H2)
    H (fun v H1 => 1 ≤ sizeLine ∧ ∀ L, H1 L = Option.none → Q (.ref L) (upd H1 L (.lst [v])))
theorem heard_gives {X : Cx} (T : Txt X.K X.mg) (B : Caught X.K X.mg T.bad.C) (gu : X.A.guards = some []) {k : Nat} (hr : Room (k + 1) X.A) {g : Addr} {cdg : Value} {q : Str} :
    LamX.GivesTo X ["_law_ask", "_law_raised", "error"] "_law_heard" (defScope s_heard) g cdg (defBody s_heard) "_law_ask" q (TTheard X.K T.bad.C) := by
  intro f c' s H Q tl act hc h
  have hr1 : Room k (cxOf CX0 X.prog X.w X.K X.mg X.base ["_law_ask", "_law_raised", "error"] "_law_heard" (defScope s_heard) g cdg X.A X.stack s H E0).nox.A := hr.deeper _
  have gu1 : (cxOf CX0 X.prog X.w X.K X.mg X.base ["_law_ask", "_law_raised", "error"] "_law_heard" (defScope s_heard) g cdg X.A X.stack s H E0).nox.A.guards = some [] := gu
  refine ⟨_, pss_cons (ps_set (i := 1) sc_heard.nd rfl (Or.inl rfl) pe_non) (pss_cons (ps_try_keep (i := 2) (c := .ref B.R)
      (tb := fun W D σ H => ∃ Ech : XK, (∀ cls d σ' H', Ech cls d H' → σ'.length = 3 → W cls d σ' H') ∧ σ[0]? = some (some (.ref f)) ∧ H c' = some (LamX.CodeO c' q) ∧ tl Ech H (fun v H1 => 1 ≤ sizeLine ∧ ∀ L, H1 L = Option.none → D.rt (.ref L) (upd H1 L (.lst [v]))))
      rfl rfl rfl sc_heard.nd rfl rfl ⟨rfl, by decide, .inl B.m_R⟩ (fun W pn xe tk _ => ?_) (fun a oe cls d pn _ _ => pss_one (ps_set (i := 1) sc_heard.nd rfl (Or.inl rfl) (pv 2)))) (pss_one (ps_ret (pe_ifExp
        (PW.pt (pw_and (pt_val (pe_callB call_isK (by rfl) T.n_isinstance (by decide +kernel) (pa_cons (pv 1) (pa_cons (pe_glob (v := .ref T.bad.C) rfl T.bad.m rfl) pa_nil))))
          (pw_and1 (pt_val (pe_callB call_isK (by rfl) T.n_isinstance (by decide +kernel) (pa_cons (pv 1) (pa_cons (pe_bltn (v := .ty "ValueError") (u := .type "ValueError") (by rfl) T.n_ValueError (by decide +kernel) rfl) pa_nil)))))))
        (pe_callB (call_rep gu1 hr1.units) (by rfl) T.n_repr (by decide +kernel) (pa_cons (pe_fldK (pv 1)) pa_nil)) pe_non)))), ?_⟩
  · refine ⟨fun pins s' σ H' D I h' => ?_⟩
    obtain ⟨Ech, hW, h1, h2, h3⟩ := h'
    refine PSs.run (pss_one (ps_ret (pe_lst (pa_cons (act _ pn xe Ech _ _ (takes_len tk) hW) pa_nil)))) pins s' σ H' D I ?_
    exact ⟨h1, h2, h3⟩
  · refine ⟨fun cls d H' => ∃ (dx : Addr) (v : V) (dd : PyData), cls = .ref T.bad.C ∧ d = some dx ∧ H' dx = some (.xd [("value", v)]) ∧ (∀ H2, Same H' H2 → Dq X.K H2 v dd) ∧ dd.showable = true ∧ dd.depth ≤ 60 ∧ dd.shown.length ≤ sizeLine ∧ ∀ H2, Same H' H2 → Q (.str dd.shown) H2, ?_, rfl, hc, ?_⟩
    · rintro cls d σ' H' ⟨dx, v, dd, rfl, rfl, hdx, hD, d1, d2, d3, k⟩ hl
      match σ', hl with
      | [x, y, z], _ =>
        refine ⟨B.ex, fun a na => ⟨_, rfl, fun na2 => ?_⟩⟩
        have sa : Same H' (upd H' a (XO a (.ref T.bad.C) (some dx))) := same_new na2
        have ea : (upd H' a (XO a (.ref T.bad.C) (some dx))) a = some (XO a (.ref T.bad.C) (some dx)) := upd_same
        have ed := sa _ _ hdx
        have hD2 := hD _ sa
        have k2 := k _ sa
        generalize upd H' a (XO a (.ref T.bad.C) (some dx)) = H2 at sa ea ed hD2 k2 ⊢
        refine ⟨_, rfl, ?_⟩
        refine ⟨a, T.bad.C, dx, _, _, _, true, rfl, ea, ed, B.err, fun u hu => hu, B.k1, true, rfl, iteT ?_⟩
        refine ⟨_, rfl, a, T.bad.C, dx, _, _, _, true, rfl, ea, ed, B.err, fun u hu => hu, B.k2, true, rfl, iteT ?_⟩
        exact ⟨_, rfl, a, T.bad.C, dx, _, v, rfl, ea, ed, B.err, T.bad.no, rfl, v, dd, rfl, hD2, d1, d2, .inr d3, k2⟩
    · exact h

--CUT
def spPick (K : PySem.W.Frag) : Sp := fun vs H Q _ => ∃ (p l : Addr) (xs : List V) (n : Nat), vs = [.ref p, .ref l] ∧ SqL K H l xs ∧ l ≠ p ∧ 0 < xs.length ∧ xs.length < 1000000 ∧ Pen H p n ∧ n < 100000 ∧ ∀ (x : V) (H' : Hp), x ∈ xs → Pen H' p (n + 1) → Fr p H H' → Q x H'
theorem ok_pick (T : Txt K mg) : FnOk P w K mg base CX0 2 T.a_pick T.fd_pick ["_law_pen_here", "_law_some"] (spPick K) := by
  refine T.F_pick.ok sc_pick (fun vs H Q E h => ?_) (fun cdv A outer s H vs Q E hr h => ?_)
  · obtain ⟨p, l, xs, n, rfl, _⟩ := h; rfl
  · obtain ⟨p, l, xs, n, rfl, hS, hne, h0, h1, hP, hn, k⟩ := h
    refine ⟨_, pss_one (ps_ret (pe_ix ix_list (pv 1) (pe_call (ok_draw T) (hr.mono (by decide)) rfl T.m_draw T.F_draw.kp (b_draw T) .nil pass0 (pa_cons (pv 0) (pa_cons (pe_callB call_len_seq (by rfl) T.n_len (by decide +kernel) (pa_cons (pv 1) (pa_nil))) (pa_nil)))) (fun _ _ => rfl))), ?_⟩
    refine ⟨_, rfl, _, rfl, _, rfl, l, xs, rfl, .inl hS, p, _, n, rfl, (by omega), (by omega), hP, hn, fun r H' r0 r1 hP' fr => ?_⟩
    obtain ⟨x, hx, he⟩ := atI_any r0 r1
    exact ⟨l, xs, _, x, rfl, rfl, fr.seq hne hS, he, k x H' hx hP' fr⟩
/-! ### what is neither the pen nor a table stays -/
open Classical in
noncomputable def core (p : Addr) (H : Hp) : Hp := fun b => if b = p ∨ ∃ ps, H b = some (.tbl ps) then Option.none else H b
theorem core_sub {p : Addr} {H : Hp} : Same (core p H) H := fun b o e => by
  unfold core at e
  split at e
  · cases e
  · exact e
theorem core_at {p : Addr} {H : Hp} {a : Addr} {o : HO} (h : H a = some o) (n : a ≠ p) (nt : ∀ ps, o ≠ .tbl ps) : core p H a = some o := by
  unfold core
  rw [if_neg]
  · exact h
  · rintro (z | ⟨ps, z⟩)
    · exact n z
    · rw [h] at z
      exact nt ps (Option.some.inj z)
theorem core_of {p : Addr} {H : Hp} {a : Addr} {o : HO} (h : core p H a = some o) : a ≠ p ∧ (∀ ps, o ≠ .tbl ps) ∧ H a = some o := by
  have h2 := core_sub _ _ h
  unfold core at h
  split at h
  · cases h
  · rename_i n
    exact ⟨fun z => n (.inl z), fun ps z => n (.inr ⟨ps, z ▸ h2⟩), h2⟩
theorem core_ext {p : Addr} {H H' : Hp} (e : LamX.ExtN H H') : Same (core p H) H' := fun b o q => by
  obtain ⟨_, q2, q3⟩ := core_of q
  exact e b o q3 q2
theorem core_fr {p : Addr} {H H' : Hp} (e : Fr p H H') : Same (core p H) H' := fun b o q => by
  obtain ⟨q1, _, q3⟩ := core_of q
  exact e b o q1 q3
theorem core_same {p : Addr} {H H' : Hp} (e : Same H H') : Same (core p H) H' := fun b o q => e b o (core_of q).2.2
theorem core_up {p : Addr} {H H' : Hp} (e : Same (core p H) H') : Same (core p H) (core p H') := fun b o q => by
  obtain ⟨q1, q2, _⟩ := core_of q
  exact core_at (e b o q) q1 q2
theorem Pen.extN {H H' : Hp} {p : Addr} {n : Nat} (h : Pen H p n) (s : LamX.ExtN H H') : Pen H' p n := by
  obtain ⟨c, ns, i, g, h1, h2, h3⟩ := h
  exact ⟨c, ns, i, g, s _ _ h1 (fun ps z => nomatch z), s _ _ h2 (fun ps z => nomatch z), h3⟩
theorem SqL.same {K : PySem.W.Frag} {H H' : Hp} {a : Addr} {xs : List V} (s : Same H H') (h : SqL K H a xs) : SqL K H' a xs := by
  rcases h with (h | ⟨o, h⟩) | h
  · exact .inl (.inl (s _ _ h))
  · exact .inl (.inr ⟨o, s _ _ h⟩)
  · exact .inr h
theorem SqT.same {K : PySem.W.Frag} {H H' : Hp} {a : Addr} {xs : List V} (s : Same H H') (h : SqT K H a xs) : SqT K H' a xs := by
  rcases h with (h | ⟨o, h⟩) | h
  · exact .inl (.inl (s _ _ h))
  · exact .inl (.inr ⟨o, s _ _ h⟩)
  · exact .inr h
mutual
theorem dp_same {K : PySem.W.Frag} {H H' : Hp} (s : Same H H') : ∀ (d : PyData) (v : V), Dp K H v d → Dp K H' v d
  | .none, _, h => by cases h; exact .non
  | .bool _, _, h => by cases h; exact .bl _
  | .int _, _, h => by cases h; exact .int _
  | .str _, _, h => by cases h; exact .str _
  | .list ds, _, h => by
    cases h with
    | lst h1 ha => exact .lst (SqL.same s h1) (dp_sameAll s ds _ ha)
  | .tuple ds, _, h => by
    cases h with
    | tup h1 ha => exact .tup (SqT.same s h1) (dp_sameAll s ds _ ha)
  | .dict _, _, h => by cases h
theorem dp_sameAll {K : PySem.W.Frag} {H H' : Hp} (s : Same H H') : ∀ (ds : List PyData) (vs : List V), DpAll K H vs ds → DpAll K H' vs ds
  | [], _, h => by cases h; exact .nil
  | d :: ds, _, h => by
    cases h with
    | cons h1 h2 => exact .cons (dp_same s d _ h1) (dp_sameAll s ds _ h2)
end
theorem Dq.same {K : PySem.W.Frag} {H H' : Hp} (s : Same H H') {v : V} {d : PyData} (h : Dq K H v d) : Dq K H' v d := by
  cases h with
  | dp h => exact .dp (dp_same s _ _ h)
  | d0 h => exact .d0 (s _ _ h)
/-- v is no part, and shows as d -/
structure Odd (K : PySem.W.Frag) (H : Hp) (v : V) (d : PyData) : Prop where
  part : PartB H v false
  dq : Dq K H v d
  sh : d.showable = true
  dep : d.depth ≤ 60
  len : d.shown.length ≤ sizeLine
  ok : PyData.strOk d.shown = true
theorem Odd.same {K : PySem.W.Frag} {H H' : Hp} (s : Same H H') {v : V} {d : PyData} (h : Odd K H v d) : Odd K H' v d := ⟨h.part.same s, h.dq.same s, h.sh, h.dep, h.len, h.ok⟩
theorem PartB.twoF {H : Hp} {a : Addr} {x y : V} {t u : String} (e : H a = some (.tup [x, y])) (h1 : NT H x t) (h2 : NT H y u) (z : ((t == "int") && fromB 1 y) = false) : PartB H (.ref a) false := by
  have q := PartB.two e h1 h2
  rw [z] at q
  exact q
theorem tabs_fr {T : List (Addr × Str)} {p : Addr} {H H' : Hp} {n : Nat} (f : Fr p H H') (hP : Pen H p n) (t : LamX.Tabs T H) : LamX.Tabs T H' := fun q hq => by
  obtain ⟨xs, hp⟩ := hP.at
  obtain ⟨ps, h1, h2, h3⟩ := t q hq
  refine ⟨ps, f _ _ (fun z => by rw [z, hp] at h1; cases h1) h1, h2, fun pos cv hc => ?_⟩
  obtain ⟨c, e1, e2⟩ := h3 pos cv hc
  exact ⟨c, e1, f _ _ (fun z => by rw [z, hp] at e2; exact absurd (Option.some.inj e2) (by unfold LamX.CodeO; exact fun z => nomatch z)) e2⟩
theorem tabs_upd {T : List (Addr × Str)} {H : Hp} {L : Addr} {xs ys : List V} (hL : H L = some (.lst xs)) (t : LamX.Tabs T H) : LamX.Tabs T (upd H L (.lst ys)) := fun q hq => by
  obtain ⟨ps, h1, h2, h3⟩ := t q hq
  refine ⟨ps, by rw [upd_ne (fun z => by rw [z, hL] at h1; cases h1)]; exact h1, h2, fun pos cv hc => ?_⟩
  obtain ⟨c, e1, e2⟩ := h3 pos cv hc
  exact ⟨c, e1, by rw [upd_ne (fun z => by rw [z, hL] at e2; exact absurd (Option.some.inj e2) (by unfold LamX.CodeO; exact fun z => nomatch z))]; exact e2⟩
theorem PartB.twoT {H : Hp} {a : Addr} {x y : V} {t u : String} (e : H a = some (.tup [x, y])) (h1 : NT H x t) (h2 : NT H y u) (z : ((t == "int") && fromB 1 y) = true) : PartB H (.ref a) true := by
  have q := PartB.two e h1 h2
  rw [z] at q
  exact q
/-- a def whose one argument is a lambda is told -/
theorem pe_heard {X : Cx} (T : Txt X.K X.mg) (B : Caught X.K X.mg T.bad.C) (gu : X.A.guards = some []) {k : Nat} (hr : Room (k + 2) X.A) {c P : Addr} (TB : LamX.TabB X.base X.mg c P) (hcode : X.env.code = .ref c) {params : Arguments} {body : Expr} {scope : Scope} {t : XK → TE} {p lpos pos : Pos}
    (hg : Gl X "_law_heard") (L : LamX.LamS X.env.scope scope) (hdef : defaultsOf params X.env = ([], []))
    (hbind : ∀ (q : Str) (cl : List (Str × Addr)) (pm cv ctv : Value), bindArgs (PySem.W.kla_fn "<lambda>" q params body scope cl pm cv ctv) ⟨[], []⟩ = pure [])
    (hbody : ∀ (A : Around) (outer : List Env) (s : Shared) (H : Hp) (E : XK) (f c' : Addr), Room k (A.deeper (LamX.lamEnv X scope s.heap.objs.size f c')) → PE (LamX.lamCx X A outer s H E scope f c') body (t E)) :
    PE X (.Call (.Name "_law_heard" p) [.Lambda params body scope lpos] [] pos) (LamX.tLam [(P, X.env.qual ++ "<lambda>")] (TTheard X.K T.bad.C) t) := by
  obtain ⟨oc, od, kV, doc, pm, an, cdv, ct, osl, e, lk, hcd⟩ := T.F_heard.ex
  have Bd := b_heard T
  rw [e] at lk Bd
  exact LamX.pe_lamcall hg T.m_heard T.F_heard.kp lk hcd Bd sc_heard rfl (.inl rfl) (heard_gives (k := k + 1) T B gu hr) TB hcode List.mem_cons_self (fun p hp _ => by rw [List.mem_singleton.mp hp]) hr L hdef hbind hbody
theorem shaped_ss {x : Str} (h : PyData.strOk x = true) : SeqAt.shaped (.list [.str x, .str x]) = true := by
  simp [SeqAt.shaped, h, PyData.canLay0, PyData.canLayAll0, PyData.depth, PyData.depthAll]
theorem eqv_ss (x : Str) : PyData.eqv (.list [.str x, .str x]) (.list [.str x, .str x]) = true := by
  simp [PyData.eqv, PyData.eqvAll]
--CUT
def spRefused (P : Addr) (q : Str) : Sp := fun vs H Q _ => ∃ (p : Addr) (n : Nat), vs = [.ref p] ∧ Pen H p n ∧ n < 90000 ∧ LamX.Tabs [(P, q)] H ∧ ∀ H', Pen H' p (n + 2) → LamX.Tabs [(P, q)] H' → Q (.bl true) H'
theorem ok_refused_right (T : Txt K mg) (B : Caught K mg T.bad.C) {f c P1 : Addr} {oc : Value} {od an : Option Addr} {osl : Array (Option Value)} {kV doc pm ct : Value}
    (lk : K.lookup f = some ⟨oc, od, .func (PySem.W.fnOf "_law_refused_right" "_law_refused_right" (defArgs s_refused_right) (defBody s_refused_right) (defScope s_refused_right) .none kV doc pm an (.ref c) ct), osl⟩) (hcd : PySem.W.codeIn K (.ref c) "_law_refused_right" = true)
    (Bd : Binds K (PySem.W.fnOf "_law_refused_right" "_law_refused_right" (defArgs s_refused_right) (defBody s_refused_right) (defScope s_refused_right) .none kV doc pm an (.ref c) ct) ["_law_pen_here"] []) (TB : LamX.TabB base mg c P1) :
    FnG P w K mg base CX0 9 f (spRefused P1 "_law_refused_right.<locals>.<lambda>") := by
  refine FnG.mkL lk hcd sc_refused_right Bd (fun vs H Q E h => ?_) (fun A outer s H vs Q E gu hr h => ?_)
  · obtain ⟨p, n, rfl, _⟩ := h; rfl
  · obtain ⟨p, n, rfl, hP, hn, hT, k⟩ := h
    refine ⟨_, pss_cons (ps_set (i := 1) sc_refused_right.nd rfl (Or.inr rfl) (pe_call (ok_pick T) (hr.mono (by decide)) rfl T.m_pick T.F_pick.kp (b_pick T) .nil pass0 (pa_cons (pv 0) (pa_cons (pe_lst (pa_cons (pe_non) (pa_cons (pe_int) (pa_cons (pe_str) (pa_cons (pe_lst (pa_cons (pe_int) (pa_cons (pe_int) (pa_nil)))) (pa_cons (pe_tup (pa_cons (pe_int) (pa_nil))) (pa_cons (pe_tup (pa_cons (pe_int) (pa_cons (pe_int) (pa_cons (pe_int) (pa_nil))))) (pa_cons (pe_tup (pa_cons (pe_int) (pa_cons (pe_int) (pa_nil)))) (pa_cons (pe_tup (pa_cons (pe_int) (pa_cons (pe_un un_neg (pe_int)) (pa_nil)))) (pa_cons (pe_tup (pa_cons (pe_bl) (pa_cons (pe_int) (pa_nil)))) (pa_cons (pe_tup (pa_cons (pe_int) (pa_cons (pe_bl) (pa_nil)))) (pa_cons (pe_tup (pa_cons (pe_non) (pa_cons (pe_int) (pa_nil)))) (pa_cons (pe_tup (pa_cons (pe_str) (pa_cons (pe_int) (pa_nil)))) (pa_cons (pe_tup (pa_nil)) (pa_nil))))))))))))))) (pa_nil)))))
      (pss_cons (ps_set (i := 2) sc_refused_right.nd rfl (Or.inr rfl) (pe_call (ok_pick T) (hr.mono (by decide)) rfl T.m_pick T.F_pick.kp (b_pick T) .nil pass0 (pa_cons (pv 0) (pa_cons (pe_lst (pa_cons (pe_non) (pa_cons (pe_int) (pa_cons (pe_tup (pa_cons (pe_int) (pa_cons (pe_int) (pa_nil)))) (pa_cons (pe_tup (pa_cons (pe_int) (pa_nil))) (pa_cons (pe_dnewK) (pa_nil))))))) (pa_nil)))))
      (pss_cons (ps_set (i := 3) sc_refused_right.nd rfl (Or.inl rfl) (pe_lst (pa_cons (pe_heard (k := 6) T B gu hr TB rfl rfl (LamX.lamS_by (by show LamX.lamSB (defScope s_refused_right) _ = true; decide +kernel)) rfl (fun _ _ _ _ _ => rfl) (fun A2 o2 s2 H2 E2 f2 c2 hr3 => (pe_callR (ok_together T) (hr3.mono (by decide)) T.F_together.kp rfl T.m_together (passes_call (takes_of rfl rfl rfl rfl) (fun _ _ _ _ h => h)) (pa_cons (pe_tup (pa_cons (pe_int) (pa_cons (pe_int) (pa_nil)))) (pa_cons (pe_tup (pa_cons (pe_int) (pa_cons (pe_int) (pa_nil)))) (pa_cons (pv 1) (pa_cons (pv 2) (pa_nil)))))))) (pa_nil))))
      (pss_cons (ps_expr (pe_bm PySem.F.plainAttrs_list PySem.F.slot_list_append PySem.F.type_list_append mt_append (pv 3) (pa_cons (pe_heard (k := 6) T B gu hr TB rfl rfl (LamX.lamS_by (by show LamX.lamSB (defScope s_refused_right) _ = true; decide +kernel)) rfl (fun _ _ _ _ _ => rfl) (fun A2 o2 s2 H2 E2 f2 c2 hr3 => (pe_callR (ok_together T) (hr3.mono (by decide)) T.F_together.kp rfl T.m_together (passes_call (takes_of rfl rfl rfl rfl) (fun _ _ _ _ h => h)) (pa_cons (pv 1) (pa_cons (pv 2) (pa_nil)))))) (pa_nil))))
      (pss_one (ps_ret (pe_cmpR (op_eqD hr.units) (pv 3) (pe_op op_rep (pe_lst (pa_cons (pe_callB (call_rep gu hr.units) (by rfl) T.n_repr (by decide +kernel) (pa_cons (pv 1) (pa_nil))) (pa_nil))) (pe_int)) (nomark _))))))), ?_⟩
    refine ⟨_, rfl, ?_⟩
    have hP0 := hP
    have hT0 := hT
    refine ⟨(by show 2 ≤ sizeLine; decide), fun a0 h0 => ?_⟩
    have s0 := same_new (o := .lst [V.int 1, V.int 3]) h0
    have n0 : a0 ≠ p := hP0.neq h0
    have hP1 := hP0.same s0
    have hT1 := hT0.ext s0
    have e0 : (upd H a0 (.lst [V.int 1, V.int 3])) a0 = some (.lst [V.int 1, V.int 3]) := upd_same
    generalize upd H a0 (.lst [V.int 1, V.int 3]) = G0 at s0 hP1 hT1 e0 ⊢
    refine ⟨(by show 1 ≤ sizeLine; decide), fun a1 h1 => ?_⟩
    have s1 := same_new (o := .tup [V.int 1]) h1
    have n1 : a1 ≠ p := hP1.neq h1
    have hP2 := hP1.same s1
    have hT2 := hT1.ext s1
    have e1 : (upd G0 a1 (.tup [V.int 1])) a1 = some (.tup [V.int 1]) := upd_same
    have e0 := s1 _ _ e0
    generalize upd G0 a1 (.tup [V.int 1]) = G1 at s1 hP2 hT2 e0 e1 ⊢
    refine ⟨(by show 3 ≤ sizeLine; decide), fun a2 h2 => ?_⟩
    have s2 := same_new (o := .tup [V.int 1, V.int 3, V.int 5]) h2
    have n2 : a2 ≠ p := hP2.neq h2
    have hP3 := hP2.same s2
    have hT3 := hT2.ext s2
    have e2 : (upd G1 a2 (.tup [V.int 1, V.int 3, V.int 5])) a2 = some (.tup [V.int 1, V.int 3, V.int 5]) := upd_same
    have e0 := s2 _ _ e0
    have e1 := s2 _ _ e1
    generalize upd G1 a2 (.tup [V.int 1, V.int 3, V.int 5]) = G2 at s2 hP3 hT3 e0 e1 e2 ⊢
    refine ⟨(by show 2 ≤ sizeLine; decide), fun a3 h3 => ?_⟩
    have s3 := same_new (o := .tup [V.int 1, V.int 0]) h3
    have n3 : a3 ≠ p := hP3.neq h3
    have hP4 := hP3.same s3
    have hT4 := hT3.ext s3
    have e3 : (upd G2 a3 (.tup [V.int 1, V.int 0])) a3 = some (.tup [V.int 1, V.int 0]) := upd_same
    have e0 := s3 _ _ e0
    have e1 := s3 _ _ e1
    have e2 := s3 _ _ e2
    generalize upd G2 a3 (.tup [V.int 1, V.int 0]) = G3 at s3 hP4 hT4 e0 e1 e2 e3 ⊢
    refine ⟨3, rfl, (by show 2 ≤ sizeLine; decide), fun a4 h4 => ?_⟩
    have s4 := same_new (o := .tup [V.int 1, V.int (-3)]) h4
    have n4 : a4 ≠ p := hP4.neq h4
    have hP5 := hP4.same s4
    have hT5 := hT4.ext s4
    have e4 : (upd G3 a4 (.tup [V.int 1, V.int (-3)])) a4 = some (.tup [V.int 1, V.int (-3)]) := upd_same
    have e0 := s4 _ _ e0
    have e1 := s4 _ _ e1
    have e2 := s4 _ _ e2
    have e3 := s4 _ _ e3
    generalize upd G3 a4 (.tup [V.int 1, V.int (-3)]) = G4 at s4 hP5 hT5 e0 e1 e2 e3 e4 ⊢
    refine ⟨(by show 2 ≤ sizeLine; decide), fun a5 h5 => ?_⟩
    have s5 := same_new (o := .tup [V.bl true, V.int 3]) h5
    have n5 : a5 ≠ p := hP5.neq h5
    have hP6 := hP5.same s5
    have hT6 := hT5.ext s5
    have e5 : (upd G4 a5 (.tup [V.bl true, V.int 3])) a5 = some (.tup [V.bl true, V.int 3]) := upd_same
    have e0 := s5 _ _ e0
    have e1 := s5 _ _ e1
    have e2 := s5 _ _ e2
    have e3 := s5 _ _ e3
    have e4 := s5 _ _ e4
    generalize upd G4 a5 (.tup [V.bl true, V.int 3]) = G5 at s5 hP6 hT6 e0 e1 e2 e3 e4 e5 ⊢
    refine ⟨(by show 2 ≤ sizeLine; decide), fun a6 h6 => ?_⟩
    have s6 := same_new (o := .tup [V.int 1, V.bl true]) h6
    have n6 : a6 ≠ p := hP6.neq h6
    have hP7 := hP6.same s6
    have hT7 := hT6.ext s6
    have e6 : (upd G5 a6 (.tup [V.int 1, V.bl true])) a6 = some (.tup [V.int 1, V.bl true]) := upd_same
    have e0 := s6 _ _ e0
    have e1 := s6 _ _ e1
    have e2 := s6 _ _ e2
    have e3 := s6 _ _ e3
    have e4 := s6 _ _ e4
    have e5 := s6 _ _ e5
    generalize upd G5 a6 (.tup [V.int 1, V.bl true]) = G6 at s6 hP7 hT7 e0 e1 e2 e3 e4 e5 e6 ⊢
    refine ⟨(by show 2 ≤ sizeLine; decide), fun a7 h7 => ?_⟩
    have s7 := same_new (o := .tup [V.non, V.int 3]) h7
    have n7 : a7 ≠ p := hP7.neq h7
    have hP8 := hP7.same s7
    have hT8 := hT7.ext s7
    have e7 : (upd G6 a7 (.tup [V.non, V.int 3])) a7 = some (.tup [V.non, V.int 3]) := upd_same
    have e0 := s7 _ _ e0
    have e1 := s7 _ _ e1
    have e2 := s7 _ _ e2
    have e3 := s7 _ _ e3
    have e4 := s7 _ _ e4
    have e5 := s7 _ _ e5
    have e6 := s7 _ _ e6
    generalize upd G6 a7 (.tup [V.non, V.int 3]) = G7 at s7 hP8 hT8 e0 e1 e2 e3 e4 e5 e6 e7 ⊢
    refine ⟨(by show 2 ≤ sizeLine; decide), fun a8 h8 => ?_⟩
    have s8 := same_new (o := .tup [V.str "1", V.int 3]) h8
    have n8 : a8 ≠ p := hP8.neq h8
    have hP9 := hP8.same s8
    have hT9 := hT8.ext s8
    have e8 : (upd G7 a8 (.tup [V.str "1", V.int 3])) a8 = some (.tup [V.str "1", V.int 3]) := upd_same
    have e0 := s8 _ _ e0
    have e1 := s8 _ _ e1
    have e2 := s8 _ _ e2
    have e3 := s8 _ _ e3
    have e4 := s8 _ _ e4
    have e5 := s8 _ _ e5
    have e6 := s8 _ _ e6
    have e7 := s8 _ _ e7
    generalize upd G7 a8 (.tup [V.str "1", V.int 3]) = G8 at s8 hP9 hT9 e0 e1 e2 e3 e4 e5 e6 e7 e8 ⊢
    refine ⟨(by show 0 ≤ sizeLine; decide), fun a9 h9 => ?_⟩
    have s9 := same_new (o := .tup []) h9
    have n9 : a9 ≠ p := hP9.neq h9
    have hP10 := hP9.same s9
    have hT10 := hT9.ext s9
    have e9 : (upd G8 a9 (.tup [])) a9 = some (.tup []) := upd_same
    have e0 := s9 _ _ e0
    have e1 := s9 _ _ e1
    have e2 := s9 _ _ e2
    have e3 := s9 _ _ e3
    have e4 := s9 _ _ e4
    have e5 := s9 _ _ e5
    have e6 := s9 _ _ e6
    have e7 := s9 _ _ e7
    have e8 := s9 _ _ e8
    generalize upd G8 a9 (.tup []) = G9 at s9 hP10 hT10 e0 e1 e2 e3 e4 e5 e6 e7 e8 e9 ⊢
    refine ⟨(by show 13 ≤ sizeLine; decide), fun L hL => ?_⟩
    have nL : L ≠ p := hP10.neq hL
    have sL := same_new (o := .lst [V.non, V.int 3, V.str "13", V.ref a0, V.ref a1, V.ref a2, V.ref a3, V.ref a4, V.ref a5, V.ref a6, V.ref a7, V.ref a8, V.ref a9]) hL
    have hPL := hP10.same sL
    have hTL := hT10.ext sL
    have e0 := core_at (p := p) (sL _ _ e0) n0 (fun _ z => nomatch z)
    have e1 := core_at (p := p) (sL _ _ e1) n1 (fun _ z => nomatch z)
    have e2 := core_at (p := p) (sL _ _ e2) n2 (fun _ z => nomatch z)
    have e3 := core_at (p := p) (sL _ _ e3) n3 (fun _ z => nomatch z)
    have e4 := core_at (p := p) (sL _ _ e4) n4 (fun _ z => nomatch z)
    have e5 := core_at (p := p) (sL _ _ e5) n5 (fun _ z => nomatch z)
    have e6 := core_at (p := p) (sL _ _ e6) n6 (fun _ z => nomatch z)
    have e7 := core_at (p := p) (sL _ _ e7) n7 (fun _ z => nomatch z)
    have e8 := core_at (p := p) (sL _ _ e8) n8 (fun _ z => nomatch z)
    have e9 := core_at (p := p) (sL _ _ e9) n9 (fun _ z => nomatch z)
    have eL : (upd G9 L (.lst [V.non, V.int 3, V.str "13", V.ref a0, V.ref a1, V.ref a2, V.ref a3, V.ref a4, V.ref a5, V.ref a6, V.ref a7, V.ref a8, V.ref a9])) L = some (.lst [V.non, V.int 3, V.str "13", V.ref a0, V.ref a1, V.ref a2, V.ref a3, V.ref a4, V.ref a5, V.ref a6, V.ref a7, V.ref a8, V.ref a9]) := upd_same
    generalize upd G9 L (.lst [V.non, V.int 3, V.str "13", V.ref a0, V.ref a1, V.ref a2, V.ref a3, V.ref a4, V.ref a5, V.ref a6, V.ref a7, V.ref a8, V.ref a9]) = GL at sL hPL hTL eL e0 e1 e2 e3 e4 e5 e6 e7 e8 e9 ⊢
    refine ⟨p, L, _, n, rfl, SqL.of eL, nL, (by show 0 < 13; decide), (by show 13 < 1000000; decide), hPL, by omega, fun x H1 hx hP1 f1 => ?_⟩
    have odd : ∃ dd, Odd K (core p GL) x dd := by
      simp only [List.mem_cons, List.not_mem_nil, or_false] at hx
      rcases hx with rfl | rfl | rfl | rfl | rfl | rfl | rfl | rfl | rfl | rfl | rfl | rfl | rfl
      · exact ⟨.none, .no .non (by decide), .dp .non, by decide +kernel, by decide +kernel, by decide +kernel, by decide +kernel⟩
      · exact ⟨.int 3, .no (.int 3) (by decide), .dp (.int 3), by decide +kernel, by decide +kernel, by decide +kernel, by decide +kernel⟩
      · exact ⟨.str "13", .no (.str _) (by decide), .dp (.str _), by decide +kernel, by decide +kernel, by decide +kernel, by decide +kernel⟩
      · exact ⟨.list [.int 1, .int 3], .no (.lst e0) (by decide), .dp (.lst (SqL.of e0) (.cons (.int _) (.cons (.int _) .nil))), by decide +kernel, by decide +kernel, by decide +kernel, by decide +kernel⟩
      · exact ⟨.tuple [.int 1], .len e1 (by decide), .dp (.tup (SqT.of e1) (.cons (.int _) .nil)), by decide +kernel, by decide +kernel, by decide +kernel, by decide +kernel⟩
      · exact ⟨.tuple [.int 1, .int 3, .int 5], .len e2 (by decide), .dp (.tup (SqT.of e2) (.cons (.int _) (.cons (.int _) (.cons (.int _) .nil)))), by decide +kernel, by decide +kernel, by decide +kernel, by decide +kernel⟩
      · exact ⟨.tuple [.int 1, .int 0], .twoF e3 (.int _) (.int _) (by decide +kernel), .dp (.tup (SqT.of e3) (.cons (.int _) (.cons (.int _) .nil))), by decide +kernel, by decide +kernel, by decide +kernel, by decide +kernel⟩
      · exact ⟨.tuple [.int 1, .int (-3)], .twoF e4 (.int _) (.int _) (by decide +kernel), .dp (.tup (SqT.of e4) (.cons (.int _) (.cons (.int _) .nil))), by decide +kernel, by decide +kernel, by decide +kernel, by decide +kernel⟩
      · exact ⟨.tuple [.bool true, .int 3], .twoF e5 (.bl _) (.int _) (by decide +kernel), .dp (.tup (SqT.of e5) (.cons (.bl _) (.cons (.int _) .nil))), by decide +kernel, by decide +kernel, by decide +kernel, by decide +kernel⟩
      · exact ⟨.tuple [.int 1, .bool true], .twoF e6 (.int _) (.bl _) (by decide +kernel), .dp (.tup (SqT.of e6) (.cons (.int _) (.cons (.bl _) .nil))), by decide +kernel, by decide +kernel, by decide +kernel, by decide +kernel⟩
      · exact ⟨.tuple [.none, .int 3], .twoF e7 .non (.int _) (by decide +kernel), .dp (.tup (SqT.of e7) (.cons .non (.cons (.int _) .nil))), by decide +kernel, by decide +kernel, by decide +kernel, by decide +kernel⟩
      · exact ⟨.tuple [.str "1", .int 3], .twoF e8 (.str _) (.int _) (by decide +kernel), .dp (.tup (SqT.of e8) (.cons (.str _) (.cons (.int _) .nil))), by decide +kernel, by decide +kernel, by decide +kernel, by decide +kernel⟩
      · exact ⟨.tuple [], .len e9 (by decide), .dp (.tup (SqT.of e9) .nil), by decide +kernel, by decide +kernel, by decide +kernel, by decide +kernel⟩
    obtain ⟨dd, odd⟩ := odd
    have odd := odd.same (core_up (core_fr f1))
    have hT1 : LamX.Tabs [(P1, "_law_refused_right.<locals>.<lambda>")] H1 := tabs_fr f1 hPL hTL
    refine ⟨_, rfl, (by show 2 ≤ sizeLine; decide), fun b0 g0 => ?_⟩
    have t0 := same_new (o := .tup [V.int 1, V.int 0]) g0
    have hQ0 := hP1.same t0
    have hU0 := hT1.ext t0
    have odd0 := odd.same (core_up (core_same (p := p) t0))
    generalize upd H1 b0 (.tup [V.int 1, V.int 0]) = F0 at t0 hQ0 hU0 odd0 ⊢
    refine ⟨(by show 1 ≤ sizeLine; decide), fun b1 g1 => ?_⟩
    have t1 := same_new (o := .tup [V.int 2]) g1
    have hQ1 := hQ0.same t1
    have hU1 := hU0.ext t1
    have odd1 := odd0.same (core_up (core_same (p := p) t1))
    generalize upd F0 b1 (.tup [V.int 2]) = F1 at t1 hQ1 hU1 odd1 ⊢
    intro b2 g2
    have t2 := same_new (o := .dK []) g2
    have hQ2 := hQ1.same t2
    have hU2 := hU1.ext t2
    have odd2 := odd1.same (core_up (core_same (p := p) t2))
    generalize upd F1 b2 (.dK []) = F2 at t2 hQ2 hU2 odd2 ⊢
    refine ⟨(by show 5 ≤ sizeLine; decide), fun b3 g3 => ?_⟩
    have t3 := same_new (o := .lst [V.non, V.int 0, V.ref b0, V.ref b1, V.ref b2]) g3
    have n3' : b3 ≠ p := hQ2.neq g3
    have hQ3 := hQ2.same t3
    have hU3 := hU2.ext t3
    have odd3 := odd2.same (core_up (core_same (p := p) t3))
    refine ⟨p, b3, _, n + 1, rfl, SqL.of upd_same, n3', (by show 0 < 5; decide), (by show 5 < 1000000; decide), hQ3, by omega, fun y H2 hy hP2 f2 => ?_⟩
    have odd4 := odd3.same (core_up (core_fr f2))
    have hT2 : LamX.Tabs [(P1, "_law_refused_right.<locals>.<lambda>")] H2 := tabs_fr f2 hQ3 hU3
    refine ⟨hT2, fun H3 x3 hT3 => ?_⟩
    have odd5 := odd4.same (core_up (core_ext x3))
    have hP3 := hP2.extN x3
    have hT3' : LamX.Tabs [(P1, "_law_refused_right.<locals>.<lambda>")] H3 := hT3
    refine ⟨(by show 2 ≤ sizeLine; decide), fun c0 k0 => ⟨(by show 2 ≤ sizeLine; decide), fun c1 k1 => ⟨_, rfl, _, rfl, (by show 4 ≤ sizeLine; decide), .inr ⟨2, x, rfl, fun i y hi e => ?_, ?_, fun d H4 s4 hd hdx => ?_⟩⟩⟩⟩
    · match i, hi, e with
      | 0, _, e =>
        cases e
        exact .twoT (by rw [upd_ne (ne_of_none upd_same k1)]; exact upd_same) (.int 1) (.int 4) (by decide +kernel)
      | 1, _, e =>
        cases e
        exact .twoT upd_same (.int 2) (.int 4) (by decide +kernel)
    · exact ((odd5.same core_sub).part.same (same_new k0)).same (same_new k1)
    have sC := ((same_new (o := .tup [V.int 1, V.int 4]) k0).trans (same_new (o := .tup [V.int 2, V.int 4]) k1)).trans s4
    have odd6 := odd5.same (core_up (core_same (p := p) sC))
    have hP4 := hP3.same sC
    have hT4 := hT3'.ext sC
    refine ⟨d, x, dd, rfl, rfl, hdx, fun G s => (odd6.same (fun b o e => s b o (core_sub b o e))).dq, odd6.sh, odd6.dep, odd6.len, fun H5 s5 => ?_⟩
    have odd7 := odd6.same (core_up (core_same (p := p) s5))
    have hP5 := hP4.same s5
    have hT5 := hT4.ext s5
    refine ⟨(by show 1 ≤ sizeLine; decide), fun L1 hL1 => ?_⟩
    have n1' : L1 ≠ p := hP5.neq hL1
    obtain ⟨cc, ns, ci, cg, pc1, pc2, pc3⟩ := id hP5
    have ncL : cc ≠ L1 := ne_of_none pc2 hL1
    have s6 := same_new (o := .lst [V.str dd.shown]) hL1
    have odd8 := odd7.same (core_up (core_same (p := p) s6))
    have hT6 := hT5.ext s6
    have r1 : Same (core p H5) (upd H5 L1 (.lst [V.str dd.shown])) := core_same s6
    have nb1 : ∀ b o, H5 b = some o → b ≠ L1 := fun b o e => ne_of_none e hL1
    have pc1 := s6 _ _ pc1
    have pc2 := s6 _ _ pc2
    have eL1 : (upd H5 L1 (.lst [V.str dd.shown])) L1 = some (.lst [V.str dd.shown]) := upd_same
    generalize upd H5 L1 (.lst [V.str dd.shown]) = H6 at s6 r1 odd8 hT6 pc1 pc2 eL1 ⊢
    refine ⟨_, rfl, .inl ⟨rfl, _, SqL.of eL1⟩, hT6, fun H7 x7 hT7 => ?_⟩
    have odd9 := odd8.same (core_up (core_ext x7))
    have hT7' : LamX.Tabs [(P1, "_law_refused_right.<locals>.<lambda>")] H7 := hT7
    have pc1 := x7 _ _ pc1 (fun _ z => nomatch z)
    have pc2 := x7 _ _ pc2 (fun _ z => nomatch z)
    have eL1 := x7 _ _ eL1 (fun _ z => nomatch z)
    refine ⟨_, rfl, _, rfl, (by show 2 ≤ sizeLine; decide), .inr ⟨0, x, rfl, fun i y hi e => absurd hi (Nat.not_lt_zero _), (odd9.same core_sub).part, fun d H8 s8 hd hdx => ?_⟩⟩
    have odd10 := odd9.same (core_up (core_same (p := p) s8))
    refine ⟨d, x, dd, rfl, rfl, hdx, fun G s => (odd10.same (fun b o e => s b o (core_sub b o e))).dq, odd10.sh, odd10.dep, odd10.len, fun H9 s9 => ?_⟩
    have sA := s8.trans s9
    have odd11 := odd10.same (core_up (core_same (p := p) s9))
    have hT9 := hT7'.ext sA
    have pc1 := sA _ _ pc1
    have pc2 := sA _ _ pc2
    have eL1 := sA _ _ eL1
    refine ⟨L1, _, _, rfl, rfl, eL1, (by show 1 < sizeLine; decide), ?_⟩
    have hTA := tabs_upd (ys := [V.str dd.shown] ++ [V.str dd.shown]) eL1 hT9
    have oddA : Odd K (upd H9 L1 (.lst ([V.str dd.shown] ++ [V.str dd.shown]))) x dd := odd7.same (fun b o q => by
      rw [upd_ne (nb1 b o (core_of q).2.2)]
      exact sA b o (core_ext x7 b o (core_up r1 b o q)))
    have hPA : Pen (upd H9 L1 (.lst ([V.str dd.shown] ++ [V.str dd.shown]))) p (n + 2) := ⟨cc, ns, ci, cg, by rw [upd_ne n1'.symm]; exact pc1, by rw [upd_ne ncL]; exact pc2, pc3⟩
    have eL2 : (upd H9 L1 (.lst ([V.str dd.shown] ++ [V.str dd.shown]))) L1 = some (.lst [V.str dd.shown, V.str dd.shown]) := upd_same
    generalize upd H9 L1 (.lst ([V.str dd.shown] ++ [V.str dd.shown])) = HA at hTA oddA hPA eL2 ⊢
    refine ⟨_, rfl, _, rfl, x, dd, rfl, oddA.dq, oddA.sh, oddA.dep, .inr oddA.len, (by show 1 ≤ sizeLine; decide), fun L2 hL2 => ?_⟩
    have sB := same_new (o := .lst [V.str dd.shown]) hL2
    refine ⟨L2, 2, _, rfl, rfl, upd_same, by decide, by decide, (by show 1 * 2 ≤ sizeLine; decide), fun L3 hL3 => ?_⟩
    have sD := same_new (o := .lst [V.str dd.shown, V.str dd.shown]) hL3
    refine ⟨.list [.str dd.shown, .str dd.shown], .list [.str dd.shown, .str dd.shown], .lst (SqL.of (sD _ _ (sB _ _ eL2))) (.cons (.str _) (.cons (.str _) .nil)), .lst (SqL.of upd_same) (.cons (.str _) (.cons (.str _) .nil)), shaped_ss oddA.ok, shaped_ss oddA.ok, ?_⟩
    rw [eqv_ss]
    exact k _ ((hPA.same sB).same sD) ((hTA.ext sB).ext sD)

--CUT
/-! ### the law -/
theorem least_small {ps : List (Int × Int)} {x : Int} (h : NM.TogIs ps (some x)) (t : tiny ps) : 0 ≤ x ∧ x < 27720 := by
  obtain ⟨x0, xs, xm⟩ := h
  refine ⟨x0, ?_⟩
  have n0 := Int.emod_nonneg x (show (27720 : Int) ≠ 0 by decide)
  have n1 := Int.emod_lt_of_pos x (show (0 : Int) < 27720 by decide)
  have e := Int.mul_ediv_add_emod x 27720
  have sm : NM.Sol ps (x % 27720) := fun q hq => by
    obtain ⟨d1, d2, _⟩ := t q hq
    have h1 := xs q hq
    have hd : q.2 ∣ 27720 := by
      have : q.2 = 1 ∨ q.2 = 2 ∨ q.2 = 3 ∨ q.2 = 4 ∨ q.2 = 5 ∨ q.2 = 6 ∨ q.2 = 7 ∨ q.2 = 8 ∨ q.2 = 9 ∨ q.2 = 10 ∨ q.2 = 11 ∨ q.2 = 12 := by omega
      rcases this with z | z | z | z | z | z | z | z | z | z | z | z <;> rw [z] <;> decide
    have h3 := Int.dvd_sub h1 (NM.dvd_mr (x / 27720) hd)
    have e3 : x - q.1 - 27720 * (x / 27720) = x % 27720 - q.1 := by omega
    rwa [e3] at h3
  have := xm _ n0 sm
  omega
def oD : Option Int → PyData
  | some x => .int x
  | Option.none => .none
theorem oD_dq {K : PySem.W.Frag} {H : Hp} (o : Option Int) : Dq K H (oV o) (oD o) := by
  cases o with
  | none => exact .dp .non
  | some x => exact .dp (.int x)
theorem oD_ok {o : Option Int} {ps : List (Int × Int)} (h : NM.TogIs ps o) (t : tiny ps) : (oD o).showable = true ∧ (oD o).depth ≤ 60 ∧ ((∃ i, oD o = .int i) ∨ (oD o).shown.length ≤ sizeLine) := by
  cases o with
  | none => exact ⟨by decide +kernel, by decide +kernel, .inr (by decide +kernel)⟩
  | some x =>
    obtain ⟨h1, h2⟩ := least_small h t
    refine ⟨decide_eq_true ?_, by simp [oD, PyData.depth], .inl ⟨x, rfl⟩⟩
    by_cases z : x.natAbs = 0
    · rw [z]; decide
    · refine Nat.lt_of_lt_of_le ((Nat.log2_lt z).mpr (show x.natAbs < 2 ^ 15 by omega)) (by decide)
theorem partsAt_same {K : PySem.W.Frag} {H H' : Hp} {l : Addr} {ps : List (Int × Int)} (s : Same H H') (h : PartsAt K H l ps) : PartsAt K H' l ps := by
  obtain ⟨vs, h1, h2⟩ := h
  exact ⟨vs, s _ _ h1, h2.same s⟩
theorem togA : NM.TogIs [(1, 2), (2, 3), (3, 4), (4, 5), (5, 6), (3, 7)] (some 59) := by
  refine ⟨by decide, fun q hq => ?_, fun y hy s => ?_⟩
  · simp only [List.mem_cons, List.not_mem_nil, or_false] at hq
    rcases hq with rfl | rfl | rfl | rfl | rfl | rfl <;> decide
  · skip
    have h0 : (2 : Int) ∣ y - (1) := s (1, 2) (by simp)
    have h1 : (3 : Int) ∣ y - (2) := s (2, 3) (by simp)
    have h2 : (4 : Int) ∣ y - (3) := s (3, 4) (by simp)
    have h3 : (5 : Int) ∣ y - (4) := s (4, 5) (by simp)
    have h4 : (6 : Int) ∣ y - (5) := s (5, 6) (by simp)
    have h5 : (7 : Int) ∣ y - (3) := s (3, 7) (by simp)
    omega
theorem smallA : small [(1, 2), (2, 3), (3, 4), (4, 5), (5, 6), (3, 7)] := fun q hq => by
  simp only [List.mem_cons, List.not_mem_nil, or_false] at hq
  rcases hq with rfl | rfl | rfl | rfl | rfl | rfl <;> exact ⟨by decide, by decide +kernel, by decide +kernel⟩
theorem togB : NM.TogIs [(1, 2), (2, 3), (3, 4), (4, 5), (5, 6), (4, 7)] (some 179) := by
  refine ⟨by decide, fun q hq => ?_, fun y hy s => ?_⟩
  · simp only [List.mem_cons, List.not_mem_nil, or_false] at hq
    rcases hq with rfl | rfl | rfl | rfl | rfl | rfl <;> decide
  · skip
    have h0 : (2 : Int) ∣ y - (1) := s (1, 2) (by simp)
    have h1 : (3 : Int) ∣ y - (2) := s (2, 3) (by simp)
    have h2 : (4 : Int) ∣ y - (3) := s (3, 4) (by simp)
    have h3 : (5 : Int) ∣ y - (4) := s (4, 5) (by simp)
    have h4 : (6 : Int) ∣ y - (5) := s (5, 6) (by simp)
    have h5 : (7 : Int) ∣ y - (4) := s (4, 7) (by simp)
    omega
theorem smallB : small [(1, 2), (2, 3), (3, 4), (4, 5), (5, 6), (4, 7)] := fun q hq => by
  simp only [List.mem_cons, List.not_mem_nil, or_false] at hq
  rcases hq with rfl | rfl | rfl | rfl | rfl | rfl <;> exact ⟨by decide, by decide +kernel, by decide +kernel⟩
theorem togC : NM.TogIs [(1, 2), (2, 3), (3, 4), (4, 5), (6, 6), (3, 7)] Option.none := by
  intro y s
  have h0 : (2 : Int) ∣ y - (1) := s (1, 2) (by simp)
  have h1 : (3 : Int) ∣ y - (2) := s (2, 3) (by simp)
  have h2 : (4 : Int) ∣ y - (3) := s (3, 4) (by simp)
  have h3 : (5 : Int) ∣ y - (4) := s (4, 5) (by simp)
  have h4 : (6 : Int) ∣ y - (6) := s (6, 6) (by simp)
  have h5 : (7 : Int) ∣ y - (3) := s (3, 7) (by simp)
  omega
theorem smallC : small [(1, 2), (2, 3), (3, 4), (4, 5), (6, 6), (3, 7)] := fun q hq => by
  simp only [List.mem_cons, List.not_mem_nil, or_false] at hq
  rcases hq with rfl | rfl | rfl | rfl | rfl | rfl <;> exact ⟨by decide, by decide +kernel, by decide +kernel⟩
theorem togD : NM.TogIs [(0, 1), (0, 1), (0, 1), (0, 1), (7, 9)] (some 7) := by
  refine ⟨by decide, fun q hq => ?_, fun y hy s => ?_⟩
  · simp only [List.mem_cons, List.not_mem_nil, or_false] at hq
    rcases hq with rfl | rfl | rfl | rfl | rfl <;> decide
  · skip
    have h0 : (1 : Int) ∣ y - (0) := s (0, 1) (by simp)
    have h1 : (1 : Int) ∣ y - (0) := s (0, 1) (by simp)
    have h2 : (1 : Int) ∣ y - (0) := s (0, 1) (by simp)
    have h3 : (1 : Int) ∣ y - (0) := s (0, 1) (by simp)
    have h4 : (9 : Int) ∣ y - (7) := s (7, 9) (by simp)
    omega
theorem smallD : small [(0, 1), (0, 1), (0, 1), (0, 1), (7, 9)] := fun q hq => by
  simp only [List.mem_cons, List.not_mem_nil, or_false] at hq
  rcases hq with rfl | rfl | rfl | rfl | rfl <;> exact ⟨by decide, by decide +kernel, by decide +kernel⟩
theorem togE : NM.TogIs [(2, 3), (3, 5), (2, 7)] (some 23) := by
  refine ⟨by decide, fun q hq => ?_, fun y hy s => ?_⟩
  · simp only [List.mem_cons, List.not_mem_nil, or_false] at hq
    rcases hq with rfl | rfl | rfl <;> decide
  · skip
    have h0 : (3 : Int) ∣ y - (2) := s (2, 3) (by simp)
    have h1 : (5 : Int) ∣ y - (3) := s (3, 5) (by simp)
    have h2 : (7 : Int) ∣ y - (2) := s (2, 7) (by simp)
    omega
theorem smallE : small [(2, 3), (3, 5), (2, 7)] := fun q hq => by
  simp only [List.mem_cons, List.not_mem_nil, or_false] at hq
  rcases hq with rfl | rfl | rfl <;> exact ⟨by decide, by decide +kernel, by decide +kernel⟩
theorem togF : NM.TogIs [(1, 4), (3, 6)] (some 9) := by
  refine ⟨by decide, fun q hq => ?_, fun y hy s => ?_⟩
  · simp only [List.mem_cons, List.not_mem_nil, or_false] at hq
    rcases hq with rfl | rfl <;> decide
  · skip
    have h0 : (4 : Int) ∣ y - (1) := s (1, 4) (by simp)
    have h1 : (6 : Int) ∣ y - (3) := s (3, 6) (by simp)
    omega
theorem smallF : small [(1, 4), (3, 6)] := fun q hq => by
  simp only [List.mem_cons, List.not_mem_nil, or_false] at hq
  rcases hq with rfl | rfl <;> exact ⟨by decide, by decide +kernel, by decide +kernel⟩
theorem togG : NM.TogIs [(1, 4), (2, 6)] Option.none := by
  intro y s
  have h0 : (4 : Int) ∣ y - (1) := s (1, 4) (by simp)
  have h1 : (6 : Int) ∣ y - (2) := s (2, 6) (by simp)
  omega
theorem smallG : small [(1, 4), (2, 6)] := fun q hq => by
  simp only [List.mem_cons, List.not_mem_nil, or_false] at hq
  rcases hq with rfl | rfl <;> exact ⟨by decide, by decide +kernel, by decide +kernel⟩
theorem togI : NM.TogIs [(-1, 10)] (some 9) := by
  refine ⟨by decide, fun q hq => ?_, fun y hy s => ?_⟩
  · simp only [List.mem_cons, List.not_mem_nil, or_false] at hq
    subst hq
    decide
  · skip
    have h0 : (10 : Int) ∣ y - (-1) := s (-1, 10) (by simp)
    omega
theorem smallI : small [(-1, 10)] := fun q hq => by
  simp only [List.mem_cons, List.not_mem_nil, or_false] at hq
  subst hq
  exact ⟨by decide, by decide +kernel, by decide +kernel⟩
def spLaw (K : PySem.W.Frag) (P1 : Addr) : Sp := fun vs H Q _ => ∃ (a : Addr) (ns : List Int), vs = [.ref a] ∧ SqL K H a (ns.map V.int) ∧ ns.length ≤ 63 ∧ LamX.Tabs [(P1, "_law_refused_right.<locals>.<lambda>")] H ∧ ∀ H', Q (.bl true) H'
theorem ok_law (T : Txt K mg) (B : Caught K mg T.bad.C) {c P1 : Addr} {oc : Value} {od an : Option Addr} {osl : Array (Option Value)} {kV doc pm ct : Value}
    (lk : K.lookup T.a_refused_right = some ⟨oc, od, .func (PySem.W.fnOf "_law_refused_right" "_law_refused_right" (defArgs s_refused_right) (defBody s_refused_right) (defScope s_refused_right) .none kV doc pm an (.ref c) ct), osl⟩) (hcd : PySem.W.codeIn K (.ref c) "_law_refused_right" = true)
    (TB : LamX.TabB base mg c P1) : FnG P w K mg base CX0 12 T.a_law (spLaw K P1) := by
  have OR := ok_refused_right (P := P) (w := w) T B lk hcd ((fun_mk (st := s_refused_right) lk hcd T.F_refused_right.kp).binds (ps := ["_law_pen_here"]) fun _ _ _ _ _ _ us hl => match us, hl with | [_], _ => rfl) TB
  have KR := T.F_refused_right.kp
  have MR := T.m_refused_right
  refine FnG.mk0 T.F_law sc_law (b_law T) (fun vs H Q E h => ?_) (fun cdv A outer s H vs Q E gu hr h => ?_)
  · obtain ⟨a, ns, rfl, _⟩ := h; rfl
  · obtain ⟨a, ns, rfl, hS, hl, hT, k⟩ := h
    refine ⟨_, pss_cons (ps_set (i := 1) sc_law.nd rfl (Or.inl rfl) (pe_call (ok_pen T) (hr.mono (by decide)) rfl T.m_pen T.F_pen.kp (b_pen T) .nil pass0 (pa_cons (pv 0) (pa_nil))))
      (pss_cons (ps_for PassesOwn.never rfl (pi_range1 (by rfl) T.n_range (pa_cons (pe_int) (pa_nil))) (pg_name (i := 2) sc_law.nd rfl (Or.inl rfl)) (pss_cons (ps_set (i := 3) sc_law.nd rfl (Or.inl rfl) (pe_call (ok_pairs T) (hr.mono (by decide)) rfl T.m_pairs T.F_pairs.kp (b_pairs T) .nil pass0 (pa_cons (pv 1) (pa_nil))))
      (pss_one (ps_if (PW.pt (pw_or (pt_cmpR op_ne (pe_callB (call_rep gu hr.units) (by rfl) T.n_repr (by decide +kernel) (pa_cons (pe_call (ok_asked T) (hr.mono (by decide)) rfl T.m_asked T.F_asked.kp (b_asked T) .nil pass0 (pa_cons (pv 3) (pa_nil))) (pa_nil))) (pe_callB (call_rep gu hr.units) (by rfl) T.n_repr (by decide +kernel) (pa_cons (pe_call (ok_due T) (hr.mono (by decide)) rfl T.m_due T.F_due.kp (b_due T) .nil pass0 (pa_cons (pv 3) (pa_nil))) (pa_nil))) (nomark _)) (pw_or1 (pt_not (pt_val (pe_callG gu OR (hr.mono (by decide)) KR rfl MR pass0 (pa_cons (pv 1) (pa_nil)))))))) (pss_one (ps_ret (pe_bl))) (pss_nil)))))
      (pss_cons (ps_set (i := 4) sc_law.nd rfl (Or.inl rfl) (pe_lst (pa_cons (pe_callR (ok_together T) (hr.mono (by decide)) T.F_together.kp rfl T.m_together passL (pa_cons (pe_tup (pa_cons (pe_int) (pa_cons (pe_int) (pa_nil)))) (pa_cons (pe_tup (pa_cons (pe_int) (pa_cons (pe_int) (pa_nil)))) (pa_cons (pe_tup (pa_cons (pe_int) (pa_cons (pe_int) (pa_nil)))) (pa_cons (pe_tup (pa_cons (pe_int) (pa_cons (pe_int) (pa_nil)))) (pa_cons (pe_tup (pa_cons (pe_int) (pa_cons (pe_int) (pa_nil)))) (pa_cons (pe_tup (pa_cons (pe_int) (pa_cons (pe_int) (pa_nil)))) (pa_nil)))))))) (pa_cons (pe_callR (ok_together T) (hr.mono (by decide)) T.F_together.kp rfl T.m_together passL (pa_cons (pe_tup (pa_cons (pe_int) (pa_cons (pe_int) (pa_nil)))) (pa_cons (pe_tup (pa_cons (pe_int) (pa_cons (pe_int) (pa_nil)))) (pa_cons (pe_tup (pa_cons (pe_int) (pa_cons (pe_int) (pa_nil)))) (pa_cons (pe_tup (pa_cons (pe_int) (pa_cons (pe_int) (pa_nil)))) (pa_cons (pe_tup (pa_cons (pe_int) (pa_cons (pe_int) (pa_nil)))) (pa_cons (pe_tup (pa_cons (pe_int) (pa_cons (pe_int) (pa_nil)))) (pa_nil)))))))) (pa_nil)))))
      (pss_cons (ps_set (i := 4) sc_law.nd rfl (Or.inl rfl) (pe_op op_cat (pv 4) (pe_lst (pa_cons (pe_callR (ok_together T) (hr.mono (by decide)) T.F_together.kp rfl T.m_together passL (pa_cons (pe_tup (pa_cons (pe_int) (pa_cons (pe_int) (pa_nil)))) (pa_cons (pe_tup (pa_cons (pe_int) (pa_cons (pe_int) (pa_nil)))) (pa_cons (pe_tup (pa_cons (pe_int) (pa_cons (pe_int) (pa_nil)))) (pa_cons (pe_tup (pa_cons (pe_int) (pa_cons (pe_int) (pa_nil)))) (pa_cons (pe_tup (pa_cons (pe_int) (pa_cons (pe_int) (pa_nil)))) (pa_cons (pe_tup (pa_cons (pe_int) (pa_cons (pe_int) (pa_nil)))) (pa_nil)))))))) (pa_cons (pe_callR (ok_together T) (hr.mono (by decide)) T.F_together.kp rfl T.m_together passL (pa_cons (pe_tup (pa_cons (pe_int) (pa_cons (pe_int) (pa_nil)))) (pa_cons (pe_tup (pa_cons (pe_int) (pa_cons (pe_int) (pa_nil)))) (pa_cons (pe_tup (pa_cons (pe_int) (pa_cons (pe_int) (pa_nil)))) (pa_cons (pe_tup (pa_cons (pe_int) (pa_cons (pe_int) (pa_nil)))) (pa_cons (pe_tup (pa_cons (pe_int) (pa_cons (pe_int) (pa_nil)))) (pa_nil))))))) (pa_nil))))))
      (pss_cons (ps_if (pt_cmpR (op_neD hr.units) (pv 4) (pe_lst (pa_cons (pe_int) (pa_cons (pe_int) (pa_cons (pe_non) (pa_cons (pe_int) (pa_nil)))))) (nomark _)) (pss_one (ps_ret (pe_bl))) (pss_nil))
      (pss_cons (ps_set (i := 5) sc_law.nd rfl (Or.inl rfl) (pe_lst (pa_cons (pe_callR (ok_together T) (hr.mono (by decide)) T.F_together.kp rfl T.m_together passL (pa_cons (pe_tup (pa_cons (pe_int) (pa_cons (pe_int) (pa_nil)))) (pa_cons (pe_tup (pa_cons (pe_int) (pa_cons (pe_int) (pa_nil)))) (pa_cons (pe_tup (pa_cons (pe_int) (pa_cons (pe_int) (pa_nil)))) (pa_nil))))) (pa_cons (pe_callR (ok_together T) (hr.mono (by decide)) T.F_together.kp rfl T.m_together passL (pa_cons (pe_tup (pa_cons (pe_int) (pa_cons (pe_int) (pa_nil)))) (pa_cons (pe_tup (pa_cons (pe_int) (pa_cons (pe_int) (pa_nil)))) (pa_nil)))) (pa_cons (pe_callR (ok_together T) (hr.mono (by decide)) T.F_together.kp rfl T.m_together passL (pa_cons (pe_tup (pa_cons (pe_int) (pa_cons (pe_int) (pa_nil)))) (pa_cons (pe_tup (pa_cons (pe_int) (pa_cons (pe_int) (pa_nil)))) (pa_nil)))) (pa_cons (pe_callR (ok_together T) (hr.mono (by decide)) T.F_together.kp rfl T.m_together passL (pa_cons (pe_tup (pa_cons (pe_un un_neg (pe_int)) (pa_cons (pe_int) (pa_nil)))) (pa_nil))) (pa_nil)))))))
      (pss_one (ps_ret (pe_cmpR (op_eqD hr.units) (pv 5) (pe_lst (pa_cons (pe_int) (pa_cons (pe_int) (pa_cons (pe_non) (pa_cons (pe_int) (pa_nil)))))) (nomark _))))))))), ?_⟩
    refine ⟨_, rfl, a, ns, rfl, hS, hl, fun p H1 s1 hP => ?_⟩
    refine ⟨12, rfl, by decide, by decide, for_range (n := 12) (fun i σ H' => ∃ x2 x3 x4 x5 : Option V, σ = [some (.ref a), some (.ref p), x2, x3, x4, x5] ∧ Pen H' p (22 * i) ∧ LamX.Tabs [(P1, "_law_refused_right.<locals>.<lambda>")] H')
      ⟨_, _, _, _, rfl, hP, hT.ext s1⟩ ?_ ?_⟩
    · rintro i σ H2 hi ⟨x2, x3, x4, x5, rfl, hP2, hT2⟩
      refine ⟨_, rfl, p, _, rfl, hP2, by omega, fun l ps H3 hL hlen ht hP3 f3 => ?_⟩
      have hT3 := tabs_fr f3 hP2 hT2
      refine ⟨_, rfl, l, ps, rfl, hL, hlen, ht.small, fun o H4 s4 ho => ?_⟩
      obtain ⟨o1, o2, o3⟩ := oD_ok ho ht
      refine ⟨oV o, oD o, rfl, oD_dq o, o1, o2, o3, ?_⟩
      refine ⟨_, rfl, l, ps, rfl, partsAt_same s4 hL, hlen, ht, fun o' H5 s5 ho' => ?_⟩
      have eo := ho.uniq ho'
      subst eo
      refine ⟨oV o, oD o, rfl, oD_dq o, o1, o2, o3, rfl, ?_⟩
      have hP5 := (hP3.same s4).same s5
      have hT5 := (hT3.ext s4).ext s5
      refine ⟨_, rfl, if_false_of (by simp) ?_⟩
      refine ⟨_, rfl, p, 22 * i + 20, rfl, hP5, by omega, hT5, fun H6 hP6 hT6 => ⟨true, rfl, iteF ?_⟩⟩
      exact ⟨_, _, _, _, rfl, hP6.mono (by omega), hT6⟩
    · rintro σ H2 ⟨x2, x3, x4, x5, rfl, hP2, hT2⟩
      refine ⟨(by show 2 ≤ sizeLine; decide), fun c0_0 k0_0 => ?_⟩
      have zk0_0 := same_new (o := .tup [V.int (1), V.int 2]) k0_0
      have p0_1 : Parts (upd H2 c0_0 (.tup [V.int (1), V.int 2])) [V.ref c0_0] [(1, 2)] := .cons upd_same .nil
      generalize upd H2 c0_0 (.tup [V.int (1), V.int 2]) = J0_0 at zk0_0 p0_1  ⊢
      refine ⟨(by show 2 ≤ sizeLine; decide), fun c0_1 k0_1 => ?_⟩
      have zk0_1 := same_new (o := .tup [V.int (2), V.int 3]) k0_1
      have p0_2 : Parts (upd J0_0 c0_1 (.tup [V.int (2), V.int 3])) [V.ref c0_0, V.ref c0_1] [(1, 2), (2, 3)] := (p0_1.same zk0_1).snoc upd_same
      generalize upd J0_0 c0_1 (.tup [V.int (2), V.int 3]) = J0_1 at zk0_1 p0_2  ⊢
      refine ⟨(by show 2 ≤ sizeLine; decide), fun c0_2 k0_2 => ?_⟩
      have zk0_2 := same_new (o := .tup [V.int (3), V.int 4]) k0_2
      have p0_3 : Parts (upd J0_1 c0_2 (.tup [V.int (3), V.int 4])) [V.ref c0_0, V.ref c0_1, V.ref c0_2] [(1, 2), (2, 3), (3, 4)] := (p0_2.same zk0_2).snoc upd_same
      generalize upd J0_1 c0_2 (.tup [V.int (3), V.int 4]) = J0_2 at zk0_2 p0_3  ⊢
      refine ⟨(by show 2 ≤ sizeLine; decide), fun c0_3 k0_3 => ?_⟩
      have zk0_3 := same_new (o := .tup [V.int (4), V.int 5]) k0_3
      have p0_4 : Parts (upd J0_2 c0_3 (.tup [V.int (4), V.int 5])) [V.ref c0_0, V.ref c0_1, V.ref c0_2, V.ref c0_3] [(1, 2), (2, 3), (3, 4), (4, 5)] := (p0_3.same zk0_3).snoc upd_same
      generalize upd J0_2 c0_3 (.tup [V.int (4), V.int 5]) = J0_3 at zk0_3 p0_4  ⊢
      refine ⟨(by show 2 ≤ sizeLine; decide), fun c0_4 k0_4 => ?_⟩
      have zk0_4 := same_new (o := .tup [V.int (5), V.int 6]) k0_4
      have p0_5 : Parts (upd J0_3 c0_4 (.tup [V.int (5), V.int 6])) [V.ref c0_0, V.ref c0_1, V.ref c0_2, V.ref c0_3, V.ref c0_4] [(1, 2), (2, 3), (3, 4), (4, 5), (5, 6)] := (p0_4.same zk0_4).snoc upd_same
      generalize upd J0_3 c0_4 (.tup [V.int (5), V.int 6]) = J0_4 at zk0_4 p0_5  ⊢
      refine ⟨(by show 2 ≤ sizeLine; decide), fun c0_5 k0_5 => ?_⟩
      have zk0_5 := same_new (o := .tup [V.int (3), V.int 7]) k0_5
      have p0_6 : Parts (upd J0_4 c0_5 (.tup [V.int (3), V.int 7])) [V.ref c0_0, V.ref c0_1, V.ref c0_2, V.ref c0_3, V.ref c0_4, V.ref c0_5] [(1, 2), (2, 3), (3, 4), (4, 5), (5, 6), (3, 7)] := (p0_5.same zk0_5).snoc upd_same
      generalize upd J0_4 c0_5 (.tup [V.int (3), V.int 7]) = J0_5 at zk0_5 p0_6  ⊢
      refine ⟨(by show 6 ≤ sizeLine; decide), .inl ⟨_, p0_6, (by decide), smallA, fun o0 W0 w0 ho0 => ?_⟩⟩
      have eo0 := ho0.uniq togA
      subst eo0
      refine ⟨(by show 2 ≤ sizeLine; decide), fun c1_0 k1_0 => ?_⟩
      have zk1_0 := same_new (o := .tup [V.int (1), V.int 2]) k1_0
      have p1_1 : Parts (upd W0 c1_0 (.tup [V.int (1), V.int 2])) [V.ref c1_0] [(1, 2)] := .cons upd_same .nil
      generalize upd W0 c1_0 (.tup [V.int (1), V.int 2]) = J1_0 at zk1_0 p1_1  ⊢
      refine ⟨(by show 2 ≤ sizeLine; decide), fun c1_1 k1_1 => ?_⟩
      have zk1_1 := same_new (o := .tup [V.int (2), V.int 3]) k1_1
      have p1_2 : Parts (upd J1_0 c1_1 (.tup [V.int (2), V.int 3])) [V.ref c1_0, V.ref c1_1] [(1, 2), (2, 3)] := (p1_1.same zk1_1).snoc upd_same
      generalize upd J1_0 c1_1 (.tup [V.int (2), V.int 3]) = J1_1 at zk1_1 p1_2  ⊢
      refine ⟨(by show 2 ≤ sizeLine; decide), fun c1_2 k1_2 => ?_⟩
      have zk1_2 := same_new (o := .tup [V.int (3), V.int 4]) k1_2
      have p1_3 : Parts (upd J1_1 c1_2 (.tup [V.int (3), V.int 4])) [V.ref c1_0, V.ref c1_1, V.ref c1_2] [(1, 2), (2, 3), (3, 4)] := (p1_2.same zk1_2).snoc upd_same
      generalize upd J1_1 c1_2 (.tup [V.int (3), V.int 4]) = J1_2 at zk1_2 p1_3  ⊢
      refine ⟨(by show 2 ≤ sizeLine; decide), fun c1_3 k1_3 => ?_⟩
      have zk1_3 := same_new (o := .tup [V.int (4), V.int 5]) k1_3
      have p1_4 : Parts (upd J1_2 c1_3 (.tup [V.int (4), V.int 5])) [V.ref c1_0, V.ref c1_1, V.ref c1_2, V.ref c1_3] [(1, 2), (2, 3), (3, 4), (4, 5)] := (p1_3.same zk1_3).snoc upd_same
      generalize upd J1_2 c1_3 (.tup [V.int (4), V.int 5]) = J1_3 at zk1_3 p1_4  ⊢
      refine ⟨(by show 2 ≤ sizeLine; decide), fun c1_4 k1_4 => ?_⟩
      have zk1_4 := same_new (o := .tup [V.int (5), V.int 6]) k1_4
      have p1_5 : Parts (upd J1_3 c1_4 (.tup [V.int (5), V.int 6])) [V.ref c1_0, V.ref c1_1, V.ref c1_2, V.ref c1_3, V.ref c1_4] [(1, 2), (2, 3), (3, 4), (4, 5), (5, 6)] := (p1_4.same zk1_4).snoc upd_same
      generalize upd J1_3 c1_4 (.tup [V.int (5), V.int 6]) = J1_4 at zk1_4 p1_5  ⊢
      refine ⟨(by show 2 ≤ sizeLine; decide), fun c1_5 k1_5 => ?_⟩
      have zk1_5 := same_new (o := .tup [V.int (4), V.int 7]) k1_5
      have p1_6 : Parts (upd J1_4 c1_5 (.tup [V.int (4), V.int 7])) [V.ref c1_0, V.ref c1_1, V.ref c1_2, V.ref c1_3, V.ref c1_4, V.ref c1_5] [(1, 2), (2, 3), (3, 4), (4, 5), (5, 6), (4, 7)] := (p1_5.same zk1_5).snoc upd_same
      generalize upd J1_4 c1_5 (.tup [V.int (4), V.int 7]) = J1_5 at zk1_5 p1_6  ⊢
      refine ⟨(by show 6 ≤ sizeLine; decide), .inl ⟨_, p1_6, (by decide), smallB, fun o1 W1 w1 ho1 => ?_⟩⟩
      have eo1 := ho1.uniq togB
      subst eo1
      refine ⟨(by show 2 ≤ sizeLine; decide), fun L1 hL1 => ?_⟩
      have zL1 := same_new (o := .lst [oV (some 59), oV (some 179)]) hL1
      have eL1 : (upd W1 L1 (.lst [oV (some 59), oV (some 179)])) L1 = some (.lst [V.int 59, V.int 179]) := upd_same
      generalize upd W1 L1 (.lst [oV (some 59), oV (some 179)]) = XL1 at zL1 eL1  ⊢
      refine ⟨_, rfl, ?_⟩
      refine ⟨(by show 2 ≤ sizeLine; decide), fun c2_0 k2_0 => ?_⟩
      have zk2_0 := same_new (o := .tup [V.int (1), V.int 2]) k2_0
      have p2_1 : Parts (upd XL1 c2_0 (.tup [V.int (1), V.int 2])) [V.ref c2_0] [(1, 2)] := .cons upd_same .nil
      have eL1 := zk2_0 _ _ eL1
      generalize upd XL1 c2_0 (.tup [V.int (1), V.int 2]) = J2_0 at zk2_0 p2_1 eL1 ⊢
      refine ⟨(by show 2 ≤ sizeLine; decide), fun c2_1 k2_1 => ?_⟩
      have zk2_1 := same_new (o := .tup [V.int (2), V.int 3]) k2_1
      have p2_2 : Parts (upd J2_0 c2_1 (.tup [V.int (2), V.int 3])) [V.ref c2_0, V.ref c2_1] [(1, 2), (2, 3)] := (p2_1.same zk2_1).snoc upd_same
      have eL1 := zk2_1 _ _ eL1
      generalize upd J2_0 c2_1 (.tup [V.int (2), V.int 3]) = J2_1 at zk2_1 p2_2 eL1 ⊢
      refine ⟨(by show 2 ≤ sizeLine; decide), fun c2_2 k2_2 => ?_⟩
      have zk2_2 := same_new (o := .tup [V.int (3), V.int 4]) k2_2
      have p2_3 : Parts (upd J2_1 c2_2 (.tup [V.int (3), V.int 4])) [V.ref c2_0, V.ref c2_1, V.ref c2_2] [(1, 2), (2, 3), (3, 4)] := (p2_2.same zk2_2).snoc upd_same
      have eL1 := zk2_2 _ _ eL1
      generalize upd J2_1 c2_2 (.tup [V.int (3), V.int 4]) = J2_2 at zk2_2 p2_3 eL1 ⊢
      refine ⟨(by show 2 ≤ sizeLine; decide), fun c2_3 k2_3 => ?_⟩
      have zk2_3 := same_new (o := .tup [V.int (4), V.int 5]) k2_3
      have p2_4 : Parts (upd J2_2 c2_3 (.tup [V.int (4), V.int 5])) [V.ref c2_0, V.ref c2_1, V.ref c2_2, V.ref c2_3] [(1, 2), (2, 3), (3, 4), (4, 5)] := (p2_3.same zk2_3).snoc upd_same
      have eL1 := zk2_3 _ _ eL1
      generalize upd J2_2 c2_3 (.tup [V.int (4), V.int 5]) = J2_3 at zk2_3 p2_4 eL1 ⊢
      refine ⟨(by show 2 ≤ sizeLine; decide), fun c2_4 k2_4 => ?_⟩
      have zk2_4 := same_new (o := .tup [V.int (6), V.int 6]) k2_4
      have p2_5 : Parts (upd J2_3 c2_4 (.tup [V.int (6), V.int 6])) [V.ref c2_0, V.ref c2_1, V.ref c2_2, V.ref c2_3, V.ref c2_4] [(1, 2), (2, 3), (3, 4), (4, 5), (6, 6)] := (p2_4.same zk2_4).snoc upd_same
      have eL1 := zk2_4 _ _ eL1
      generalize upd J2_3 c2_4 (.tup [V.int (6), V.int 6]) = J2_4 at zk2_4 p2_5 eL1 ⊢
      refine ⟨(by show 2 ≤ sizeLine; decide), fun c2_5 k2_5 => ?_⟩
      have zk2_5 := same_new (o := .tup [V.int (3), V.int 7]) k2_5
      have p2_6 : Parts (upd J2_4 c2_5 (.tup [V.int (3), V.int 7])) [V.ref c2_0, V.ref c2_1, V.ref c2_2, V.ref c2_3, V.ref c2_4, V.ref c2_5] [(1, 2), (2, 3), (3, 4), (4, 5), (6, 6), (3, 7)] := (p2_5.same zk2_5).snoc upd_same
      have eL1 := zk2_5 _ _ eL1
      generalize upd J2_4 c2_5 (.tup [V.int (3), V.int 7]) = J2_5 at zk2_5 p2_6 eL1 ⊢
      refine ⟨(by show 6 ≤ sizeLine; decide), .inl ⟨_, p2_6, (by decide), smallC, fun o2 W2 w2 ho2 => ?_⟩⟩
      have eo2 := ho2.uniq togC
      subst eo2
      have eL1 := w2 _ _ eL1
      refine ⟨(by show 2 ≤ sizeLine; decide), fun c3_0 k3_0 => ?_⟩
      have zk3_0 := same_new (o := .tup [V.int (0), V.int 1]) k3_0
      have p3_1 : Parts (upd W2 c3_0 (.tup [V.int (0), V.int 1])) [V.ref c3_0] [(0, 1)] := .cons upd_same .nil
      have eL1 := zk3_0 _ _ eL1
      generalize upd W2 c3_0 (.tup [V.int (0), V.int 1]) = J3_0 at zk3_0 p3_1 eL1 ⊢
      refine ⟨(by show 2 ≤ sizeLine; decide), fun c3_1 k3_1 => ?_⟩
      have zk3_1 := same_new (o := .tup [V.int (0), V.int 1]) k3_1
      have p3_2 : Parts (upd J3_0 c3_1 (.tup [V.int (0), V.int 1])) [V.ref c3_0, V.ref c3_1] [(0, 1), (0, 1)] := (p3_1.same zk3_1).snoc upd_same
      have eL1 := zk3_1 _ _ eL1
      generalize upd J3_0 c3_1 (.tup [V.int (0), V.int 1]) = J3_1 at zk3_1 p3_2 eL1 ⊢
      refine ⟨(by show 2 ≤ sizeLine; decide), fun c3_2 k3_2 => ?_⟩
      have zk3_2 := same_new (o := .tup [V.int (0), V.int 1]) k3_2
      have p3_3 : Parts (upd J3_1 c3_2 (.tup [V.int (0), V.int 1])) [V.ref c3_0, V.ref c3_1, V.ref c3_2] [(0, 1), (0, 1), (0, 1)] := (p3_2.same zk3_2).snoc upd_same
      have eL1 := zk3_2 _ _ eL1
      generalize upd J3_1 c3_2 (.tup [V.int (0), V.int 1]) = J3_2 at zk3_2 p3_3 eL1 ⊢
      refine ⟨(by show 2 ≤ sizeLine; decide), fun c3_3 k3_3 => ?_⟩
      have zk3_3 := same_new (o := .tup [V.int (0), V.int 1]) k3_3
      have p3_4 : Parts (upd J3_2 c3_3 (.tup [V.int (0), V.int 1])) [V.ref c3_0, V.ref c3_1, V.ref c3_2, V.ref c3_3] [(0, 1), (0, 1), (0, 1), (0, 1)] := (p3_3.same zk3_3).snoc upd_same
      have eL1 := zk3_3 _ _ eL1
      generalize upd J3_2 c3_3 (.tup [V.int (0), V.int 1]) = J3_3 at zk3_3 p3_4 eL1 ⊢
      refine ⟨(by show 2 ≤ sizeLine; decide), fun c3_4 k3_4 => ?_⟩
      have zk3_4 := same_new (o := .tup [V.int (7), V.int 9]) k3_4
      have p3_5 : Parts (upd J3_3 c3_4 (.tup [V.int (7), V.int 9])) [V.ref c3_0, V.ref c3_1, V.ref c3_2, V.ref c3_3, V.ref c3_4] [(0, 1), (0, 1), (0, 1), (0, 1), (7, 9)] := (p3_4.same zk3_4).snoc upd_same
      have eL1 := zk3_4 _ _ eL1
      generalize upd J3_3 c3_4 (.tup [V.int (7), V.int 9]) = J3_4 at zk3_4 p3_5 eL1 ⊢
      refine ⟨(by show 5 ≤ sizeLine; decide), .inl ⟨_, p3_5, (by decide), smallD, fun o3 W3 w3 ho3 => ?_⟩⟩
      have eo3 := ho3.uniq togD
      subst eo3
      have eL1 := w3 _ _ eL1
      refine ⟨(by show 2 ≤ sizeLine; decide), fun L2 hL2 => ?_⟩
      have zL2 := same_new (o := .lst [oV Option.none, oV (some 7)]) hL2
      have eL1 := zL2 _ _ eL1
      have eL2 : (upd W3 L2 (.lst [oV Option.none, oV (some 7)])) L2 = some (.lst [V.non, V.int 7]) := upd_same
      generalize upd W3 L2 (.lst [oV Option.none, oV (some 7)]) = XL2 at zL2 eL2 eL1 ⊢
      refine ⟨L1, L2, _, _, rfl, rfl, eL1, eL2, (by show 2 + 2 ≤ sizeLine; decide), fun L3 hL3 => ?_⟩
      have eL3 : (upd XL2 L3 (.lst ([V.int 59, V.int 179] ++ [V.non, V.int 7]))) L3 = some (.lst [V.int 59, V.int 179, V.non, V.int 7]) := upd_same
      generalize upd XL2 L3 (.lst ([V.int 59, V.int 179] ++ [V.non, V.int 7])) = XL3 at eL3 ⊢
      refine ⟨_, rfl, ?_⟩
      refine ⟨(by show 4 ≤ sizeLine; decide), fun L4 hL4 => ?_⟩
      have zL4 := same_new (o := .lst [V.int 59, V.int 179, V.non, V.int 7]) hL4
      have eL3 := zL4 _ _ eL3
      have eL4 : (upd XL3 L4 (.lst [V.int 59, V.int 179, V.non, V.int 7])) L4 = some (.lst [V.int 59, V.int 179, V.non, V.int 7]) := upd_same
      generalize upd XL3 L4 (.lst [V.int 59, V.int 179, V.non, V.int 7]) = XL4 at zL4 eL4 eL3 ⊢
      refine ⟨(.list [.int 59, .int 179, .none, .int 7]), (.list [.int 59, .int 179, .none, .int 7]), .lst (SqL.of eL3) (.cons (.int _) (.cons (.int _) (.cons .non (.cons (.int _) .nil)))), .lst (SqL.of eL4) (.cons (.int _) (.cons (.int _) (.cons .non (.cons (.int _) .nil)))), by decide +kernel, by decide +kernel, ?_⟩
      refine ⟨_, rfl, if_false_of (by decide +kernel) ?_⟩
      refine ⟨(by show 2 ≤ sizeLine; decide), fun c4_0 k4_0 => ?_⟩
      have zk4_0 := same_new (o := .tup [V.int (2), V.int 3]) k4_0
      have p4_1 : Parts (upd XL4 c4_0 (.tup [V.int (2), V.int 3])) [V.ref c4_0] [(2, 3)] := .cons upd_same .nil
      generalize upd XL4 c4_0 (.tup [V.int (2), V.int 3]) = J4_0 at zk4_0 p4_1  ⊢
      refine ⟨(by show 2 ≤ sizeLine; decide), fun c4_1 k4_1 => ?_⟩
      have zk4_1 := same_new (o := .tup [V.int (3), V.int 5]) k4_1
      have p4_2 : Parts (upd J4_0 c4_1 (.tup [V.int (3), V.int 5])) [V.ref c4_0, V.ref c4_1] [(2, 3), (3, 5)] := (p4_1.same zk4_1).snoc upd_same
      generalize upd J4_0 c4_1 (.tup [V.int (3), V.int 5]) = J4_1 at zk4_1 p4_2  ⊢
      refine ⟨(by show 2 ≤ sizeLine; decide), fun c4_2 k4_2 => ?_⟩
      have zk4_2 := same_new (o := .tup [V.int (2), V.int 7]) k4_2
      have p4_3 : Parts (upd J4_1 c4_2 (.tup [V.int (2), V.int 7])) [V.ref c4_0, V.ref c4_1, V.ref c4_2] [(2, 3), (3, 5), (2, 7)] := (p4_2.same zk4_2).snoc upd_same
      generalize upd J4_1 c4_2 (.tup [V.int (2), V.int 7]) = J4_2 at zk4_2 p4_3  ⊢
      refine ⟨(by show 3 ≤ sizeLine; decide), .inl ⟨_, p4_3, (by decide), smallE, fun o4 W4 w4 ho4 => ?_⟩⟩
      have eo4 := ho4.uniq togE
      subst eo4
      refine ⟨(by show 2 ≤ sizeLine; decide), fun c5_0 k5_0 => ?_⟩
      have zk5_0 := same_new (o := .tup [V.int (1), V.int 4]) k5_0
      have p5_1 : Parts (upd W4 c5_0 (.tup [V.int (1), V.int 4])) [V.ref c5_0] [(1, 4)] := .cons upd_same .nil
      generalize upd W4 c5_0 (.tup [V.int (1), V.int 4]) = J5_0 at zk5_0 p5_1  ⊢
      refine ⟨(by show 2 ≤ sizeLine; decide), fun c5_1 k5_1 => ?_⟩
      have zk5_1 := same_new (o := .tup [V.int (3), V.int 6]) k5_1
      have p5_2 : Parts (upd J5_0 c5_1 (.tup [V.int (3), V.int 6])) [V.ref c5_0, V.ref c5_1] [(1, 4), (3, 6)] := (p5_1.same zk5_1).snoc upd_same
      generalize upd J5_0 c5_1 (.tup [V.int (3), V.int 6]) = J5_1 at zk5_1 p5_2  ⊢
      refine ⟨(by show 2 ≤ sizeLine; decide), .inl ⟨_, p5_2, (by decide), smallF, fun o5 W5 w5 ho5 => ?_⟩⟩
      have eo5 := ho5.uniq togF
      subst eo5
      refine ⟨(by show 2 ≤ sizeLine; decide), fun c6_0 k6_0 => ?_⟩
      have zk6_0 := same_new (o := .tup [V.int (1), V.int 4]) k6_0
      have p6_1 : Parts (upd W5 c6_0 (.tup [V.int (1), V.int 4])) [V.ref c6_0] [(1, 4)] := .cons upd_same .nil
      generalize upd W5 c6_0 (.tup [V.int (1), V.int 4]) = J6_0 at zk6_0 p6_1  ⊢
      refine ⟨(by show 2 ≤ sizeLine; decide), fun c6_1 k6_1 => ?_⟩
      have zk6_1 := same_new (o := .tup [V.int (2), V.int 6]) k6_1
      have p6_2 : Parts (upd J6_0 c6_1 (.tup [V.int (2), V.int 6])) [V.ref c6_0, V.ref c6_1] [(1, 4), (2, 6)] := (p6_1.same zk6_1).snoc upd_same
      generalize upd J6_0 c6_1 (.tup [V.int (2), V.int 6]) = J6_1 at zk6_1 p6_2  ⊢
      refine ⟨(by show 2 ≤ sizeLine; decide), .inl ⟨_, p6_2, (by decide), smallG, fun o6 W6 w6 ho6 => ?_⟩⟩
      have eo6 := ho6.uniq togG
      subst eo6
      refine ⟨1, rfl, (by show 2 ≤ sizeLine; decide), fun c7_0 k7_0 => ?_⟩
      have zk7_0 := same_new (o := .tup [V.int (-1), V.int 10]) k7_0
      have p7_1 : Parts (upd W6 c7_0 (.tup [V.int (-1), V.int 10])) [V.ref c7_0] [(-1, 10)] := .cons upd_same .nil
      generalize upd W6 c7_0 (.tup [V.int (-1), V.int 10]) = J7_0 at zk7_0 p7_1  ⊢
      refine ⟨(by show 1 ≤ sizeLine; decide), .inl ⟨_, p7_1, (by decide), smallI, fun o7 W7 w7 ho7 => ?_⟩⟩
      have eo7 := ho7.uniq togI
      subst eo7
      refine ⟨(by show 4 ≤ sizeLine; decide), fun L5 hL5 => ?_⟩
      have zL5 := same_new (o := .lst [oV (some 23), oV (some 9), oV Option.none, oV (some 9)]) hL5
      have eL5 : (upd W7 L5 (.lst [oV (some 23), oV (some 9), oV Option.none, oV (some 9)])) L5 = some (.lst [V.int 23, V.int 9, V.non, V.int 9]) := upd_same
      generalize upd W7 L5 (.lst [oV (some 23), oV (some 9), oV Option.none, oV (some 9)]) = XL5 at zL5 eL5  ⊢
      refine ⟨_, rfl, ?_⟩
      refine ⟨(by show 4 ≤ sizeLine; decide), fun L6 hL6 => ?_⟩
      have zL6 := same_new (o := .lst [V.int 23, V.int 9, V.non, V.int 9]) hL6
      have eL5 := zL6 _ _ eL5
      have eL6 : (upd XL5 L6 (.lst [V.int 23, V.int 9, V.non, V.int 9])) L6 = some (.lst [V.int 23, V.int 9, V.non, V.int 9]) := upd_same
      generalize upd XL5 L6 (.lst [V.int 23, V.int 9, V.non, V.int 9]) = XL6 at zL6 eL6 eL5 ⊢
      refine ⟨(.list [.int 23, .int 9, .none, .int 9]), (.list [.int 23, .int 9, .none, .int 9]), .lst (SqL.of eL5) (.cons (.int _) (.cons (.int _) (.cons .non (.cons (.int _) .nil)))), .lst (SqL.of eL6) (.cons (.int _) (.cons (.int _) (.cons .non (.cons (.int _) .nil)))), by decide +kernel, by decide +kernel, ?_⟩
      exact k _


end
theorem all_mk {l : PySem.W.OpenLaw} {w : World} {K : PySem.W.Frag} {h : Heap} {mg : Str → Option Value} {fa : Addr} (X : K.In h) (G : h.Ns mainGlobals mg) (hfa : mg "law" = some (.ref fa)) (tabs : ∀ x ∈ (["_law_refused_right"] : List Str), TabOf K mg h x)
    {f_is_whole : Addr} {od_is_whole an_is_whole : Option Addr} {sl_is_whole : Array (Option Value)} {oc_is_whole kV_is_whole dc_is_whole pm_is_whole cd_is_whole ct_is_whole : Value}
    {f_is_from : Addr} {od_is_from an_is_from : Option Addr} {sl_is_from : Array (Option Value)} {oc_is_from kV_is_from dc_is_from pm_is_from cd_is_from ct_is_from : Value}
    {f_is_part : Addr} {od_is_part an_is_part : Option Addr} {sl_is_part : Array (Option Value)} {oc_is_part kV_is_part dc_is_part pm_is_part cd_is_part ct_is_part : Value}
    {f_together : Addr} {od_together an_together : Option Addr} {sl_together : Array (Option Value)} {oc_together kV_together dc_together pm_together cd_together ct_together : Value}
    {f_inverse : Addr} {od_inverse an_inverse : Option Addr} {sl_inverse : Array (Option Value)} {oc_inverse kV_inverse dc_inverse pm_inverse cd_inverse ct_inverse : Value}
    {f_pen : Addr} {od_pen an_pen : Option Addr} {sl_pen : Array (Option Value)} {oc_pen kV_pen dc_pen pm_pen cd_pen ct_pen : Value}
    {f_draw : Addr} {od_draw an_draw : Option Addr} {sl_draw : Array (Option Value)} {oc_draw kV_draw dc_draw pm_draw cd_draw ct_draw : Value}
    {f_pick : Addr} {od_pick an_pick : Option Addr} {sl_pick : Array (Option Value)} {oc_pick kV_pick dc_pick pm_pick cd_pick ct_pick : Value}
    {f_heard : Addr} {od_heard an_heard : Option Addr} {sl_heard : Array (Option Value)} {oc_heard kV_heard dc_heard pm_heard cd_heard ct_heard : Value}
    {f_asked : Addr} {od_asked an_asked : Option Addr} {sl_asked : Array (Option Value)} {oc_asked kV_asked dc_asked pm_asked cd_asked ct_asked : Value}
    {f_due : Addr} {od_due an_due : Option Addr} {sl_due : Array (Option Value)} {oc_due kV_due dc_due pm_due cd_due ct_due : Value}
    {f_pairs : Addr} {od_pairs an_pairs : Option Addr} {sl_pairs : Array (Option Value)} {oc_pairs kV_pairs dc_pairs pm_pairs cd_pairs ct_pairs : Value}
    {f_refused_right : Addr} {od_refused_right an_refused_right : Option Addr} {sl_refused_right : Array (Option Value)} {oc_refused_right kV_refused_right dc_refused_right pm_refused_right ct_refused_right : Value}
    {f_law : Addr} {od_law an_law : Option Addr} {sl_law : Array (Option Value)} {oc_law kV_law dc_law pm_law cd_law ct_law : Value}
    {f_BadNumber_init : Addr} {od_BadNumber_init an_BadNumber_init : Option Addr} {sl_BadNumber_init : Array (Option Value)} {oc_BadNumber_init kV_BadNumber_init dc_BadNumber_init pm_BadNumber_init cd_BadNumber_init ct_BadNumber_init : Value}
    {C_BadNumber C_ReachError : Addr} {nmb qb : Str} {Nb : Addr} {bsb bmb : List Value} {snb : List Str} {subb : List Value} {abb : Bool} {colb : Option Bool} {ddb : Option Addr} {mb0 mb1 mb2 mb3 mb5 : Option Value}
    {cc_refused_right pp_refused_right : Addr} {e_refused_right : Value} {dd_refused_right : Option Addr} {vs_refused_right : Array Value} {sl2_refused_right : Array (Option Value)}
    (a_is_whole : PySem.W.nsIn K mainGlobals "is_whole" = some (some (.ref f_is_whole)))
    (l_is_whole : K.lookup f_is_whole = some ⟨oc_is_whole, od_is_whole, .func (PySem.W.fnOf "is_whole" "is_whole" (defArgs s_is_whole) (defBody s_is_whole) (defScope s_is_whole) .none kV_is_whole dc_is_whole pm_is_whole an_is_whole cd_is_whole ct_is_whole), sl_is_whole⟩)
    (c_is_whole : PySem.W.codeIn K cd_is_whole "is_whole" = true)
    (k_is_whole : PySem.W.keepIn K (.ref f_is_whole) = true)
    (a_is_from : PySem.W.nsIn K mainGlobals "is_from" = some (some (.ref f_is_from)))
    (l_is_from : K.lookup f_is_from = some ⟨oc_is_from, od_is_from, .func (PySem.W.fnOf "is_from" "is_from" (defArgs s_is_from) (defBody s_is_from) (defScope s_is_from) .none kV_is_from dc_is_from pm_is_from an_is_from cd_is_from ct_is_from), sl_is_from⟩)
    (c_is_from : PySem.W.codeIn K cd_is_from "is_from" = true)
    (k_is_from : PySem.W.keepIn K (.ref f_is_from) = true)
    (a_is_part : PySem.W.nsIn K mainGlobals "is_part" = some (some (.ref f_is_part)))
    (l_is_part : K.lookup f_is_part = some ⟨oc_is_part, od_is_part, .func (PySem.W.fnOf "is_part" "is_part" (defArgs s_is_part) (defBody s_is_part) (defScope s_is_part) .none kV_is_part dc_is_part pm_is_part an_is_part cd_is_part ct_is_part), sl_is_part⟩)
    (c_is_part : PySem.W.codeIn K cd_is_part "is_part" = true)
    (k_is_part : PySem.W.keepIn K (.ref f_is_part) = true)
    (a_together : PySem.W.nsIn K mainGlobals "together" = some (some (.ref f_together)))
    (l_together : K.lookup f_together = some ⟨oc_together, od_together, .func (PySem.W.fnOf "together" "together" (defArgs s_together) (defBody s_together) (defScope s_together) .none kV_together dc_together pm_together an_together cd_together ct_together), sl_together⟩)
    (c_together : PySem.W.codeIn K cd_together "together" = true)
    (k_together : PySem.W.keepIn K (.ref f_together) = true)
    (a_inverse : PySem.W.nsIn K mainGlobals "inverse" = some (some (.ref f_inverse)))
    (l_inverse : K.lookup f_inverse = some ⟨oc_inverse, od_inverse, .func (PySem.W.fnOf "inverse" "inverse" (defArgs s_inverse) (defBody s_inverse) (defScope s_inverse) .none kV_inverse dc_inverse pm_inverse an_inverse cd_inverse ct_inverse), sl_inverse⟩)
    (c_inverse : PySem.W.codeIn K cd_inverse "inverse" = true)
    (k_inverse : PySem.W.keepIn K (.ref f_inverse) = true)
    (a_pen : PySem.W.nsIn K mainGlobals "_law_pen" = some (some (.ref f_pen)))
    (l_pen : K.lookup f_pen = some ⟨oc_pen, od_pen, .func (PySem.W.fnOf "_law_pen" "_law_pen" (defArgs s_pen) (defBody s_pen) (defScope s_pen) .none kV_pen dc_pen pm_pen an_pen cd_pen ct_pen), sl_pen⟩)
    (c_pen : PySem.W.codeIn K cd_pen "_law_pen" = true)
    (k_pen : PySem.W.keepIn K (.ref f_pen) = true)
    (a_draw : PySem.W.nsIn K mainGlobals "_law_draw" = some (some (.ref f_draw)))
    (l_draw : K.lookup f_draw = some ⟨oc_draw, od_draw, .func (PySem.W.fnOf "_law_draw" "_law_draw" (defArgs s_draw) (defBody s_draw) (defScope s_draw) .none kV_draw dc_draw pm_draw an_draw cd_draw ct_draw), sl_draw⟩)
    (c_draw : PySem.W.codeIn K cd_draw "_law_draw" = true)
    (k_draw : PySem.W.keepIn K (.ref f_draw) = true)
    (a_pick : PySem.W.nsIn K mainGlobals "_law_pick" = some (some (.ref f_pick)))
    (l_pick : K.lookup f_pick = some ⟨oc_pick, od_pick, .func (PySem.W.fnOf "_law_pick" "_law_pick" (defArgs s_pick) (defBody s_pick) (defScope s_pick) .none kV_pick dc_pick pm_pick an_pick cd_pick ct_pick), sl_pick⟩)
    (c_pick : PySem.W.codeIn K cd_pick "_law_pick" = true)
    (k_pick : PySem.W.keepIn K (.ref f_pick) = true)
    (a_heard : PySem.W.nsIn K mainGlobals "_law_heard" = some (some (.ref f_heard)))
    (l_heard : K.lookup f_heard = some ⟨oc_heard, od_heard, .func (PySem.W.fnOf "_law_heard" "_law_heard" (defArgs s_heard) (defBody s_heard) (defScope s_heard) .none kV_heard dc_heard pm_heard an_heard cd_heard ct_heard), sl_heard⟩)
    (c_heard : PySem.W.codeIn K cd_heard "_law_heard" = true)
    (k_heard : PySem.W.keepIn K (.ref f_heard) = true)
    (a_asked : PySem.W.nsIn K mainGlobals "_law_asked" = some (some (.ref f_asked)))
    (l_asked : K.lookup f_asked = some ⟨oc_asked, od_asked, .func (PySem.W.fnOf "_law_asked" "_law_asked" (defArgs s_asked) (defBody s_asked) (defScope s_asked) .none kV_asked dc_asked pm_asked an_asked cd_asked ct_asked), sl_asked⟩)
    (c_asked : PySem.W.codeIn K cd_asked "_law_asked" = true)
    (k_asked : PySem.W.keepIn K (.ref f_asked) = true)
    (a_due : PySem.W.nsIn K mainGlobals "_law_due" = some (some (.ref f_due)))
    (l_due : K.lookup f_due = some ⟨oc_due, od_due, .func (PySem.W.fnOf "_law_due" "_law_due" (defArgs s_due) (defBody s_due) (defScope s_due) .none kV_due dc_due pm_due an_due cd_due ct_due), sl_due⟩)
    (c_due : PySem.W.codeIn K cd_due "_law_due" = true)
    (k_due : PySem.W.keepIn K (.ref f_due) = true)
    (a_pairs : PySem.W.nsIn K mainGlobals "_law_pairs" = some (some (.ref f_pairs)))
    (l_pairs : K.lookup f_pairs = some ⟨oc_pairs, od_pairs, .func (PySem.W.fnOf "_law_pairs" "_law_pairs" (defArgs s_pairs) (defBody s_pairs) (defScope s_pairs) .none kV_pairs dc_pairs pm_pairs an_pairs cd_pairs ct_pairs), sl_pairs⟩)
    (c_pairs : PySem.W.codeIn K cd_pairs "_law_pairs" = true)
    (k_pairs : PySem.W.keepIn K (.ref f_pairs) = true)
    (a_refused_right : PySem.W.nsIn K mainGlobals "_law_refused_right" = some (some (.ref f_refused_right)))
    (l_refused_right : K.lookup f_refused_right = some ⟨oc_refused_right, od_refused_right, .func (PySem.W.fnOf "_law_refused_right" "_law_refused_right" (defArgs s_refused_right) (defBody s_refused_right) (defScope s_refused_right) .none kV_refused_right dc_refused_right pm_refused_right an_refused_right (.ref cc_refused_right) ct_refused_right), sl_refused_right⟩)
    (c_refused_right : PySem.W.codeIn K (.ref cc_refused_right) "_law_refused_right" = true)
    (k_refused_right : PySem.W.keepIn K (.ref f_refused_right) = true)
    (a_law : PySem.W.nsIn K mainGlobals "law" = some (some (.ref f_law)))
    (l_law : K.lookup f_law = some ⟨oc_law, od_law, .func (PySem.W.fnOf "law" "law" (defArgs s_law) (defBody s_law) (defScope s_law) .none kV_law dc_law pm_law an_law cd_law ct_law), sl_law⟩)
    (c_law : PySem.W.codeIn K cd_law "law" = true)
    (k_law : PySem.W.keepIn K (.ref f_law) = true)
    (a_BadNumber_init : PySem.W.findIn K (.ref C_BadNumber) "__init__" = some (some (.ref f_BadNumber_init)))
    (l_BadNumber_init : K.lookup f_BadNumber_init = some ⟨oc_BadNumber_init, od_BadNumber_init, .func (PySem.W.fnOf "__init__" "BadNumber.__init__" (defArgs s_BadNumber_init) (defBody s_BadNumber_init) (defScope s_BadNumber_init) .none kV_BadNumber_init dc_BadNumber_init pm_BadNumber_init an_BadNumber_init cd_BadNumber_init ct_BadNumber_init), sl_BadNumber_init⟩)
    (c_BadNumber_init : PySem.W.codeIn K cd_BadNumber_init "BadNumber.__init__" = true)
    (k_BadNumber_init : PySem.W.keepIn K (.ref f_BadNumber_init) = true)
    (i_gcd : PySem.W.nsIn K mainGlobals "gcd" = some (some (.builtin "math.gcd")))
    (z_ValueError : PySem.W.nsIn K mainGlobals "ValueError" = some none)
    (z_abs : PySem.W.nsIn K mainGlobals "abs" = some none)
    (z_bool : PySem.W.nsIn K mainGlobals "bool" = some none)
    (z_int : PySem.W.nsIn K mainGlobals "int" = some none)
    (z_isinstance : PySem.W.nsIn K mainGlobals "isinstance" = some none)
    (z_len : PySem.W.nsIn K mainGlobals "len" = some none)
    (z_list : PySem.W.nsIn K mainGlobals "list" = some none)
    (z_range : PySem.W.nsIn K mainGlobals "range" = some none)
    (z_repr : PySem.W.nsIn K mainGlobals "repr" = some none)
    (z_tuple : PySem.W.nsIn K mainGlobals "tuple" = some none)
    (t_refused_right : K.lookup cc_refused_right = some ⟨e_refused_right, dd_refused_right, .fields vs_refused_right, sl2_refused_right⟩)
    (p_refused_right : vs_refused_right[11]? = some (.ref pp_refused_right))
    (q_refused_right : K.lookup pp_refused_right = Option.none)
    (x_C : PySem.W.nsIn K mainGlobals "BadNumber" = some (some (.ref C_BadNumber)))
    (x_R : PySem.W.nsIn K mainGlobals "ReachError" = some (some (.ref C_ReachError)))
    (x_L : K.lookup C_BadNumber = some (excClassObj nmb qb C_BadNumber Nb bsb bmb true snb subb abb colb ddb mb0 mb1 mb2 mb3 mb5 "ValueError.__new__"))
    (x_b : PySem.HandSPX.refsVE bmb = true)
    (x_sa : PySem.W.findIn K (.ref C_BadNumber) "__setattr__" = some (some (.builtin "object.__setattr__")))
    (x_ex : PySem.W.subIn K (.ref C_BadNumber) (.type "BaseException") = some true)
    (x_ty : PySem.W.typeIn K (.ref C_BadNumber) = some (.type "type"))
    (x_k : PySem.W.keepIn K (.ref C_BadNumber) = true)
    (x_tI : PySem.W.typeIn K (.ref f_BadNumber_init) = some (.type "function"))
    (x_no : PySem.W.findIn K (.ref C_BadNumber) "value" = some Option.none)
    (x_cl : PySem.W.isClsIn K C_BadNumber = true)
    (x_ga : PySem.W.findIn K (.ref C_BadNumber) "__getattribute__" = some (some (.builtin "BaseException.__getattribute__")))
    (x_gg : PySem.W.findIn K (.ref C_BadNumber) "__getattr__" = some Option.none)
    (x_hd : PySem.W.hasDictIn K C_BadNumber = true)
    (x_ha : PySem.W.findIn K (.ref C_BadNumber) "__class__" = some (some (.builtin "object.__class__")))
    (x_hn : PySem.W.specialIn K (.builtin "object.__class__") "__get__" = some (some (.builtin "getset_descriptor.__get__")))
    (x_ht : PySem.W.takesIn K (.builtin "object.__class__") = some true)
    (x_hm : PySem.W.mroIn K C_BadNumber (.type "object") = some true)
    (x_Rx : PySem.W.subIn K (.ref C_ReachError) (.type "BaseException") = some true)
    (x_Rh : PySem.W.hasDictIn K C_ReachError = true)
    (x_Rt : PySem.W.typeIn K (.ref C_ReachError) = some (.type "type"))
    (x_RC : PySem.W.subIn K (.ref C_BadNumber) (.ref C_ReachError) = some true)
    (x_k1 : PySem.W.kitOne K (.ref C_BadNumber) (.ref C_BadNumber) = some true)
    (x_k2 : PySem.W.kitOne K (.ref C_BadNumber) (.type "ValueError") = some true) :
    LawG l w K 12 mg fa h := by
  have e := hfa.symm.trans (PySem.W.mg_of X G a_law)
  cases e
  obtain ⟨hP_refused_right, hd_refused_right⟩ := tabs "_law_refused_right" (by decide) f_refused_right cc_refused_right pp_refused_right _ _ _ _ _ _ (PySem.W.mg_of X G a_refused_right) l_refused_right rfl rfl t_refused_right p_refused_right
  let T : Txt K mg := { a_is_whole := f_is_whole, fd_is_whole := _, F_is_whole := fun_mk (st := s_is_whole) l_is_whole c_is_whole k_is_whole, m_is_whole := PySem.W.mg_of X G a_is_whole, a_is_from := f_is_from, fd_is_from := _, F_is_from := fun_mk (st := s_is_from) l_is_from c_is_from k_is_from, m_is_from := PySem.W.mg_of X G a_is_from, a_is_part := f_is_part, fd_is_part := _, F_is_part := fun_mk (st := s_is_part) l_is_part c_is_part k_is_part, m_is_part := PySem.W.mg_of X G a_is_part, a_together := f_together, fd_together := _, F_together := fun_mk (st := s_together) l_together c_together k_together, m_together := PySem.W.mg_of X G a_together, a_inverse := f_inverse, fd_inverse := _, F_inverse := fun_mk (st := s_inverse) l_inverse c_inverse k_inverse, m_inverse := PySem.W.mg_of X G a_inverse, a_pen := f_pen, fd_pen := _, F_pen := fun_mk (st := s_pen) l_pen c_pen k_pen, m_pen := PySem.W.mg_of X G a_pen, a_draw := f_draw, fd_draw := _, F_draw := fun_mk (st := s_draw) l_draw c_draw k_draw, m_draw := PySem.W.mg_of X G a_draw, a_pick := f_pick, fd_pick := _, F_pick := fun_mk (st := s_pick) l_pick c_pick k_pick, m_pick := PySem.W.mg_of X G a_pick, a_heard := f_heard, fd_heard := _, F_heard := fun_mk (st := s_heard) l_heard c_heard k_heard, m_heard := PySem.W.mg_of X G a_heard, a_asked := f_asked, fd_asked := _, F_asked := fun_mk (st := s_asked) l_asked c_asked k_asked, m_asked := PySem.W.mg_of X G a_asked, a_due := f_due, fd_due := _, F_due := fun_mk (st := s_due) l_due c_due k_due, m_due := PySem.W.mg_of X G a_due, a_pairs := f_pairs, fd_pairs := _, F_pairs := fun_mk (st := s_pairs) l_pairs c_pairs k_pairs, m_pairs := PySem.W.mg_of X G a_pairs, a_refused_right := f_refused_right, fd_refused_right := _, F_refused_right := fun_mk (st := s_refused_right) l_refused_right c_refused_right k_refused_right, m_refused_right := PySem.W.mg_of X G a_refused_right, a_law := fa, fd_law := _, F_law := fun_mk (st := s_law) l_law c_law k_law, m_law := PySem.W.mg_of X G a_law, a_BadNumber_init := f_BadNumber_init, fd_BadNumber_init := _, F_BadNumber_init := fun_mk (st := s_BadNumber_init) l_BadNumber_init c_BadNumber_init k_BadNumber_init, m_gcd := PySem.W.mg_of X G i_gcd, n_ValueError := PySem.W.mg_none_of X G z_ValueError, n_abs := PySem.W.mg_none_of X G z_abs, n_bool := PySem.W.mg_none_of X G z_bool, n_int := PySem.W.mg_none_of X G z_int, n_isinstance := PySem.W.mg_none_of X G z_isinstance, n_len := PySem.W.mg_none_of X G z_len, n_list := PySem.W.mg_none_of X G z_list, n_range := PySem.W.mg_none_of X G z_range, n_repr := PySem.W.mg_none_of X G z_repr, n_tuple := PySem.W.mg_none_of X G z_tuple, bad := { C := C_BadNumber, f := f_BadNumber_init, fd := _, oex := ⟨⟨_, _, _, _, _, _, _, _, _, _, _, _, _, _, _, x_L, x_b⟩, x_sa, x_ex, x_ty, x_k⟩, iC := a_BadNumber_init, tI := x_tI, F := fun_mk (st := s_BadNumber_init) l_BadNumber_init c_BadNumber_init k_BadNumber_init, no := x_no, m := PySem.W.mg_of X G x_C } }
  have B : Caught K mg T.bad.C := { R := C_ReachError, m_R := PySem.W.mg_of X G x_R, ex := PySem.W.exm_ref x_Rx x_Rh x_Rt x_RC, err := ⟨x_cl, x_ga, x_gg, x_ex, x_hd, x_ha, x_hn, x_ht, x_hm⟩, k1 := x_k1, k2 := x_k2 }
  refine ⟨[(cc_refused_right, pp_refused_right)], spLaw K pp_refused_right, fun p hp => ?_, fun p hp => ?_, fun p hp => ?_, fun H a ns hl hb tt hS => ⟨a, ns, rfl, hS, hl, fun p hp => ?_, fun _ => rfl⟩, fun base KB NB TBs => ?_⟩
  · rw [List.mem_singleton.mp hp]; exact hP_refused_right
  · rw [List.mem_singleton.mp hp]; exact q_refused_right
  · rw [List.mem_singleton.mp hp]; exact hd_refused_right
  · rw [List.mem_singleton.mp hp]; exact LamX.TabS.nil (tt (cc_refused_right, pp_refused_right) List.mem_cons_self)
  · exact ok_law T B l_refused_right c_refused_right (TBs (cc_refused_right, pp_refused_right) List.mem_cons_self)
end My
open PySem PySem.W PyProof.Rows in
set_option maxRecDepth 100000 in
set_option maxHeartbeats 0 in
theorem PySem.Challenge.cw_wheelreach_k03_remainders_put_together_holds : PySem.Challenge.rw_wheelreach_k03_remainders_put_together.Holds := by
  w_on; o_law; k_head; (case hw => w_witness2)
  k_fill
  refine My.walkG (l := PySem.Challenge.rw_wheelreach_k03_remainders_put_together) (k := 12) ["_law_refused_right"] (by decide +kernel) rfl rfl ⟨rfl, by decide, by decide⟩ (fun w h Y => PySem.W.km_in_of Y) ?F
  case F =>
    intro w mg fa h KX G hmg tabs
    refine' My.all_mk KX G hmg tabs ?a_is_whole ?l_is_whole ?c_is_whole ?k_is_whole ?a_is_from ?l_is_from ?c_is_from ?k_is_from ?a_is_part ?l_is_part ?c_is_part ?k_is_part ?a_together ?l_together ?c_together ?k_together ?a_inverse ?l_inverse ?c_inverse ?k_inverse ?a_pen ?l_pen ?c_pen ?k_pen ?a_draw ?l_draw ?c_draw ?k_draw ?a_pick ?l_pick ?c_pick ?k_pick ?a_heard ?l_heard ?c_heard ?k_heard ?a_asked ?l_asked ?c_asked ?k_asked ?a_due ?l_due ?c_due ?k_due ?a_pairs ?l_pairs ?c_pairs ?k_pairs ?a_refused_right ?l_refused_right ?c_refused_right ?k_refused_right ?a_law ?l_law ?c_law ?k_law ?a_BadNumber_init ?l_BadNumber_init ?c_BadNumber_init ?k_BadNumber_init ?i_gcd ?z_ValueError ?z_abs ?z_bool ?z_int ?z_isinstance ?z_len ?z_list ?z_range ?z_repr ?z_tuple ?t_refused_right ?p_refused_right ?q_refused_right ?x_C ?x_R ?x_L ?x_b ?x_sa ?x_ex ?x_ty ?x_k ?x_tI ?x_no ?x_cl ?x_ga ?x_gg ?x_hd ?x_ha ?x_hn ?x_ht ?x_hm ?x_Rx ?x_Rh ?x_Rt ?x_RC ?x_k1 ?x_k2
    (case x_C => k_is)
    (case x_R => k_is)
    (case a_is_whole => k_is)
    (case l_is_whole => k_is)
    (case c_is_whole => k_is)
    (case k_is_whole => k_is)
    (case a_is_from => k_is)
    (case l_is_from => k_is)
    (case c_is_from => k_is)
    (case k_is_from => k_is)
    (case a_is_part => k_is)
    (case l_is_part => k_is)
    (case c_is_part => k_is)
    (case k_is_part => k_is)
    (case a_together => k_is)
    (case l_together => k_is)
    (case c_together => k_is)
    (case k_together => k_is)
    (case a_inverse => k_is)
    (case l_inverse => k_is)
    (case c_inverse => k_is)
    (case k_inverse => k_is)
    (case a_pen => k_is)
    (case l_pen => k_is)
    (case c_pen => k_is)
    (case k_pen => k_is)
    (case a_draw => k_is)
    (case l_draw => k_is)
    (case c_draw => k_is)
    (case k_draw => k_is)
    (case a_pick => k_is)
    (case l_pick => k_is)
    (case c_pick => k_is)
    (case k_pick => k_is)
    (case a_heard => k_is)
    (case l_heard => k_is)
    (case c_heard => k_is)
    (case k_heard => k_is)
    (case a_asked => k_is)
    (case l_asked => k_is)
    (case c_asked => k_is)
    (case k_asked => k_is)
    (case a_due => k_is)
    (case l_due => k_is)
    (case c_due => k_is)
    (case k_due => k_is)
    (case a_pairs => k_is)
    (case l_pairs => k_is)
    (case c_pairs => k_is)
    (case k_pairs => k_is)
    (case a_refused_right => k_is)
    (case l_refused_right => k_is)
    (case c_refused_right => k_is)
    (case k_refused_right => k_is)
    (case a_law => k_is)
    (case l_law => k_is)
    (case c_law => k_is)
    (case k_law => k_is)
    (case a_BadNumber_init => k_is)
    (case l_BadNumber_init => k_is)
    (case c_BadNumber_init => k_is)
    (case k_BadNumber_init => k_is)
    (case i_gcd => k_is)
    (case z_ValueError => k_is)
    (case z_abs => k_is)
    (case z_bool => k_is)
    (case z_int => k_is)
    (case z_isinstance => k_is)
    (case z_len => k_is)
    (case z_list => k_is)
    (case z_range => k_is)
    (case z_repr => k_is)
    (case z_tuple => k_is)
    (case t_refused_right => k_is)
    (case p_refused_right => first | rfl | k_is | decide +kernel)
    (case q_refused_right => first | k_is | rfl | decide +kernel)
    (case x_L => k_is)
    (case x_b => first | rfl | decide +kernel)
    (case x_sa => k_is)
    (case x_ex => k_is)
    (case x_ty => k_is)
    (case x_k => k_is)
    (case x_tI => k_is)
    (case x_no => k_is)
    (case x_cl => k_is)
    (case x_ga => k_is)
    (case x_gg => k_is)
    (case x_hd => k_is)
    (case x_ha => k_is)
    (case x_hn => k_is)
    (case x_ht => k_is)
    (case x_hm => k_is)
    (case x_Rx => k_is)
    (case x_Rh => k_is)
    (case x_Rt => k_is)
    (case x_RC => first | k_is | rfl | decide +kernel)
    (case x_k1 => first | k_is | rfl | decide +kernel)
    (case x_k2 => first | k_is | rfl | decide +kernel)
