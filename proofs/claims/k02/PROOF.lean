import PyProof.Rows.All
import Wide.All
import OpenK.AllK
import Wide.FinOn
import HandS.ForMost
import HandS.ForExc
import HandS.Star
import HandS.Gcd
import HandS.Wide
import HandS.IsInst
import HandS.Style
import HandS.Codes
import HandS.Lambda
import HandS.EndTab
import KE.KExcIs
import HandS.ExcInit
import HandS.ExcIs
import HandS.WordsExc
import HandS.IterVal
import PySem.Challenge.RW_wheelreach_k02_divisors_and_multiples_by
set_option Elab.async false
set_option linter.all false
set_option maxRecDepth 100000
set_option maxHeartbeats 4000000
/-! Numbers: divisors, multiples, remainders put together, as plain functions, and what holds of them. -/
namespace NM

/-! ### common, multiple -/
def gcdL (ns : List Int) : Nat := ns.foldl (fun g n => Nat.gcd g n.natAbs) 0
def lcmL (ns : List Int) : Nat := ns.foldl (fun g n => Nat.lcm g n.natAbs) 1
theorem gcdL_snoc (l : List Int) (z : Int) : gcdL (l ++ [z]) = Nat.gcd (gcdL l) z.natAbs := by
  unfold gcdL; rw [List.foldl_append]; rfl
theorem lcmL_snoc (l : List Int) (z : Int) : lcmL (l ++ [z]) = Nat.lcm (lcmL l) z.natAbs := by
  unfold lcmL; rw [List.foldl_append]; rfl
theorem take_snoc {α : Type} : ∀ {l : List α} {i : Nat} {x : α}, l[i]? = some x → l.take (i + 1) = l.take i ++ [x]
  | [], i, x, h => by simp at h
  | a :: l, 0, x, h => by
    have e : a = x := Option.some.inj h
    subst e
    rfl
  | a :: l, i + 1, x, h => by
    have ih := take_snoc (l := l) (i := i) (x := x) h
    show a :: l.take (i + 1) = a :: l.take i ++ [x]
    rw [ih]
    rfl
theorem lcm_step {f n : Int} (hf : 0 < f) (hn : 0 < n) : f / ((Nat.gcd f.natAbs n.natAbs : Nat) : Int) * n = ((Nat.lcm f.natAbs n.natAbs : Nat) : Int) := by
  obtain ⟨a, rfl⟩ : ∃ a : Nat, f = (a : Int) := ⟨f.toNat, by omega⟩
  obtain ⟨b, rfl⟩ : ∃ b : Nat, n = (b : Int) := ⟨n.toNat, by omega⟩
  simp only [Int.natAbs_natCast]
  have h := Nat.gcd_dvd_left a b
  rw [← Int.natCast_ediv, ← Int.natCast_mul]
  congr 1
  unfold Nat.lcm
  rw [Nat.mul_comm (a / _) b, Nat.mul_comm a b, Nat.mul_div_assoc _ h]
theorem lcmL_pos {l : List Int} (h : ∀ z ∈ l, 0 < z) : 0 < lcmL l := by
  unfold lcmL
  suffices ∀ (l : List Int) (a : Nat), 0 < a → (∀ z ∈ l, 0 < z) → 0 < l.foldl (fun g n => Nat.lcm g n.natAbs) a from this l 1 (by decide) h
  intro l
  induction l with
  | nil => intro a ha _; exact ha
  | cons z l ih =>
    intro a ha h
    refine ih _ ?_ (fun y hy => h y (List.mem_cons_of_mem _ hy))
    have hz := h z List.mem_cons_self
    exact Nat.lcm_pos ha (by omega)
theorem lcm_le_mul {a b : Nat} (ha : 0 < a) (hb : 0 < b) : Nat.lcm a b ≤ a * b := Nat.le_of_dvd (Nat.mul_pos ha hb) (Nat.lcm_dvd_mul a b)

/-! ### how far from a multiple -/
def apartI (d p : Int) : Int := if p - d % p < d % p then p - d % p else d % p
theorem apart_nn {d p : Int} (hp : 0 < p) : 0 ≤ apartI d p := by
  unfold apartI
  have h1 := Int.emod_nonneg d (show p ≠ 0 by omega)
  have h2 := Int.emod_lt_of_pos d hp
  split <;> omega
theorem apart_half {d p : Int} (hp : 0 < p) : 2 * apartI d p ≤ p := by
  unfold apartI
  have h1 := Int.emod_nonneg d (show p ≠ 0 by omega)
  have h2 := Int.emod_lt_of_pos d hp
  split <;> omega
/-- the nearest multiple is that far away -/
theorem apart_at {d p : Int} (hp : 0 < p) : ∃ k, d = p * k + apartI d p ∨ d = p * k - apartI d p := by
  have e := Int.mul_ediv_add_emod d p
  unfold apartI
  split
  · refine ⟨d / p + 1, .inr ?_⟩
    rw [Int.mul_add]; omega
  · exact ⟨d / p, .inl (by omega)⟩
/-- no multiple is nearer -/
theorem apart_le {d p : Int} (hp : 0 < p) (k a : Int) (h : d = p * k + a) : apartI d p ≤ (a.natAbs : Int) := by
  have e1 : d % p = a % p := by rw [h, Int.add_comm, Int.add_mul_emod_self_left]
  have h1 := Int.emod_nonneg a (show p ≠ 0 by omega)
  have h2 := Int.emod_lt_of_pos a hp
  have e := Int.mul_ediv_add_emod a p
  unfold apartI
  rw [e1]
  by_cases h0 : 0 ≤ a
  · have : a % p ≤ a := by
      have : 0 ≤ a / p := Int.ediv_nonneg h0 (by omega)
      have := Int.mul_nonneg (show 0 ≤ p by omega) this
      omega
    split <;> omega
  · have hq : a / p ≤ -1 := by
      have := Int.ediv_lt_of_lt_mul hp (show a < 0 * p by omega)
      omega
    have : p * (a / p) ≤ p * (-1) := Int.mul_le_mul_of_nonneg_left hq (by omega)
    split <;> omega
theorem apart_neg {d p : Int} (hp : 0 < p) : apartI (-d) p = apartI d p := by
  have aux : ∀ x : Int, apartI (-x) p ≤ apartI x p := fun x => by
    obtain ⟨k, h | h⟩ := apart_at (d := x) hp
    · have := apart_le (d := -x) hp (-k) (-apartI x p) (by rw [Int.mul_neg]; omega)
      have := apart_nn (d := x) hp
      omega
    · have := apart_le (d := -x) hp (-k) (apartI x p) (by rw [Int.mul_neg]; omega)
      have := apart_nn (d := x) hp
      omega
  have h1 := aux d
  have h2 := aux (-d)
  rw [Int.neg_neg] at h2
  omega
theorem apart_round {d p : Int} (hp : 0 < p) (k : Int) : apartI (d + p * k) p = apartI d p := by
  unfold apartI
  rw [Int.add_mul_emod_self_left]
theorem apart_tri {d e p : Int} (hp : 0 < p) : apartI (d + e) p ≤ apartI d p + apartI e p := by
  have n1 := apart_nn (d := d) hp
  have n2 := apart_nn (d := e) hp
  obtain ⟨k, h⟩ := apart_at (d := d) hp
  obtain ⟨l, g⟩ := apart_at (d := e) hp
  have fin : ∀ a : Int, d + e = p * (k + l) + a → (a.natAbs : Int) ≤ apartI d p + apartI e p → apartI (d + e) p ≤ apartI d p + apartI e p := fun a ha hb =>
    Int.le_trans (apart_le hp (k + l) a ha) hb
  have ex : p * (k + l) = p * k + p * l := Int.mul_add _ _ _
  rcases h with h | h <;> rcases g with g | g
  · exact fin (apartI d p + apartI e p) (by rw [ex]; omega) (by omega)
  · exact fin (apartI d p - apartI e p) (by rw [ex]; omega) (by omega)
  · exact fin (-apartI d p + apartI e p) (by rw [ex]; omega) (by omega)
  · exact fin (-apartI d p - apartI e p) (by rw [ex]; omega) (by omega)
theorem apart_mult {p k : Int} (hp : 0 < p) : apartI (p * k) p = 0 := by
  unfold apartI
  rw [Int.mul_emod_right]
  split <;> omega
theorem apart_self {p : Int} (hp : 0 < p) : apartI p p = 0 := by
  have h := apart_mult (k := 1) hp
  rwa [Int.mul_one] at h
theorem apart_reach {d p : Int} (hp : 0 < p) : apartI (d - apartI d p) p = 0 ∨ apartI (d + apartI d p) p = 0 := by
  obtain ⟨k, h | h⟩ := apart_at (d := d) hp
  · left
    have e : d - apartI d p = p * k := by omega
    rw [e]; exact apart_mult hp
  · right
    have e : d + apartI d p = p * k := by omega
    rw [e]; exact apart_mult hp

theorem gcd_emod (a b : Int) : Int.gcd (a % b) b = Int.gcd a b := by
  have e := Int.mul_ediv_add_emod a b
  have h : a % b = a - a / b * b := by rw [Int.mul_comm]; omega
  rw [h]; exact Int.gcd_sub_mul_right_left _ _ _
/-! ### the inverse, by Euclid's division -/
structure Euc (number divisor left right found following : Int) : Prop where
  l : 0 < left
  r : 0 ≤ right
  rl : right < left ∨ left = divisor
  le : left ≤ divisor
  rd : right < divisor
  g : Nat.gcd left.natAbs right.natAbs = Nat.gcd divisor.natAbs number.natAbs
  c1 : divisor ∣ found * number - left
  c2 : divisor ∣ following * number - right
  s : (found ≤ 0 ∧ 0 ≤ following ∧ left * following - right * found = divisor) ∨ (0 ≤ found ∧ following ≤ 0 ∧ right * found - left * following = divisor)
theorem Euc.start {number divisor : Int} (hd : 0 < divisor) : Euc number divisor divisor (number % divisor) 0 1 where
  l := hd
  r := Int.emod_nonneg _ (by omega)
  rl := .inr rfl
  le := Int.le_refl _
  rd := Int.emod_lt_of_pos _ hd
  g := by
    have e := Int.mul_ediv_add_emod number divisor
    have h : ((Nat.gcd divisor.natAbs (number % divisor).natAbs : Nat) : Int) = ((Nat.gcd divisor.natAbs number.natAbs : Nat) : Int) := by
      show ((Int.gcd divisor (number % divisor) : Nat) : Int) = ((Int.gcd divisor number : Nat) : Int)
      congr 1
      rw [Int.gcd_comm, Int.gcd_comm divisor number]
      exact gcd_emod _ _
    exact Int.natCast_inj.mp h
  c1 := ⟨-1, by omega⟩
  c2 := by
    have e := Int.mul_ediv_add_emod number divisor
    exact ⟨number / divisor, by omega⟩
  s := .inl ⟨Int.le_refl _, by omega, by omega⟩
theorem Euc.turn {number divisor left right found following : Int} (E : Euc number divisor left right found following) (h : right ≠ 0) :
    Euc number divisor right (left - left / right * right) following (found - left / right * following) := by
  have hr : 0 < right := by have := E.r; omega
  have e := Int.mul_ediv_add_emod left right
  have em : left - left / right * right = left % right := by rw [Int.mul_comm]; omega
  have h1 := Int.emod_nonneg left (show right ≠ 0 by omega)
  have h2 := Int.emod_lt_of_pos left hr
  have hq : 0 ≤ left / right := Int.ediv_nonneg (Int.le_of_lt E.l) (by omega)
  have lrd := E.rd
  refine ⟨hr, by omega, .inl (by omega), by omega, by omega, ?_, E.c2, ?_, ?_⟩
  · rw [← E.g, em]
    show Int.gcd right (left % right) = Int.gcd left right
    rw [Int.gcd_comm]
    exact gcd_emod _ _
  · obtain ⟨a, ha⟩ := E.c1
    obtain ⟨b, hb⟩ := E.c2
    refine ⟨a - left / right * b, ?_⟩
    rw [Int.sub_mul, Int.mul_sub]
    have x1 : left / right * following * number = left / right * (following * number) := Int.mul_assoc _ _ _
    have x2 : divisor * (left / right * b) = left / right * (divisor * b) := by rw [← Int.mul_assoc, Int.mul_comm divisor, Int.mul_assoc]
    rw [x1, x2, ← hb, ← ha, Int.mul_sub]
    omega
  · have hm : ∀ x : Int, 0 ≤ x → 0 ≤ left / right * x := fun x hx => Int.mul_nonneg hq hx
    have hn : ∀ x : Int, x ≤ 0 → left / right * x ≤ 0 := fun x hx => by
      have := Int.mul_nonneg hq (show 0 ≤ -x by omega)
      rw [Int.mul_neg] at this
      omega
    have y1 : right * (found - left / right * following) = right * found - right * (left / right * following) := Int.mul_sub _ _ _
    have y2 : (left - left / right * right) * following = left * following - left / right * right * following := Int.sub_mul _ _ _
    have y3 : left / right * right * following = right * (left / right * following) := by rw [Int.mul_comm (left / right) right, Int.mul_assoc]
    rcases E.s with ⟨s1, s2, s3⟩ | ⟨s1, s2, s3⟩
    · refine .inr ⟨s2, by have := hm _ s2; omega, ?_⟩
      rw [y1, y2, y3]; omega
    · refine .inl ⟨s2, by have := hn _ s2; omega, ?_⟩
      rw [y1, y2, y3]; omega
theorem Euc.less {number divisor left right found following : Int} (E : Euc number divisor left right found following) (h : right ≠ 0) : (left - left / right * right).toNat < right.toNat := by
  have hr : 0 < right := by have := E.r; omega
  have e := Int.mul_ediv_add_emod left right
  have em : left - left / right * right = left % right := by rw [Int.mul_comm]; omega
  have h1 := Int.emod_nonneg left (show right ≠ 0 by omega)
  have h2 := Int.emod_lt_of_pos left hr
  omega
/-- the sizes -/
theorem Euc.size {number divisor left right found following : Int} (E : Euc number divisor left right found following) : following.natAbs ≤ divisor.natAbs ∧ (right ≠ 0 → found.natAbs ≤ divisor.natAbs) := by
  have l := E.l
  have r := E.r
  have key : ∀ a b c e : Int, 0 < a → 0 ≤ b → 0 ≤ c → 0 ≤ e → a * c + b * e = divisor → c ≤ divisor ∧ (b ≠ 0 → e ≤ divisor) := fun a b c e ha hb hc he h => by
    have p1 := Int.mul_nonneg hb he
    have p2 : c ≤ a * c := by
      have := Int.mul_le_mul_of_nonneg_right (show 1 ≤ a by omega) hc
      omega
    refine ⟨by omega, fun hb0 => ?_⟩
    have p3 : e ≤ b * e := by
      have := Int.mul_le_mul_of_nonneg_right (show 1 ≤ b by omega) he
      omega
    have p4 := Int.mul_nonneg (Int.le_of_lt ha) hc
    omega
  rcases E.s with ⟨s1, s2, s3⟩ | ⟨s1, s2, s3⟩
  · have k := key left right following (-found) l r s2 (by omega) (by rw [Int.mul_neg]; omega)
    exact ⟨by omega, fun h => by have := k.2 h; omega⟩
  · have k := key left right (-following) found l r (by omega) s1 (by rw [Int.mul_neg]; omega)
    exact ⟨by omega, fun h => by have := k.2 h; omega⟩
theorem Euc.fin {number divisor left found following : Int} (E : Euc number divisor left 0 found following) (hg : Nat.gcd divisor.natAbs number.natAbs = 1) : divisor ∣ found * number - 1 := by
  have g := E.g
  rw [hg] at g
  have l := E.l
  have : left = 1 := by
    simp at g
    omega
  have c := E.c1
  rwa [this] at c
end NM

namespace NM
/-! ### remainders put together -/
/-- y leaves each remainder by its divisor -/
def Sol (ps : List (Int × Int)) (y : Int) : Prop := ∀ q ∈ ps, q.2 ∣ y - q.1
/-- the integers that leave them are those that leave found by step -/
structure Tog (ps : List (Int × Int)) (found step : Int) : Prop where
  pos : 0 < step
  lo : 0 ≤ found
  hi : found < step
  sol : ∀ y, Sol ps y ↔ step ∣ y - found
theorem Tog.start : Tog [] 0 1 := ⟨by decide, by decide, by decide, fun y => ⟨fun _ => ⟨y, by omega⟩, fun _ q hq => nomatch hq⟩⟩
theorem sol_snoc {ps : List (Int × Int)} {r d y : Int} : Sol (ps ++ [(r, d)]) y ↔ Sol ps y ∧ d ∣ y - r := by
  unfold Sol
  constructor
  · exact fun h => ⟨fun q hq => h q (List.mem_append_left _ hq), h (r, d) (List.mem_append_right _ List.mem_cons_self)⟩
  · rintro ⟨h1, h2⟩ q hq
    rcases List.mem_append.mp hq with h | h
    · exact h1 q h
    · have e : q = (r, d) := by simpa using h
      rw [e]; exact h2
theorem sol_perm {ps qs : List (Int × Int)} {y : Int} (h : ∀ q, q ∈ qs → q ∈ ps) (s : Sol ps y) : Sol qs y := fun q hq => s q (h q hq)
theorem dvd_ml {a b : Int} (c : Int) (h : a ∣ b) : a ∣ c * b := Int.dvd_trans h (Int.dvd_mul_left c b)
theorem dvd_mr {a b : Int} (c : Int) (h : a ∣ b) : a ∣ b * c := Int.dvd_trans h (Int.dvd_mul_right b c)
theorem gI_pos {a b : Int} (hb : 0 < b) : 0 < ((Int.gcd a b : Nat) : Int) := by
  have : 0 < Int.gcd a b := Int.gcd_pos_of_ne_zero_right a (by omega)
  omega
theorem Tog.none {ps : List (Int × Int)} {found step r d : Int} (T : Tog ps found step) (h : ¬ (((Int.gcd step d : Nat) : Int) ∣ r - found)) (y : Int) : ¬ Sol (ps ++ [(r, d)]) y := by
  intro s
  obtain ⟨s1, s2⟩ := sol_snoc.mp s
  have h1 := Int.dvd_trans (Int.gcd_dvd_left step d) ((T.sol y).mp s1)
  have h2 := Int.dvd_trans (Int.gcd_dvd_right step d) s2
  have := Int.dvd_sub h1 h2
  have e : y - found - (y - r) = r - found := by omega
  rw [e] at this
  exact h this
theorem dvd_cancel {a b c : Int} (ha : 0 < a) : a * b ∣ a * c ↔ b ∣ c := Int.mul_dvd_mul_iff_left (by omega)
theorem Tog.cop {step d : Int} (hd : 0 < d) : Nat.gcd (d / ((Int.gcd step d : Nat) : Int)).natAbs (step / ((Int.gcd step d : Nat) : Int)).natAbs = 1 := by
  have hg := gI_pos (a := step) hd
  have h : Int.gcd (step / ((Int.gcd step d : Nat) : Int)) (d / ((Int.gcd step d : Nat) : Int)) = 1 := by
    have e1 := Int.mul_ediv_cancel' (Int.gcd_dvd_left step d)
    have e2 := Int.mul_ediv_cancel' (Int.gcd_dvd_right step d)
    have e3 : Int.gcd step d = Int.gcd (((Int.gcd step d : Nat) : Int) * (step / ((Int.gcd step d : Nat) : Int))) (((Int.gcd step d : Nat) : Int) * (d / ((Int.gcd step d : Nat) : Int))) := by
      rw [e1, e2]
    rw [Int.gcd_mul_left] at e3
    simp only [Int.natAbs_natCast] at e3
    have hp : 0 < Int.gcd step d := by omega
    exact Nat.eq_of_mul_eq_mul_left hp (by omega)
  rw [Nat.gcd_comm]
  exact h
theorem Tog.some {ps : List (Int × Int)} {found step r d shared rest inv turns : Int} (T : Tog ps found step) (hd : 0 < d) (es : shared = ((Int.gcd step d : Nat) : Int)) (h : shared ∣ r - found) (er : rest = d / shared)
    (hi : rest ∣ inv * (step / shared) - 1) (et : turns = (r - found) / shared * inv % rest) : Tog (ps ++ [(r, d)]) (found + step * turns) (step * rest) := by
  have hg : 0 < shared := by rw [es]; exact gI_pos hd
  have e1 : shared * (step / shared) = step := by rw [es]; exact Int.mul_ediv_cancel' (Int.gcd_dvd_left step d)
  have e2 : shared * rest = d := by rw [er, es]; exact Int.mul_ediv_cancel' (Int.gcd_dvd_right step d)
  have e3 : shared * ((r - found) / shared) = r - found := Int.mul_ediv_cancel' h
  have hrest : 0 < rest := by
    rcases Int.lt_trichotomy rest 0 with z | z | z
    · have := Int.mul_neg_of_pos_of_neg hg z; omega
    · rw [z] at e2; omega
    · exact z
  have t0 : 0 ≤ turns := by rw [et]; exact Int.emod_nonneg _ (by omega)
  have t1 : turns < rest := by rw [et]; exact Int.emod_lt_of_pos _ hrest
  have hs := T.pos
  have st := Int.mul_nonneg (Int.le_of_lt hs) t0
  have lo := T.lo
  have hi' := T.hi
  have st2 : step * (turns + 1) ≤ step * rest := Int.mul_le_mul_of_nonneg_left (by omega) (by omega)
  rw [Int.mul_add, Int.mul_one] at st2
  refine ⟨Int.mul_pos hs hrest, by omega, by omega, fun y => ?_⟩
  -- what turns leaves
  have hturn : rest ∣ turns * (step / shared) - (r - found) / shared := by
    have h1 : rest ∣ (r - found) / shared * inv - turns := by
      rw [et]; exact Int.dvd_self_sub_emod
    have h2 := dvd_mr (step / shared) h1
    have h3 := dvd_ml ((r - found) / shared) hi
    have h4 := Int.dvd_sub h3 h2
    have e : (r - found) / shared * (inv * (step / shared) - 1) - ((r - found) / shared * inv - turns) * (step / shared) = turns * (step / shared) - (r - found) / shared := by
      rw [Int.mul_sub, Int.sub_mul, Int.mul_one, ← Int.mul_assoc]; omega
    rwa [e] at h4
  -- k turns of step meet d as turns do exactly if they leave the same by rest
  have hk : ∀ k : Int, d ∣ found + step * k - r ↔ rest ∣ k - turns := fun k => by
    have x : found + step * k - r = shared * (step / shared * k - (r - found) / shared) := by
      rw [Int.mul_sub, ← Int.mul_assoc, e1, e3]; omega
    rw [x, ← e2, dvd_cancel hg]
    constructor
    · intro h1
      have h2 := Int.dvd_sub h1 hturn
      have e : step / shared * k - (r - found) / shared - (turns * (step / shared) - (r - found) / shared) = step / shared * (k - turns) := by
        rw [Int.mul_sub, Int.mul_comm turns]; omega
      rw [e] at h2
      have h3 := dvd_ml inv h2
      have h4 := dvd_mr (k - turns) hi
      have h5 := Int.dvd_sub h3 h4
      have e' : inv * (step / shared * (k - turns)) - (inv * (step / shared) - 1) * (k - turns) = k - turns := by
        rw [Int.sub_mul, Int.one_mul, ← Int.mul_assoc]; omega
      rwa [e'] at h5
    · intro h1
      have h2 := dvd_ml (step / shared) h1
      have h3 := Int.dvd_add h2 hturn
      have e : step / shared * (k - turns) + (turns * (step / shared) - (r - found) / shared) = step / shared * k - (r - found) / shared := by
        rw [Int.mul_sub, Int.mul_comm turns]; omega
      rwa [e] at h3
  rw [sol_snoc, T.sol y]
  constructor
  · rintro ⟨⟨k, ek⟩, h2⟩
    have ey : y = found + step * k := by omega
    rw [ey] at h2
    have h3 := (hk k).mp h2
    have e : y - (found + step * turns) = step * (k - turns) := by rw [Int.mul_sub]; omega
    rw [e]
    exact (dvd_cancel hs).mpr h3
  · rintro ⟨k, ek⟩
    have ey : y = found + step * (turns + rest * k) := by
      have : step * rest * k = step * (rest * k) := Int.mul_assoc _ _ _
      rw [Int.mul_add]; omega
    refine ⟨⟨turns + rest * k, by omega⟩, ?_⟩
    rw [ey]
    exact (hk _).mpr ⟨k, by omega⟩
/-- what together tells: the least integer from 0 on that leaves each remainder, or that there is none -/
def TogIs (ps : List (Int × Int)) : Option Int → Prop
  | .some x => 0 ≤ x ∧ Sol ps x ∧ ∀ y, 0 ≤ y → Sol ps y → x ≤ y
  | .none => ∀ y, ¬ Sol ps y
theorem Tog.is {ps : List (Int × Int)} {found step : Int} (T : Tog ps found step) : TogIs ps (.some found) := by
  refine ⟨T.lo, (T.sol found).mpr ⟨0, by omega⟩, fun y hy s => ?_⟩
  obtain ⟨k, e⟩ := (T.sol y).mp s
  have hi := T.hi
  have lo := T.lo
  have := T.pos
  by_cases hk : 0 ≤ k
  · have := Int.mul_nonneg (show 0 ≤ step by omega) hk; omega
  · have : step * k ≤ step * (-1) := Int.mul_le_mul_of_nonneg_left (by omega) (by omega)
    omega
theorem togIs_none_mono {ps qs : List (Int × Int)} (h : TogIs ps .none) : TogIs (ps ++ qs) .none := fun y s => h y (sol_perm (fun q hq => List.mem_append_left _ hq) s)
end NM
namespace NM
theorem dvd_lcmL {l : List Int} {z : Int} (h : z ∈ l) : z ∣ ((lcmL l : Nat) : Int) := by
  suffices ∀ (l : List Int) (a : Nat), (a ∣ l.foldl (fun g n => Nat.lcm g n.natAbs) a) ∧ (∀ z ∈ l, z.natAbs ∣ l.foldl (fun g n => Nat.lcm g n.natAbs) a) from
    Int.natAbs_dvd.mp (Int.natCast_dvd_natCast.mpr ((this l 1).2 z h))
  intro l
  induction l with
  | nil => exact fun a => ⟨Nat.dvd_refl a, fun z h => nomatch h⟩
  | cons y l ih =>
    intro a
    have q := ih (Nat.lcm a y.natAbs)
    refine ⟨Nat.dvd_trans (Nat.dvd_lcm_left a y.natAbs) q.1, fun z hz => ?_⟩
    rcases List.mem_cons.mp hz with e | e
    · rw [e]; exact Nat.dvd_trans (Nat.dvd_lcm_right a y.natAbs) q.1
    · exact q.2 z e
theorem lcmL_dvd {l : List Int} {y : Int} (h : ∀ z ∈ l, z ∣ y) : ((lcmL l : Nat) : Int) ∣ y := by
  suffices ∀ (l : List Int) (a : Nat), a ∣ y.natAbs → (∀ z ∈ l, z ∣ y) → l.foldl (fun g n => Nat.lcm g n.natAbs) a ∣ y.natAbs from
    Int.dvd_natAbs.mp (Int.natCast_dvd_natCast.mpr (this l 1 (Nat.one_dvd _) h))
  intro l
  induction l with
  | nil => exact fun a ha _ => ha
  | cons z l ih =>
    intro a ha h
    exact ih _ (Nat.lcm_dvd ha (Int.natAbs_dvd_natAbs.mpr (h z List.mem_cons_self))) fun w hw => h w (List.mem_cons_of_mem _ hw)
theorem TogIs.mod {ps : List (Int × Int)} {o : Option Int} (h : TogIs ps o) {w L : Int} (s : Sol ps w) (hp : 0 < L) (hd : ∀ q ∈ ps, q.2 ∣ L) (hL : ∀ y z, Sol ps y → Sol ps z → L ∣ y - z) : o = .some (w % L) := by
  cases o with
  | none => exact absurd s (h w)
  | some x =>
    obtain ⟨x0, xs, xm⟩ := h
    have e := Int.mul_ediv_add_emod w L
    have n0 := Int.emod_nonneg w (show L ≠ 0 by omega)
    have n1 := Int.emod_lt_of_pos w hp
    have sm : Sol ps (w % L) := fun q hq => by
      have h1 := s q hq
      have h2 := dvd_mr (w / L) (hd q hq)
      have h3 := Int.dvd_sub h1 h2
      have e3 : w - q.1 - L * (w / L) = w % L - q.1 := by omega
      rwa [e3] at h3
    have le := xm _ n0 sm
    obtain ⟨k, hk⟩ := hL _ _ sm xs
    have : k = 0 := by
      rcases Int.lt_trichotomy k 0 with z | z | z
      · have : L * k < 0 := Int.mul_neg_of_pos_of_neg hp z
        omega
      · exact z
      · have : L * 1 ≤ L * k := Int.mul_le_mul_of_nonneg_left (by omega) (by omega)
        omega
    rw [this, Int.mul_zero] at hk
    congr 1
    omega
theorem TogIs.ex {ps : List (Int × Int)} {o : Option Int} (h : TogIs ps o) {w : Int} (s : Sol ps w) : ∃ x, o = .some x ∧ Sol ps x := by
  cases o with
  | none => exact absurd s (h w)
  | some x => exact ⟨x, rfl, h.2.1⟩
/-- two that leave the same by coprime divisors meet -/
theorem bezout {a b : Int} (hb : 0 < b) (h : Nat.gcd b.natAbs a.natAbs = 1) : ∃ u, b ∣ u * a - 1 := by
  suffices ∀ (m : Nat) (l r f g : Int), Euc a b l r f g → r.toNat = m → ∃ u, b ∣ u * a - 1 from this _ _ _ _ _ (Euc.start hb) rfl
  intro m
  induction m using Nat.strongRecOn with
  | ind m ih =>
    intro l r f g E hm
    by_cases h0 : r = 0
    · subst h0; exact ⟨f, E.fin h⟩
    · exact ih _ (by rw [← hm]; exact E.less h0) _ _ _ _ (E.turn h0) rfl
end NM

namespace NM
/-- the same by trying: t0 the first turn of step that leaves r by d, m the least turns of step that d divides -/
theorem Tog.due {ps : List (Int × Int)} {found step r d : Int} (T : Tog ps found step) {t0 m : Nat} (hdv : d ∣ found + step * (t0 : Int) - r) (hmin : ∀ t : Nat, t < t0 → ¬ d ∣ found + step * (t : Int) - r)
    (hm : 1 ≤ m) (hmd : d ∣ step * (m : Int)) (hmm : ∀ j : Nat, 1 ≤ j → j < m → ¬ d ∣ step * (j : Int)) : Tog (ps ++ [(r, d)]) (found + step * (t0 : Int)) (step * (m : Int)) := by
  have sp := T.pos
  have lo := T.lo
  have hi := T.hi
  have lt : t0 < m := by
    apply Nat.lt_of_not_le
    intro h
    refine hmin (t0 - m) (by omega) ?_
    have q := Int.dvd_sub hdv hmd
    have e : found + step * (t0 : Int) - r - step * (m : Int) = found + step * ((t0 - m : Nat) : Int) - r := by
      rw [Int.natCast_sub h, Int.mul_sub]; omega
    rwa [e] at q
  have st := Int.mul_nonneg (Int.le_of_lt sp) (Int.natCast_nonneg t0)
  have st2 : step * ((t0 : Int) + 1) ≤ step * (m : Int) := Int.mul_le_mul_of_nonneg_left (by omega) (by omega)
  rw [Int.mul_add, Int.mul_one] at st2
  refine ⟨Int.mul_pos sp (by omega), by omega, by omega, fun y => ?_⟩
  rw [sol_snoc, T.sol y]
  constructor
  · rintro ⟨⟨k, ek⟩, h2⟩
    have e1 : y - r - (found + step * (t0 : Int) - r) = step * (k - t0) := by rw [Int.mul_sub]; omega
    have q := Int.dvd_sub h2 hdv
    rw [e1] at q
    have em := Int.mul_ediv_add_emod (k - t0) (m : Int)
    have s0 := Int.emod_nonneg (k - t0) (show (m : Int) ≠ 0 by omega)
    have s1 := Int.emod_lt_of_pos (k - t0) (show (0 : Int) < m by omega)
    have z : (k - t0) % (m : Int) = 0 := by
      apply Classical.byContradiction
      intro hne
      refine hmm ((k - t0) % (m : Int)).toNat (by omega) (by omega) ?_
      have q2 := dvd_mr ((k - t0) / (m : Int)) hmd
      have q3 := Int.dvd_sub q q2
      have e2 : step * (k - t0) - step * (m : Int) * ((k - t0) / (m : Int)) = step * ((((k - t0) % (m : Int)).toNat : Nat) : Int) := by
        rw [Int.mul_assoc, ← Int.mul_sub]; congr 1; omega
      rwa [e2] at q3
    refine ⟨(k - t0) / (m : Int), ?_⟩
    rw [Int.mul_assoc]
    have e3 : (m : Int) * ((k - t0) / (m : Int)) = k - t0 := by omega
    rw [e3, Int.mul_sub]; omega
  · rintro ⟨q, eq⟩
    have e1 : y = found + step * ((t0 : Int) + m * q) := by
      rw [Int.mul_add, ← Int.mul_assoc]; omega
    refine ⟨⟨(t0 : Int) + m * q, by omega⟩, ?_⟩
    have q2 := dvd_mr q hmd
    have q3 := Int.dvd_add hdv q2
    have e2 : found + step * (t0 : Int) - r + step * (m : Int) * q = y - r := by omega
    rwa [e2] at q3
theorem Tog.dueNone {ps : List (Int × Int)} {found step r d : Int} (T : Tog ps found step) (hd : 0 < d) (h : ∀ t : Nat, (t : Int) < d → ¬ d ∣ found + step * (t : Int) - r) (y : Int) : ¬ Sol (ps ++ [(r, d)]) y := by
  intro s
  obtain ⟨s1, s2⟩ := sol_snoc.mp s
  obtain ⟨k, ek⟩ := (T.sol y).mp s1
  have em := Int.mul_ediv_add_emod k d
  have k0 := Int.emod_nonneg k (show d ≠ 0 by omega)
  have k1 := Int.emod_lt_of_pos k hd
  refine h (k % d).toNat (by omega) ?_
  have q : d ∣ step * (d * (k / d)) := dvd_ml step (Int.dvd_mul_right d (k / d))
  have q2 := Int.dvd_sub s2 q
  have e : y - r - step * (d * (k / d)) = found + step * (((k % d).toNat : Nat) : Int) - r := by
    have e2 : (((k % d).toNat : Nat) : Int) = k - d * (k / d) := by omega
    rw [e2, Int.mul_sub]; omega
  rwa [e] at q2
theorem TogIs.uniq {ps : List (Int × Int)} {o o' : Option Int} (h : TogIs ps o) (h' : TogIs ps o') : o = o' := by
  cases o with
  | none =>
    cases o' with
    | none => rfl
    | some y => exact absurd h'.2.1 (h y)
  | some x =>
    cases o' with
    | none => exact absurd h.2.1 (h' x)
    | some y =>
      have a := h.2.2 y h'.1 h'.2.1
      have b := h'.2.2 x h.1 h.2.1
      congr 1
      omega
end NM

namespace My
open PySem PySem.Spec PyProof.Rows L2 StX
def top (i : Nat) : Stmt := PySem.Challenge.pw_wheelreach_k02_divisors_and_multiples_by.main.body.getD i (.Pass ⟨0, 0, 0, 0⟩)
abbrev s_is_whole : Stmt := top 5
abbrev s_is_from : Stmt := top 6
abbrev s_common : Stmt := top 7
abbrev s_multiple : Stmt := top 8
abbrev s_apart : Stmt := top 9
abbrev s_pen : Stmt := top 11
abbrev s_draw : Stmt := top 12
abbrev s_pick : Stmt := top 13
abbrev s_heard : Stmt := top 14
abbrev s_asked : Stmt := top 15
abbrev s_by_common : Stmt := top 16
abbrev s_by_multiple : Stmt := top 17
abbrev s_by_apart : Stmt := top 18
abbrev s_numbers_right : Stmt := top 19
abbrev s_apart_right : Stmt := top 20
abbrev s_refused_right : Stmt := top 21
abbrev s_fifty : Stmt := top 22
abbrev s_law : Stmt := top 23
abbrev s_BadNumber_init : Stmt := inClass (top 3) 0
theorem sc_is_whole : FnScope ["value"] ["value"] (defScope s_is_whole) := ⟨rfl, rfl, rfl, by decide +kernel, rfl, by decide +kernel, by decide +kernel⟩
theorem sc_is_from : FnScope ["value", "low"] ["value", "low"] (defScope s_is_from) := ⟨rfl, rfl, rfl, by decide +kernel, rfl, by decide +kernel, by decide +kernel⟩
theorem sc_common : FnScope ["numbers", "number", "found"] ["numbers"] (defScope s_common) := ⟨rfl, rfl, rfl, by decide +kernel, rfl, by decide +kernel, by decide +kernel⟩
theorem sc_multiple : FnScope ["numbers", "number", "found"] ["numbers"] (defScope s_multiple) := ⟨rfl, rfl, rfl, by decide +kernel, rfl, by decide +kernel, by decide +kernel⟩
theorem sc_apart : FnScope ["d", "period", "left"] ["d", "period"] (defScope s_apart) := ⟨rfl, rfl, rfl, by decide +kernel, rfl, by decide +kernel, by decide +kernel⟩
theorem sc_pen : FnScope ["_law_script"] ["_law_script"] (defScope s_pen) := ⟨rfl, rfl, rfl, by decide +kernel, rfl, by decide +kernel, by decide +kernel⟩
theorem sc_draw : FnScope ["_law_pen_here", "_law_many", "_law_digit", "_law_begun", "_law_raw", "_law_great", "_law_stirred"] ["_law_pen_here", "_law_many"] (defScope s_draw) := ⟨rfl, rfl, rfl, by decide +kernel, rfl, by decide +kernel, by decide +kernel⟩
theorem sc_pick : FnScope ["_law_pen_here", "_law_some"] ["_law_pen_here", "_law_some"] (defScope s_pick) := ⟨rfl, rfl, rfl, by decide +kernel, rfl, by decide +kernel, by decide +kernel⟩
theorem sc_heard : FnScope ["_law_ask", "_law_raised", "error"] ["_law_ask"] (defScope s_heard) := ⟨rfl, rfl, rfl, by decide +kernel, rfl, by decide +kernel, by decide +kernel⟩
theorem sc_asked : FnScope ["_law_some", "_law_is_common", "_law_ask"] ["_law_some", "_law_is_common"] (defScope s_asked) := ⟨rfl, rfl, rfl, by decide +kernel, rfl, by decide +kernel, by decide +kernel⟩
theorem sc_by_common : FnScope ["_law_some", "_law_found", "_law_number", "_law_one"] ["_law_some"] (defScope s_by_common) := ⟨rfl, rfl, rfl, by decide +kernel, rfl, by decide +kernel, by decide +kernel⟩
theorem sc_by_multiple : FnScope ["_law_some", "_law_found", "_law_one"] ["_law_some"] (defScope s_by_multiple) := ⟨rfl, rfl, rfl, by decide +kernel, rfl, by decide +kernel, by decide +kernel⟩
theorem sc_by_apart : FnScope ["_law_d", "_law_period", "_law_far"] ["_law_d", "_law_period"] (defScope s_by_apart) := ⟨rfl, rfl, rfl, by decide +kernel, rfl, by decide +kernel, by decide +kernel⟩
theorem sc_numbers_right : FnScope ["_law_pen_here", "_law_some", "_law_turn", "_law_factor", "_law_few", "_law_one"] ["_law_pen_here"] (defScope s_numbers_right) := ⟨rfl, rfl, rfl, by decide +kernel, rfl, by decide +kernel, by decide +kernel⟩
theorem sc_apart_right : FnScope ["_law_pen_here", "_law_period", "_law_d", "_law_far", "_law_due"] ["_law_pen_here"] (defScope s_apart_right) := ⟨rfl, rfl, rfl, by decide +kernel, rfl, by decide +kernel, by decide +kernel⟩
theorem sc_refused_right : FnScope ["_law_pen_here", "_law_odd", "_law_bad", "_law_heard_here"] ["_law_pen_here"] (defScope s_refused_right) := ⟨rfl, rfl, rfl, by decide +kernel, rfl, by decide +kernel, by decide +kernel⟩
theorem sc_fifty : FnScope ["_law_last"] ["_law_last"] (defScope s_fifty) := ⟨rfl, rfl, rfl, by decide +kernel, rfl, by decide +kernel, by decide +kernel⟩
theorem sc_law : FnScope ["_law_script", "_law_pen_here", "_law_turn", "_law_told"] ["_law_script"] (defScope s_law) := ⟨rfl, rfl, rfl, by decide +kernel, rfl, by decide +kernel, by decide +kernel⟩
theorem sc_BadNumber_init : FnScope ["self", "value"] ["self", "value"] (defScope s_BadNumber_init) := ⟨rfl, rfl, rfl, by decide +kernel, rfl, by decide +kernel, by decide +kernel⟩
section
variable {P : Program} {w : World} {K : PySem.W.Frag} {mg : Str → Option Value} {base : Heap}
/-! ### rules and words of our own -/
/-- x(e, ..), x a def whose promise is told of the arguments as they are passed -/
theorem pe_callR {X : Cx} {CX : CXT} {k : Nat} {f : Addr} {sp : Sp} {E : XK} {x : Str} {e : Expr} {es : List Expr} {t : TA} {p pos : Pos} (F : FnR X.prog X.w X.K X.mg X.base CX k f sp) (hr : Room k X.A) (hk : PySem.W.keepIn X.K (.ref f) = true) (hg : Gl X x) (hm : X.mg x = some (.ref f)) (hx : Passes CX X E)
    (ha : PA X (e :: es) t) (hd : (x == ("__debug__" : Str)) = false := by decide) (he : starEach (e :: es) X.env = (false, eval e X.env) :: starEach es X.env := by rfl) (hpl : (backTo pos (starEach es X.env)).any (·.1) = false := by rfl) :
    PE X (.Call (.Name x p) (e :: es) [] pos) (fun σ H Q => t σ H fun vs H1 => sp vs H1 Q E) := by
  refine ⟨fun pins s σ H Q I h => ?_⟩
  refine wpAny_Call_Name_kw (ld_glob I hg hm ?_ hd)
  refine PySem.W.callWith_K (h₀ := X.base) I.ok.mod.kin hk (thn (ha.run pos pins s σ H _ I h) fun us s1 ⟨vs, H1, I1, r, q⟩ => ⟨I1.kIn, ?_⟩) he hpl
  exact wpAny_call (run_fnR F hr hx I1 r q)
theorem pe_callR0 {X : Cx} {CX : CXT} {k : Nat} {f : Addr} {sp : Sp} {E : XK} {x : Str} {p pos : Pos} (F : FnR X.prog X.w X.K X.mg X.base CX k f sp) (hr : Room k X.A) (hk : PySem.W.keepIn X.K (.ref f) = true) (hg : Gl X x) (hm : X.mg x = some (.ref f)) (hx : Passes CX X E)
    (hd : (x == ("__debug__" : Str)) = false := by decide) : PE X (.Call (.Name x p) [] [] pos) (fun σ H Q => sp [] H Q E) := by
  refine ⟨fun pins s σ H Q I h => ?_⟩
  refine wpAny_Call_Name_kw (ld_glob I hg hm ?_ hd)
  exact PySem.W.callWith_K0 I.kIn hk (wpAny_call (run_fnR (us := []) F hr hx I .nil h))
/-- def f(*v) of the text -/
theorem star_ok {P : Program} {w : World} {K : PySem.W.Frag} {mg : Str → Option Value} {base : Heap} {k : Nat} {x qual pv : Str} {st : Stmt} {f : Addr} {fd : FuncData} {N : List Str} {sp : List V → Hp → VK → XK → Prop}
    (F : Fun K x qual st f fd) (S : FnScope N [pv] (defScope st))
    (hb : ∀ (kV doc pm : Value) (an : Option Addr) (cdv ct : Value) (rest : List Value), bindArgs (PySem.W.fnOf x qual (defArgs st) (defBody st) (defScope st) .none kV doc pm an cdv ct) ⟨rest, []⟩ = (newTuple rest >>= fun t => pure [(pv, t)]))
    (hbody : ∀ (cdv : Value) (A : Around) (outer : List Env) (s : Shared) (H : Hp) (vs : List V) (p : Addr) (H0 : Hp) (Q : VK) (E : XK), Room k (A.deeper (envOfC qual (defScope st) s.heap.objs.size f cdv)) → sp vs H0 Q E → vs.length ≤ sizeLine → H0 p = Option.none → H = upd H0 p (.tup vs) →
      ∃ t, PSs (cxOf CX0 P w K mg base N qual (defScope st) f cdv A outer s H E).nox (defBody st) t ∧ t { nx := fun _ H' => Q .non H', rt := Q } (start N [V.ref p]) H) :
    FnR P w K mg base CX0 (k + 1) f (fun vs H Q E => vs.length ≤ sizeLine ∧ sp vs H Q E) := by
  obtain ⟨oc, od, kV, doc, pm, an, cdv, ct, osl, rfl, lk, hcd⟩ := F.ex
  refine FnR.imp (fn_star (ps := []) (pv := pv) (CX := CX0) (sp := fun ws H Q E => ∃ (vs : List V) (p : Addr) (H0 : Hp), ws = [V.ref p] ∧ sp vs H0 Q E ∧ vs.length ≤ sizeLine ∧ H0 p = Option.none ∧ H = upd H0 p (.tup vs)) lk hcd S cxUp_none (fun us rest hl => ?_) fun A outer s H vs Q E hr h => ?_) fun vs H Q E h => ?_
  · have e : us = [] := List.length_eq_zero_iff.mp hl
    subst e
    show bindArgs _ ⟨rest, []⟩ = _
    rw [hb]
    rfl
  · obtain ⟨ws, p, H0, rfl, hs, hl, hp, rfl⟩ := h
    obtain ⟨t, ht, hq⟩ := hbody cdv A outer s _ ws p H0 Q E hr hs hl hp rfl
    exact ⟨t, ht.nox, hq⟩
  · exact ⟨[], vs, rfl, rfl, h.1, fun p hp => ⟨vs, p, H, rfl, h.2, h.1, hp, rfl⟩⟩
/-- all but p is as it was -/
structure Fr (p : Addr) (H H' : Hp) : Prop where
  keep : ∀ b o, b ≠ p → H b = some o → H' b = some o
  head : ∀ v xs, H p = some (.lst (v :: xs)) → ∃ ys, H' p = some (.lst (v :: ys))
instance {p : Addr} {H H' : Hp} : CoeFun (Fr p H H') fun _ => ∀ b o, b ≠ p → H b = some o → H' b = some o := ⟨Fr.keep⟩
theorem Fr.refl (p : Addr) (H : Hp) : Fr p H H := ⟨fun _ _ _ h => h, fun _ xs h => ⟨xs, h⟩⟩
theorem Fr.trans {p : Addr} {H H1 H2 : Hp} (a : Fr p H H1) (b : Fr p H1 H2) : Fr p H H2 := ⟨fun c o n h => b.keep c o n (a.keep c o n h), fun v xs h => by
  obtain ⟨ys, h1⟩ := a.head v xs h
  exact b.head v ys h1⟩
theorem same_fr {p : Addr} {H H' : Hp} (s : Same H H') : Fr p H H' := ⟨fun b o _ h => s b o h, fun _ xs h => ⟨xs, s _ _ h⟩⟩
theorem same_new {H : Hp} {p : Addr} {o : HO} (h : H p = Option.none) : Same H (upd H p o) := fun b u e => by
  rw [upd_ne (ne_of_none e h)]; exact e
theorem fr_upd {H : Hp} {p : Addr} {v : V} {xs ys : List V} (hp : H p = some (.lst (v :: xs))) : Fr p H (upd H p (.lst (v :: ys))) := ⟨fun b u n e => by rw [upd_ne n]; exact e, fun v' xs' e => by
  rw [hp] at e
  cases e
  exact ⟨ys, upd_same⟩⟩
theorem Fr.seq {K : PySem.W.Frag} {p a : Addr} {H H' : Hp} {xs : List V} (e : Fr p H H') (n : a ≠ p) (h : SqL K H a xs) : SqL K H' a xs := by
  rcases h with (h | ⟨o, h⟩) | h
  · exact .inl (.inl (e _ _ n h))
  · exact .inl (.inr ⟨o, e _ _ n h⟩)
  · exact .inr h
/-- the state of the draws: the cells, the index, what is left of a great one -/
def Pen (H : Hp) (p : Addr) (n : Nat) : Prop := ∃ (c : Addr) (ns : List Int) (i g : Int), H p = some (.lst [.ref c, .int i, .int g]) ∧ H c = some (.lst (ns.map V.int)) ∧ 0 ≤ i ∧ i ≤ (n : Int) ∧ 0 ≤ g ∧ ns.length ≤ 63
theorem Pen.same {H H' : Hp} {p : Addr} {n : Nat} (h : Pen H p n) (s : Same H H') : Pen H' p n := by
  obtain ⟨c, ns, i, g, h1, h2, h3⟩ := h
  exact ⟨c, ns, i, g, s _ _ h1, s _ _ h2, h3⟩
theorem Pen.mono {H : Hp} {p : Addr} {n m : Nat} (h : Pen H p n) (l : n ≤ m) : Pen H p m := by
  obtain ⟨c, ns, i, g, h1, h2, h3, h4, h5⟩ := h
  exact ⟨c, ns, i, g, h1, h2, h3, by omega, h5⟩
theorem pen_ne {H : Hp} {p c : Addr} {x y : V} {a : Addr} {ns : List Int} (h1 : H p = some (.lst [.ref a, x, y])) (h2 : H c = some (.lst (ns.map V.int))) : c ≠ p := fun e => by
  rw [e, h1] at h2
  cases ns with
  | nil => cases h2
  | cons z r => injection h2 with h2; injection h2 with h2; injection h2 with h2; cases h2
theorem Pen.at {H : Hp} {p : Addr} {n : Nat} (h : Pen H p n) : ∃ xs, H p = some (.lst xs) := by
  obtain ⟨c, ns, i, g, h1, _⟩ := h
  exact ⟨_, h1⟩
theorem Pen.neq {H : Hp} {p a : Addr} {n : Nat} (h : Pen H p n) (e : H a = Option.none) : a ≠ p := fun z => by
  obtain ⟨xs, h⟩ := h.at
  rw [z, h] at e; cases e
theorem if_true_of {c : Bool} {A B : Prop} (hc : c = true) (h : A) : if c = true then A else B := by
  rw [if_pos hc]; exact h
theorem if_false_of {c : Bool} {A B : Prop} (hc : c = false) (h : B) : if c = true then A else B := by
  rw [hc, if_neg Bool.false_ne_true]; exact h
theorem atI_in {ns : List Int} {j : Int} (h0 : 0 ≤ j) (h1 : j < (ns.length : Int)) : ∃ z, atI (ns.map V.int) j = some (V.int z) := by
  have h : j.toNat < ns.length := by omega
  exact ⟨ns[j.toNat], at_of (j := j.toNat) (by omega) (by rw [List.getElem?_map]; simp [h])⟩
theorem atI_any {xs : List V} {j : Int} (h0 : 0 ≤ j) (h1 : j < (xs.length : Int)) : ∃ z, z ∈ xs ∧ atI xs j = some z := by
  have h : j.toNat < xs.length := by omega
  exact ⟨xs[j.toNat], List.getElem_mem h, at_of (j := j.toNat) (by omega) (by simp [h])⟩
theorem cut_ints (ns : List Int) (lo hi : Option Int) : ∃ ms : List Int, cutV (ns.map V.int) lo hi = ms.map V.int ∧ ms.length ≤ ns.length := by
  refine ⟨(ns.drop (HT.sIx (ns.map V.int).length 0 lo)).take (HT.sIx (ns.map V.int).length (ns.map V.int).length hi - HT.sIx (ns.map V.int).length 0 lo), ?_, ?_⟩
  · unfold cutV
    rw [List.map_take, List.map_drop]
  · rw [List.length_take, List.length_drop]
    omega
theorem stir1 {r b d e : Int} (h0 : 0 ≤ r) (h1 : r < 2147483648) (b0 : 0 ≤ b) (b1 : b ≤ 100000) (d0 : 0 ≤ d) (d1 : d ≤ 100000) (e0 : 0 ≤ e) (e1 : e ≤ 100000) : (r + d * b + e).natAbs < 2 ^ 64 := by
  have h2 := Int.mul_nonneg d0 b0
  have h3 : d * b ≤ d * 100000 := Int.mul_le_mul_of_nonneg_left b1 d0
  omega
theorem stir2 {s b c d e : Int} (h0 : 0 ≤ s) (h1 : s < 2147483648) (b0 : 0 ≤ b) (b1 : b ≤ 100000) (c0 : 0 ≤ c) (c1 : c ≤ 100000) (d0 : 0 ≤ d) (d1 : d ≤ 100000) (e0 : 0 ≤ e) (e1 : e ≤ 100000) : (s * (2 * b + c) + d * b * b + e).natAbs < 2 ^ 64 := by
  have h2 := Int.mul_nonneg h0 (show 0 ≤ 2 * b + c by omega)
  have h3 : s * (2 * b + c) ≤ 2147483648 * (2 * b + c) := Int.mul_le_mul_of_nonneg_right (by omega) (by omega)
  have h4 := Int.mul_nonneg d0 b0
  have h5 := Int.mul_nonneg h4 b0
  have h6 : d * b ≤ d * 100000 := Int.mul_le_mul_of_nonneg_left b1 d0
  have h7 : d * b * b ≤ d * b * 100000 := Int.mul_le_mul_of_nonneg_left b1 h4
  omega
theorem small64 {i : Int} (h0 : 0 ≤ i) (h1 : i < 2147483648) : -(2 ^ 64) < i ∧ i < 2 ^ 64 := by omega
theorem fmod_pos {x m : Int} (hm : 0 < m) : 0 ≤ x.fmod m ∧ x.fmod m < m := by
  rw [Int.fmod_eq_emod_of_nonneg x (by omega)]
  exact ⟨Int.emod_nonneg _ (by omega), Int.emod_lt_of_pos _ hm⟩
theorem dp_ints {K : PySem.W.Frag} {H : Hp} : ∀ ns : List Int, DpAll K H (ns.map V.int) (ns.map PyData.int)
  | [] => .nil
  | z :: r => .cons (.int z) (dp_ints r)
theorem eqvAll_ints : ∀ ns : List Int, PyData.eqvAll (ns.map PyData.int) (ns.map PyData.int) = true
  | [] => by simp [PyData.eqvAll]
  | z :: r => by simp [PyData.eqvAll, PyData.eqv, eqvAll_ints r]
theorem eqv_ints (ns : List Int) : PyData.eqv (.list (ns.map PyData.int)) (.list (ns.map PyData.int)) = true := by
  rw [PyData.eqv]; exact eqvAll_ints ns

/-! ### defs told for callers around whom nothing is being shown by repr -/
def FnG (P : Program) (w : World) (K : PySem.W.Frag) (mg : Str → Option Value) (base : Heap) (CX : CXT) (k : Nat) (f : Addr) (sp : Sp) : Prop :=
  ∀ (A : Around) (outer : List Env) (s : Shared) (H : Hp) (us : List Value) (vs : List V) (Q : VK) (E : XK), A.guards = some [] → Room k A → Env0 P w K mg base A outer s H → Vals vs us → sp vs H Q E →
    codeAny (model P w) A (.call (.ref f) { pos := us, kw := [] }) (CR CX outer P w H s Q E) s
theorem FnG.of {P : Program} {w : World} {K : PySem.W.Frag} {mg : Str → Option Value} {base : Heap} {CX : CXT} {k : Nat} {f : Addr} {sp : Sp} (F : FnR P w K mg base CX k f sp) : FnG P w K mg base CX k f sp :=
  fun A o s H us vs Q E _ hr => F A o s H us vs Q E hr
theorem FnG.mk {P : Program} {w : World} {K : PySem.W.Frag} {mg : Str → Option Value} {base : Heap} {CX : CXT} {k : Nat} {x qual : Str} {st : Stmt} {f : Addr} {fd : FuncData} {N ps : List Str} {sp : Sp}
    (F : Fun K x qual st f fd) (S : FnScope N ps (defScope st)) (B : Binds K fd ps []) (len : ∀ vs H Q E, sp vs H Q E → vs.length = ps.length)
    (go : ∀ (cdv : Value) (A : Around) (outer : List Env) (s : Shared) (H : Hp) (vs : List V) (Q : VK) (E : XK), (A.deeper (envOfC qual (defScope st) s.heap.objs.size f cdv)).guards = some [] → Room k (A.deeper (envOfC qual (defScope st) s.heap.objs.size f cdv)) → sp vs H Q E →
      ∃ t, PSs (cxOf CX P w K mg base N qual (defScope st) f cdv A outer s H E) (defBody st) t ∧ t { nx := fun _ H1 => Q .non H1, rt := Q } (start N vs) H) : FnG P w K mg base CX (k + 1) f sp := by
  obtain ⟨oc, od, kV, doc, pm, an, cdv, ct, osl, e, lk, hcd⟩ := F.ex
  subst e
  intro A outer s H us vs Q E hg hr e0 rv hs
  have hl := len _ _ _ _ hs
  have hu : (us ++ []).length = ps.length := by rw [List.append_nil, ← hl]; exact rv.length.symm
  have b := B s us (e0.mod.kin.keeps fun b o z => (e0.bs b o z).1) hu
  rw [List.append_nil] at b
  exact LamX.run_ofS lk hcd S hr e0 b rv hl fun hr1 => go cdv A outer s H vs Q E hg hr1 hs
theorem FnG.mk0 {P : Program} {w : World} {K : PySem.W.Frag} {mg : Str → Option Value} {base : Heap} {k : Nat} {x qual : Str} {st : Stmt} {f : Addr} {fd : FuncData} {N ps : List Str} {sp : Sp}
    (F : Fun K x qual st f fd) (S : FnScope N ps (defScope st)) (B : Binds K fd ps []) (len : ∀ vs H Q E, sp vs H Q E → vs.length = ps.length)
    (go : ∀ (cdv : Value) (A : Around) (outer : List Env) (s : Shared) (H : Hp) (vs : List V) (Q : VK) (E : XK), (A.deeper (envOfC qual (defScope st) s.heap.objs.size f cdv)).guards = some [] → Room k (A.deeper (envOfC qual (defScope st) s.heap.objs.size f cdv)) → sp vs H Q E →
      ∃ t, PSs (cxOf CX0 P w K mg base N qual (defScope st) f cdv A outer s H E).nox (defBody st) t ∧ t { nx := fun _ H1 => Q .non H1, rt := Q } (start N vs) H) : FnG P w K mg base CX0 (k + 1) f sp :=
  FnG.mk F S B len fun cdv A outer s H vs Q E hg hr hs => by
    obtain ⟨t, ht, q⟩ := go cdv A outer s H vs Q E hg hr hs
    exact ⟨t, ht.nox, q⟩
/-- .. of a def whose code object is known -/
theorem FnG.mkL {P : Program} {w : World} {K : PySem.W.Frag} {mg : Str → Option Value} {base : Heap} {k : Nat} {x qual : Str} {st : Stmt} {f c : Addr} {N ps : List Str} {sp : Sp} {oc : Value} {od an : Option Addr} {osl : Array (Option Value)} {kV doc pm ct : Value}
    (lk : K.lookup f = some ⟨oc, od, .func (PySem.W.fnOf x qual (defArgs st) (defBody st) (defScope st) .none kV doc pm an (.ref c) ct), osl⟩) (hcd : PySem.W.codeIn K (.ref c) qual = true) (S : FnScope N ps (defScope st))
    (B : Binds K (PySem.W.fnOf x qual (defArgs st) (defBody st) (defScope st) .none kV doc pm an (.ref c) ct) ps []) (len : ∀ vs H Q E, sp vs H Q E → vs.length = ps.length)
    (go : ∀ (A : Around) (outer : List Env) (s : Shared) (H : Hp) (vs : List V) (Q : VK) (E : XK), (A.deeper (envOfC qual (defScope st) s.heap.objs.size f (.ref c))).guards = some [] → Room k (A.deeper (envOfC qual (defScope st) s.heap.objs.size f (.ref c))) → sp vs H Q E →
      ∃ t, PSs (cxOf CX0 P w K mg base N qual (defScope st) f (.ref c) A outer s H E).nox (defBody st) t ∧ t { nx := fun _ H1 => Q .non H1, rt := Q } (start N vs) H) : FnG P w K mg base CX0 (k + 1) f sp := by
  intro A outer s H us vs Q E hg hr e0 rv hs
  have hl := len _ _ _ _ hs
  have hu : (us ++ []).length = ps.length := by rw [List.append_nil, ← hl]; exact rv.length.symm
  have b := B s us (e0.mod.kin.keeps fun b o z => (e0.bs b o z).1) hu
  rw [List.append_nil] at b
  exact LamX.run_ofS lk hcd S hr e0 b rv hl fun hr1 => by
    obtain ⟨t, ht, q⟩ := go A outer s H vs Q E hg hr1 hs
    exact ⟨t, ht.nox, q⟩
/-- x(e, ..), x such a def -/
theorem pe_callG {X : Cx} {CX : CXT} {k : Nat} {f : Addr} {sp : Sp} {E : XK} {x : Str} {e : Expr} {es : List Expr} {t : TA} {p pos : Pos} (gu : X.A.guards = some []) (F : FnG X.prog X.w X.K X.mg X.base CX k f sp) (hr : Room k X.A) (hk : PySem.W.keepIn X.K (.ref f) = true) (hg : Gl X x) (hm : X.mg x = some (.ref f)) (hx : Passes CX X E)
    (ha : PA X (e :: es) t) (hd : (x == ("__debug__" : Str)) = false := by decide) (he : starEach (e :: es) X.env = (false, eval e X.env) :: starEach es X.env := by rfl) (hpl : (backTo pos (starEach es X.env)).any (·.1) = false := by rfl) :
    PE X (.Call (.Name x p) (e :: es) [] pos) (fun σ H Q => t σ H fun vs H1 => sp vs H1 Q E) := by
  refine ⟨fun pins s σ H Q I h => wpAny_Call_Name_kw (ld_glob I hg hm ?_ hd)⟩
  refine PySem.W.callWith_K (h₀ := X.base) I.ok.mod.kin hk (thn (ha.run pos pins s σ H _ I h) fun us s1 ⟨vs, H1, I1, r, q⟩ => ⟨I1.kIn, wpAny_call ?_⟩) he hpl
  refine codeAny_mono (F X.A X.stack s1 H1 us vs Q E gu hr I1.env0 r q) fun z s2 hz => ?_
  match z, hz with
  | .error er, hz => exact hx pins σ H1 s1 er s2 I1 hz
  | .ok (.ret u), hz => exact I1.after hz
/-! ### the law's entry, with tables of code objects and nothing being shown -/
section
variable {P : Program} {w : World} {K : PySem.W.Frag} {mg mb : Str → Option Value} {a : Addr} {cs : List (Addr × Addr)} {s : Shared} {vs : List Value} {ns : List Int}
open Classical in
/-- what is tracked at the entry: the script, if it is none of the written things, and the tables -/
noncomputable def H1st (K : PySem.W.Frag) (a : Addr) (cs : List (Addr × Addr)) (vs : List Value) (ns : List Int) : Hp := fun b =>
  if b = a ∧ K.lookup a = Option.none then some (.frz ({ cls := .type "list", data := .seq vs.toArray } : Obj) (.lst (ns.map V.int))) else if ∃ p ∈ cs, p.2 = b then some (.tbl #[]) else Option.none
theorem entry (KX : K.In s.heap) (G : s.heap.Ns mainGlobals mg) (Gb : s.heap.Ns builtinsNs mb) (bb : ∀ x : Str, x ≠ "__name__" → mb x = bootBuiltins x) (nl : s.heap.NoLimit) (ng : s.gens = #[])
    (tb : ∀ p ∈ cs, s.heap.get? p.2 = some ({ cls := .none, data := .fields #[] } : Obj)) (tk : ∀ p ∈ cs, K.lookup p.2 = Option.none) (ch : ∀ p ∈ cs, PySem.W.CodeHd s.heap p.1 p.2)
    (bm : ∃ (m : Addr) (o : Obj), mg "__builtins__" = some (.ref m) ∧ m ≠ builtinsNs ∧ s.heap.get? m = some o ∧ o.cls = .type "module" ∧ o.dict = some builtinsNs ∧ o.data = .plain)
    (sc : s.heap.get? a = some ({ cls := .type "list", data := .seq vs.toArray } : Obj)) (iv : IntsAre vs ns) (len : ns.length ≤ sizeLine) :
    ∃ (H : Hp) (base : Heap), K.In base ∧ base.Ns mainGlobals mg ∧ (∀ p ∈ cs, LamX.TabB base mg p.1 p.2) ∧ Env0 P w K mg base callerA [] s H ∧ (∀ p ∈ cs, H p.2 = some (.tbl #[])) ∧ SqL K H a (ns.map V.int) ∧
      ∀ b, H b = Option.none ∨ (∃ p ∈ cs, p.2 = b) ∨ ∃ o xs, H b = some (.frz o (.lst xs)) := by
  have rv := vals_ints iv
  have nt : ¬ ∃ p ∈ cs, p.2 = a := fun ⟨p, hp, e⟩ => by
    have z := tb p hp
    rw [e, sc] at z
    exact nomatch congrArg Obj.data (Option.some.inj z)
  -- what is tracked
  have tr : ∀ b u, H1st K a cs vs ns b = some u → (b = a ∧ K.lookup a = Option.none ∧ u = .frz ({ cls := .type "list", data := .seq vs.toArray } : Obj) (.lst (ns.map V.int))) ∨ ((∃ p ∈ cs, p.2 = b) ∧ u = .tbl #[]) := fun b u h => by
    unfold H1st at h
    split at h
    · rename_i c; exact .inl ⟨c.1, c.2, (Option.some.inj h).symm⟩
    · split at h
      · rename_i c; exact .inr ⟨c, (Option.some.inj h).symm⟩
      · cases h
  have tt : ∀ p ∈ cs, H1st K a cs vs ns p.2 = some (.tbl #[]) := fun p hp => by
    unfold H1st
    rw [if_neg (fun z : p.2 = a ∧ _ => nt ⟨p, hp, z.1⟩), if_pos ⟨p, hp, rfl⟩]
  have un : ∀ b o, s.heap.get? b = some o → (∀ v n, o.data ≠ .seq v n) → o.data ≠ .fields #[] → H1st K a cs vs ns b = Option.none := fun b o e n1 n2 => by
    match q : H1st K a cs vs ns b with
    | Option.none => rfl
    | some u =>
      exfalso
      rcases tr b u q with ⟨z, _, _⟩ | ⟨⟨p, hp, z⟩, _⟩
      · rw [z, sc] at e; cases e; exact n1 _ _ rfl
      · rw [← z, tb p hp] at e; cases e; exact n2 rfl
  have keep : ∀ {b : Addr} {o : Obj}, s.heap.get? b = some o → (∀ v n, o.data ≠ .seq v n) → o.data ≠ .fields #[] → (hidT s.heap (H1st K a cs vs ns)).get? b = some o := fun e n1 n2 => hidT_get e (un _ _ e n1 n2)
  have nsOf : ∀ {b : Addr} {m : Str → Option Value}, s.heap.Ns b m → (hidT s.heap (H1st K a cs vs ns)).Ns b m := fun {b m} ⟨o, es, ep, e, d, r⟩ => ⟨o, es, ep, keep e (fun v n z => by rw [d] at z; cases z) (fun z => by rw [d] at z; cases z), d, r⟩
  have kin : K.In (hidT s.heap (H1st K a cs vs ns)) := fun b o e => hidT_get (KX b o e) (by
    match q : H1st K a cs vs ns b with
    | Option.none => rfl
    | some u =>
      exfalso
      rcases tr b u q with ⟨z, z2, _⟩ | ⟨⟨p, hp, z⟩, _⟩
      · rw [z, z2] at e; cases e
      · rw [← z, tk p hp] at e; cases e)
  have md : L2.Mod K mg (hidT s.heap (H1st K a cs vs ns)) := { kin := kin, glob := nsOf G, blt := ⟨mb, nsOf Gb, bb⟩, nolimit := by obtain ⟨mc, q1, q2⟩ := nl; exact ⟨mc, nsOf q1, q2⟩ }
  have gl : ∀ p ∈ cs, mainGlobals ≠ p.2 := fun p hp z => by
    obtain ⟨o, es, ep, e, d, _⟩ := G
    rw [z, tb p hp] at e
    cases e
    cases d
  refine ⟨H1st K a cs vs ns, hidT s.heap (H1st K a cs vs ns), kin, nsOf G, fun p hp => ⟨?_, ?_, gl p hp⟩, ⟨rfl, md, fun b o e => of_hidT e, Nat.le_of_eq (hidT_size _ _), trivial, fun b hb => (List.not_mem_nil hb).elim, fun b u q => ?_, .of_eq ng⟩, tt, ?_, fun b => ?_⟩
  · obtain ⟨o, us, file, tf, flags, tg, inF, text, tt, q0, q1, q2, q3, rest⟩ := ch p hp
    refine ⟨o, us, file, tf, flags, tg, inF, text, tt, keep q0 (fun v n z => by rw [q2] at z; cases z) (fun z => ?_), q1, q2, q3, rest⟩
    rw [q2] at z
    cases z
    simp at q3
  · obtain ⟨m, o, b1, b2, b3, b4, b5, b6⟩ := bm
    refine ⟨m, o, b1, b2, fun z => ?_, fun z => ?_, keep b3 (fun v n z => by rw [b6] at z; cases z) (fun z => by rw [b6] at z; cases z), b4, b5, b6⟩
    · obtain ⟨o2, es, ep, e, d, _⟩ := G
      rw [z, e] at b3
      cases b3
      rw [d] at b6
      cases b6
    · rw [z, tb p hp] at b3
      cases b3
      cases b6
  · rcases tr b u q with ⟨z, _, z3⟩ | ⟨⟨p, hp, z⟩, z3⟩
    · rw [z, z3]
      exact ⟨sc, by rw [List.length_map]; exact len, vs, _, rv, sc⟩
    · rw [← z, z3]
      exact tb p hp
  · match q : K.lookup a with
    | Option.none => exact .inl (.inr ⟨_, by unfold H1st; rw [if_pos ⟨rfl, q⟩]⟩)
    | some o =>
      have e := KX a o q
      rw [sc] at e
      cases e
      exact .inr ⟨_, vs.toArray, _, q, rfl, rfl, rfl, by rw [List.size_toArray, iv.length]; exact len, by simpa using rv⟩
  · match q : H1st K a cs vs ns b with
    | Option.none => exact .inl rfl
    | some u =>
      rcases tr b u q with ⟨_, _, z3⟩ | ⟨z, _⟩
      · rw [z3]; exact .inr (.inr ⟨_, _, rfl⟩)
      · exact .inr (.inl z)
/-- what stood before the law stands behind it -/
theorem leave {H H2 : Hp} {s2 : Shared} (tb : ∀ p ∈ cs, s.heap.get? p.2 = some ({ cls := .none, data := .fields #[] } : Obj)) (ch : ∀ p ∈ cs, PySem.W.CodeHd s.heap p.1 p.2) (tt : ∀ p ∈ cs, H p.2 = some (.tbl #[]))
    (only : ∀ b, H b = Option.none ∨ (∃ p ∈ cs, p.2 = b) ∨ ∃ o xs, H b = some (.frz o (.lst xs))) (h1 : HOk P w H s.heap) (u : Un (frs []) [] H H2 s.heap s2.heap) (h2 : HOk P w H2 s2.heap) : OldK s.heap s2.heap := by
  have same : ∀ b o, ¬ (∃ p ∈ cs, p.2 = b) → s.heap.get? b = some o → s2.heap.get? b = some o := fun b o n e => by
    rcases only b with z | z | ⟨ob, xs, z⟩
    · exact u.keep b o e z List.not_mem_nil List.not_mem_nil
    · exact (n z).elim
    · have q1 := (h1 b _ z).1
      have q2 := (h2 b _ (u.frzs b ob _ z)).1
      rw [e] at q1
      rw [q2, Option.some.inj q1]
  have more : ∀ p ∈ cs, ∃ ps : Array Value, s2.heap.get? p.2 = some ({ cls := .none, data := .fields ps } : Obj) := fun p hp => by
    obtain ⟨ps, z⟩ := u.tbls p.2 #[] (tt p hp)
    exact ⟨_, h2 p.2 _ z⟩
  refine ⟨fun b o e => ?_, fun b o e => ?_⟩
  all_goals by_cases hb : ∃ p ∈ cs, p.2 = b
  · obtain ⟨p, hp, rfl⟩ := hb
    obtain ⟨ps, z⟩ := more p hp
    have e2 := e
    rw [tb p hp] at e2
    cases e2
    exact .inr (.inl ⟨((ch p hp).tab (tb p hp)).isCodeTable, rfl, #[], ps, rfl, by rw [Array.empty_append]; exact z⟩)
  · exact .inl (same b o hb e)
  · obtain ⟨p, hp, rfl⟩ := hb
    exact ⟨_, (more p hp).choose_spec⟩
  · exact ⟨o, same b o hb e⟩
end
/-- what is shown of the law behind the head: its promise, and the tables that it leans on -/
def LawG (l : PySem.W.OpenLaw) (w : World) (K : PySem.W.Frag) (k : Nat) (mg : Str → Option Value) (fa : Addr) (h : Heap) : Prop :=
  ∃ (cs : List (Addr × Addr)) (sp : Sp), (∀ p ∈ cs, h.get? p.2 = some ({ cls := .none, data := .fields #[] } : Obj)) ∧ (∀ p ∈ cs, K.lookup p.2 = Option.none) ∧ (∀ p ∈ cs, PySem.W.CodeHd h p.1 p.2) ∧
    (∀ (H : Hp) (a : Addr) (ns : List Int), ns.length ≤ 63 → (∀ z ∈ ns, Builtin.Int.intBits z ≤ 1048576) → (∀ p ∈ cs, H p.2 = some (.tbl #[])) → SqL K H a (ns.map V.int) → sp [.ref a] H (fun v _ => v = .bl true) fun _ _ _ => False) ∧
    ∀ base : Heap, K.In base → base.Ns mainGlobals mg → (∀ p ∈ cs, LamX.TabB base mg p.1 p.2) → FnG l.prog w K mg base CX0 k fa sp
/-- the table of the def x is empty behind the top -/
def TabOf (K : PySem.W.Frag) (mg : Str → Option Value) (h : Heap) (x : Str) : Prop := ∀ (f c P : Addr) (o : Obj) (fd : FuncData) (e : Value) (dd : Option Addr) (vs : Array Value) (sl : Array (Option Value)), mg x = some (.ref f) → K.lookup f = some o → o.data = .func fd → fd.code = .ref c →
  K.lookup c = some ⟨e, dd, .fields vs, sl⟩ → vs[11]? = some (.ref P) → h.get? P = some ({ cls := .none, data := .fields #[] } : Obj) ∧ PySem.W.CodeHd h c P
theorem walkG {l : PySem.W.OpenLaw} {k : Nat} {q : Program} {loose : List Str} {XP : (Str → Option Value) → Heap → Prop} {YP : World → Heap → Prop} {d : DefRec} {K : Params → PySem.W.Frag} (xs : List Str) (hxs : (xs.all fun x => (recsOf q).any fun e => e.name == x) = true)
    (hn : l.most = some 63) (hdf : d.params.defaults = []) (hr : Room k callerA) (hY : ∀ (w : World) (h : Heap), YP w h → (K w.params).In h)
    (F : ∀ (w : World) (mg : Str → Option Value) (fa : Addr) (h : Heap), (K w.params).In h → h.Ns mainGlobals mg → mg d.name = some (.ref fa) → (∀ x ∈ xs, TabOf (K w.params) mg h x) → LawG l w (K w.params) k mg fa h) :
    PySem.W.WalkO q loose XP YP l.row.toRowW d [] (fun f vs => PySem.call f vs) := by
  refine Att.attach_callB hn hdf fun w s₀ s mg mb fa o pm cd doc a vs ns G Y _ _ _ hmg hobj hints hlen hbits hg => ?_
  have KX := hY w _ Y
  have tabs : ∀ x ∈ xs, TabOf (K w.params) mg s.heap x := fun x hx f c P o fd e dd us sl m1 m2 m3 m4 m5 m6 => by
    obtain ⟨r, hr1, hr2⟩ := List.any_eq_true.mp (List.all_eq_true.mp hxs x hx)
    obtain ⟨f2, o2, fd2, c2, P2, t1, t2, t3, t4, t5, t6⟩ := G.T.tab r hr1
    rw [beq_iff_eq.mp hr2, m1] at t1
    cases t1
    rw [KX _ _ m2] at t2
    cases t2
    rw [m3] at t3
    cases t3
    rw [m4] at t4
    cases t4
    have hd := PySem.W.CodeHd.of t5 t6
    obtain ⟨⟨oc, vc, u1, _, u3, u4⟩, hP⟩ := t6
    rw [KX _ _ m5] at u1
    cases u1
    cases u3
    rw [m6] at u4
    cases u4
    exact ⟨hP, hd⟩
  obtain ⟨cs, sp, tb, tk, ch, hsp, FG⟩ := F w mg fa _ KX G.T.g hmg tabs
  obtain ⟨H, base, kin, ns1, TB, e0, tt, hS, only⟩ := entry (P := l.prog) (w := w) KX G.T.g G.T.b G.T.builtins G.T.nolimit hg tb tk ch G.T.bmain hobj hints (Nat.le_trans hlen (by decide))
  refine codeAny_mono (FG base kin ns1 TB callerA [] s H [.ref a] [.ref a] _ _ rfl hr e0 (.cons rfl .nil) (hsp H a ns hlen hbits tt hS)) fun r s2 h => ?_
  match r, h with
  | .ok (.ret u), ⟨v, H2, os, bare, un, hok, rel, e⟩ =>
    have e' : v = .bl true := e
    subst e'
    have eu : u = Value.bool true := rel
    subst eu
    exact ⟨rfl, leave tb ch tt only e0.hok un hok, os, bare⟩

/-! ### repr -/
/-- v is read as the datum d: as Dp, and dicts of no entry or one -/
inductive Dq (K : PySem.W.Frag) (H : Hp) : V → PyData → Prop where
  | dp {v : V} {d : PyData} : Dp K H v d → Dq K H v d
  | d0 {a : Addr} : H a = some (.dK []) → Dq K H (.ref a) (.dict [])
mutual
theorem dp_nodict {K : PySem.W.Frag} {H : Hp} : ∀ (d : PyData) (v : V), Dp K H v d → d.hasDict = false
  | .none, _, _ => rfl
  | .bool _, _, _ => rfl
  | .int _, _, _ => rfl
  | .str _, _, _ => rfl
  | .list ds, _, h => by
    cases h with
    | lst _ ha => exact dp_nodictAll ds _ ha
  | .tuple ds, _, h => by
    cases h with
    | tup _ ha => exact dp_nodictAll ds _ ha
  | .dict _, _, h => by cases h
theorem dp_nodictAll {K : PySem.W.Frag} {H : Hp} : ∀ (ds : List PyData) (vs : List V), DpAll K H vs ds → PyData.hasDictAll ds = false
  | [], _, _ => rfl
  | d :: ds, _, h => by
    cases h with
    | cons h1 h2 =>
      show (PyData.hasDict d || PyData.hasDictAll ds) = false
      rw [dp_nodict d _ h1, dp_nodictAll ds _ h2]
      rfl
end
theorem Dq.reads {X : Cx} {pins : List (Addr × Obj)} {σ : L2.St} {H : Hp} {s : Shared} (I : Inv X pins σ H s) {v : V} {d : PyData} {u : Value} (h : Dq X.K H v d) (r : RelV v u) : ∃ as, Reads s.heap u d as ∧ (d.hasDict = true → sysModules ∉ as) := by
  cases h with
  | dp h =>
    obtain ⟨as, q⟩ := Dp.reads I _ _ _ h r
    exact ⟨as, q, fun z => by rw [dp_nodict _ _ h] at z; cases z⟩
  | @d0 a h =>
    obtain rfl : u = Value.ref a := r
    obtain ⟨_, ns, vs, kv, o, es, ep, e1, e2, e3, e4⟩ := (show ObjOk X.prog X.w H s.heap a (.dK []) from I.hok a _ h)
    cases kv
    have e5 : es.toList = [] := by
      have e6 := e4.2.1
      generalize es.toList = l at e6
      cases e6
      rfl
    refine ⟨[a] ++ [] ++ [], Reads.dict e1 e2.1 e3 (by rw [e5]; exact .nil) (by rw [e5]; exact .nil), fun _ z => ?_⟩
    have z' : sysModules = a := by simpa using z
    rw [← z'] at ns
    simp at ns
def rRep (K : PySem.W.Frag) : List V → Hp → VK → Prop := fun vs H Q => ∃ v d, vs = [v] ∧ Dq K H v d ∧ d.showable = true ∧ d.depth ≤ 60 ∧ ((∃ i, d = .int i) ∨ d.shown.length ≤ sizeLine) ∧ Q (.str d.shown) H
theorem call_rep {X : Cx} (gu : X.A.guards = some []) (hu : X.A.units + 64 < cLine) : CallR X (.builtin "repr") (rRep X.K) := by
  intro pins s σ H xs us Q I r h
  obtain ⟨v, d, rfl, hd, h1, h2, h3, q⟩ := h
  obtain ⟨u, rfl, ru⟩ := vals1 r
  obtain ⟨as, rd, ns⟩ := hd.reads I ru
  have done : ∀ (h' : Heap) (t : Tok) (tk : Nat), (∀ b o, s.heap.get? b = some o → h'.get? b = some o) → EP X pins σ Q (.str d.shown t) { s with heap := h', toks := tk } := fun h' t tk k => ⟨.str d.shown, H, I.kept (t' := tk) k, ⟨t, rfl⟩, q⟩
  have same : ∀ t tk, EP X pins σ Q (.str d.shown t) { s with toks := tk } := fun t tk => done s.heap t tk fun _ _ z => z
  have h3 : (∀ i, d ≠ .int i) → d.shown.length ≤ sizeLine := fun n => h3.resolve_left fun ⟨i, z⟩ => n i z
  cases rd with
  | none => exact PySem.P.repr_of_none (same _ _)
  | bool b => exact PySem.P.repr_of_bool (same _ _)
  | int i t => exact PySem.P.repr_of_int (of_decide_eq_true h1) (same _ _)
  | str x t => exact PySem.P.repr_of_str (same _ _) (h3 fun _ z => nomatch z)
  | list e1 e2 e3 e4 => exact PySem.repr_of_reads' (.list e1 e2 e3 e4) h1 ns gu (by omega) (fun _ _ z => z) (fun h' u tk k => done h' u tk k) (h3 fun _ z => nomatch z)
  | tuple e1 e2 e3 e4 => exact PySem.repr_of_reads' (.tuple e1 e2 e3 e4) h1 ns gu (by omega) (fun _ _ z => z) (fun h' u tk k => done h' u tk k) (h3 fun _ z => nomatch z)
  | dict e1 e2 e3 e4 e5 => exact PySem.repr_of_reads' (.dict e1 e2 e3 e4 e5) h1 ns gu (by omega) (fun _ _ z => z) (fun h' u tk k => done h' u tk k) (h3 fun _ z => nomatch z)

/-! ### an error that is caught and kept -/
/-- at a: an exception of the class cls whose own dict is d -/
def XO (a : Addr) (cls : Value) (d : Option Addr) : HO := .ext fun h => ∃ (o : Obj) (vs : Array Value), h.get? a = some o ∧ Zc cls d o ∧ o.data = .fields vs
theorem XO_at {P : Program} {w : World} {H : Hp} {h : Heap} {a : Addr} {cls : Value} {d : Option Addr} (hok : HOk P w H h) (e : H a = some (XO a cls d)) : ∃ (o : Obj) (vs : Array Value), h.get? a = some o ∧ Zc cls d o ∧ o.data = .fields vs := by
  have x : ObjOk P w H h a (.ext fun h => ∃ (o : Obj) (vs : Array Value), h.get? a = some o ∧ Zc cls d o ∧ o.data = .fields vs) := hok a _ e
  exact x.1
theorem XO_ne {a : Addr} {cls : Value} {d : Option Addr} {u : HO} (h : ∀ φ, u ≠ .ext φ) : XO a cls d ≠ u := fun z => h _ z.symm
/-- an object that stands in the heap since the entry is taken up -/
theorem track {X : Cx} {pins : List (Addr × Obj)} {σ : L2.St} {H : Hp} {s : Shared} {a : Addr} {cls : Value} {d : Option Addr} {o : Obj} {vs : Array Value} (I : Inv X pins σ H s) (ha : s.heap.get? a = some o) (hz : Zc cls d o) (hd : o.data = .fields vs) (na : H a = Option.none)
    (n0 : X.s_0.heap.get? a = Option.none) (np : ∀ p ∈ X.pn ++ pins, p.1 ≠ a) (nL : a ≠ X.env.locals) : Inv X pins σ (upd H a (XO a cls d)) s := by
  have other : ∀ b u, H b = some u → b ≠ a := fun b u e => ne_of_none e na
  have cell : ∀ x c, X.env.cells.lookup x = some c → c ≠ a := fun x c e z => by
    obtain ⟨v, oc, q1, q2⟩ := I.cell x c e
    rw [z, ha] at q1
    cases q1
    rw [hd] at q2
    cases q2
  have start0 : ∀ b u, X.s_0.heap.get? b = some u → b ≠ a := fun b u e z => by
    rw [z, n0] at e
    cases e
  have B := I.base
  exact { ok := I.ok, os := I.os, bare := I.bare, loc := I.loc, cell := I.cell, len := I.len
          base := { keep := B.keep, slot := B.slot, there := B.there
                    free := fun b u e1 e2 e3 => by rw [upd_ne (start0 b u e1)]; exact B.free b u e1 e2 e3
                    tups := fun b xs e => by rw [upd_ne (other b _ (B.tups b xs e))]; exact B.tups b xs e
                    frzs := fun b ob u e => by rw [upd_ne (other b _ (B.frzs b ob u e))]; exact B.frzs b ob u e
                    tbls := fun b ps e => by
                      obtain ⟨more, q⟩ := B.tbls b ps e
                      exact ⟨more, by rw [upd_ne (other b _ q)]; exact q⟩ }
          free := by rw [upd_ne (Ne.symm nL)]; exact I.free
          freeC := fun x c e => by rw [upd_ne (cell x c e)]; exact I.freeC x c e
          pin := fun p hp => by
            obtain ⟨q1, q2, q3⟩ := I.pin p hp
            exact ⟨q1, by rw [upd_ne (np p hp)]; exact q2, q3⟩
          hok := fun b u e => by
            by_cases hb : b = a
            · rw [hb, upd_same] at e
              cases e
              rw [hb]
              exact ⟨⟨o, vs, ha, hz, hd⟩, ⟨o, ha⟩, fun h1 h2 ⟨o1, v1, q1, q2⟩ k => ⟨o1, v1, k _ q1, q2⟩⟩
            · rw [upd_ne hb] at e
              exact (I.hok b u e).stay (fun _ _ _ q => q) (fun c q => by rw [upd_ne (other c _ q)]; exact q) fun c xs q => by rw [upd_ne (other c _ q)]; exact q }
/-- what the clause «except x as n» wishes, the error kept behind it -/
def wKeep (K : PySem.W.Frag) (c : Value) (i : Nat) (ts : Addr → Value → Option Addr → TS) (D : Ends) : WX := fun cls d σ H =>
  PySem.W.exmOne K cls c = some true ∧ ∀ a, H a = Option.none → ts a cls d { nx := fun σ1 H1 => H1 a = Option.none → D.nx (σ1.set i Option.none) (upd H1 a (XO a cls d)), rt := fun _ _ => False } (σ.set i (some (.ref a))) H
section
variable {X : Cx} {x n : Str} {c : Value} {i : Nat} {body suite : List Stmt} {b₀ : Stmt} {np pos pos' : Pos} {tb : WX → TS} {ts : Addr → Value → Option Addr → TS}
theorem ps_try_keep (hs : X.stack = X.env :: X.outer) (hf : X.env.frame = some X.env.locals) (hex : X.ex = []) (hN : X.N.Nodup) (hi : X.N[i]? = some n) (hln : X.env.kindOf n = some .local) (hc : Names X x c)
    (hb : ∀ (W : WX) (pn : List (Addr × Obj)) (xe : Value → Shared → Prop), Takes (X.tr pn xe) W → PassesOwn (model X.prog X.w) X.A X.env xe → PSs (X.tr pn xe) body (tb W))
    (hsu : ∀ (a : Addr) (oe : Obj) (cls : Value) (d : Option Addr) (pn : List (Addr × Obj)), Zc cls d oe → (∃ vs, oe.data = .fields vs) → PSs (X.suite a ((a, oe) :: pn)) (b₀ :: suite) (ts a cls d)) :
    PS X (.Try body [.ExceptHandler (some (.Name x np)) (some n) (b₀ :: suite) pos'] [] [] pos) (fun D σ H => tb (wKeep X.K c i ts D) D σ H) := by
  refine ⟨fun pins s σ H D I h => wpAny_Try_except ?_⟩
  have ok := I.ok
  have frames : X.A.frames = some (X.env :: X.outer) := ok.frames.trans (by rw [hs])
  have R := (hb (wKeep X.K c i ts D) (X.pn ++ pins)
    (fun e q1 => wpAny (model X.prog X.w) X.A (noteFrame e X.env) (fun _ q2 => wpAny (model X.prog X.w) X.A (setFlight e none) (fun _ q3 => wpAny (model X.prog X.w) X.A (handleBy e X.env [.ExceptHandler (some (.Name x np)) (some n) (b₀ :: suite) pos']) (SP X pins D) X.xe q3) X.xe q2) X.xe q1)
    (fun u q xx => ?caught) PassesOwn.looking).run [] s σ H D (I.toTry _) h
  case caught =>
    obtain ⟨a, B, t, ps1, σ1, H1, cls, d, rfl, J0, ground, upto, sky, na, os, ag, yes, rest⟩ := xx
    have J : Inv X pins σ1 H1 t := J0.ofTry ok
    show wpAny (model X.prog X.w) X.A (noteFrame (.ref a) X.env) _ _ _
    refine Sky.land Zc.steady frames hf (hs ▸ sky) fun hp fl upto2 => ?_
    have J1 : Inv X pins σ1 H1 { q with heap := hp } := J.landed ground fl.1 (upto.trans upto2) os ag
    obtain ⟨o1, v1, at1, z1, d1⟩ := fl.there
    have nfr : a ∉ frs (X.env :: X.outer) := fun hm => by
      obtain ⟨_, o2, e2, nd⟩ := fl.2.2.1.mem hm
      rw [at1] at e2
      cases e2
      exact nd _ d1
    have nL : a ≠ X.env.locals := fun z => nfr (List.mem_filterMap.mpr ⟨X.env, List.mem_cons_self, by rw [hf, z]⟩)
    have nF : a ∉ X.fs := fun hm => by
      obtain ⟨e, he, z⟩ := List.mem_filterMap.mp hm
      exact nfr (List.mem_filterMap.mpr ⟨e, List.mem_cons_of_mem _ he, z⟩)
    -- it did not stand there
    have nt : t.heap.get? a = Option.none := by
      match z : t.heap.get? a with
      | Option.none => rfl
      | some o2 =>
        have z2 := ground a o2 z (by rw [hs]; exact nfr)
        rw [fl.2.1] at z2
        cases z2
    have n0 : X.s_0.heap.get? a = Option.none := by
      match z : X.s_0.heap.get? a with
      | Option.none => rfl
      | some o2 =>
        obtain ⟨o3, z3⟩ := J.base.there a o2 z (by rw [hex]; exact List.not_mem_nil)
        rw [nt] at z3
        cases z3
    have npn : ∀ p ∈ X.pn ++ pins, p.1 ≠ a := fun p hp z => by
      have z2 := (J.pin p hp).1
      rw [z, nt] at z2
      cases z2
    have S1 := J1.suite at1 d1 na nL nF
    refine wpAny_handleBy_cons (codeAny_handlers_test ?_) (by intro z; cases z)
    have kind : PySem.W.Looks (model X.prog X.w) hp (typeOf (.ref a)) cls := fun A Q E s1 k z => wpAny_typeOf_ref (k _ _ at1) (by rw [z1.1]; exact z)
    have meets := PySem.W.exm_one (M := model X.prog X.w) J1.kIn kind yes
    have look : ∀ {Q : Value → Shared → Prop} {E : Value → Shared → Prop}, Q c { q with heap := hp } → wpAny (model X.prog X.w) (X.A.mark (some (.ref a))) (eval (.Name x np) X.env) Q E { q with heap := hp } := fun {Q E} z => by
      obtain ⟨g1, g2, g3⟩ := hc
      rcases g3 with g3 | ⟨g3, g4, g5⟩
      · exact ld_glob (X := X.suite a ((a, o1) :: (X.pn ++ pins))) S1 g1 g3 z g2
      · exact ld_blt (X := X.suite a ((a, o1) :: (X.pn ++ pins))) S1 g1 g3 g4 z g5 g2
    refine look (meets.here (codeAny_handlers_suite_as (HandSPX.lands_againZ fl fun hp2 fl2 upto3 => ?_)))
    have J2 : Inv X pins σ1 H1 { q with heap := hp2 } := J.landed ground fl2.1 ((upto.trans upto2).trans upto3) os ag
    obtain ⟨o2, v2, at2, z2, d2⟩ := fl2.there
    refine store_ok (X := X.suite a ((a, o2) :: (X.pn ++ pins))) (v := .ref a) (J2.suite at2 d2 na nL nF) hN hi (.inl hln) rfl (fun s5 S5 => ?_) (.inr hln)
    refine wpAny_mono ((hsu a o2 cls d (X.pn ++ pins) z2 ⟨_, d2⟩).run [] s5 _ H1 _ S5 (rest a na)) (fun f s6 hsp => ?_) (fun _ _ z => z.elim)
    match f, hsp with
    | .next, ⟨σ6, H6, S6, q6⟩ =>
      obtain ⟨p1, p2, _⟩ := S6.pin (a, o2) (List.mem_append_left _ List.mem_cons_self)
      have J6 := track (S6.unsuite ok) p1 z2 d2 p2 n0 npn nL
      exact gone_ok J6 hN hi hln fun s7 J7 => ⟨_, _, J7, q6 p2⟩
    | .ret u, ⟨_, _, _, _, _, z⟩ => exact z.elim
    | .brk, ⟨_, _, _, z⟩ => exact z.elim
    | .cont, ⟨_, _, _, z⟩ => exact z.elim
  refine wpAny_mono R (fun f s1 hsp => ?_) fun e s1 he => he
  match f, hsp with
  | .next, ⟨σ1, H1, J, q⟩ => exact wpAny_execs_nil ⟨σ1, H1, J.ofTry ok, q⟩
  | .ret u, ⟨v, σ1, H1, J, r, q⟩ => exact ⟨v, σ1, H1, J.ofTry ok, r, q⟩
  | .brk, ⟨σ1, H1, J, q⟩ => exact ⟨σ1, H1, J.ofTry ok, q⟩
  | .cont, ⟨σ1, H1, J, q⟩ => exact ⟨σ1, H1, J.ofTry ok, q⟩
end
/-- what the written part says of an error's class C -/
structure ErrC (K : PySem.W.Frag) (C : Addr) : Prop where
  cl : (PySem.W.clsIn K C).isSome = true
  ga : PySem.W.findIn K (.ref C) "__getattribute__" = some (some (.builtin "BaseException.__getattribute__"))
  gg : PySem.W.findIn K (.ref C) "__getattr__" = some Option.none
  ex : PySem.W.subIn K (.ref C) (.type "BaseException") = some true
  hd : PySem.W.hasDictIn K C = true
  ha : PySem.W.findIn K (.ref C) "__class__" = some (some (.builtin "object.__class__"))
  hn : PySem.W.specialIn K (.builtin "object.__class__") "__get__" = some (some (.builtin "getset_descriptor.__get__"))
  ht : PySem.W.takesIn K (.builtin "object.__class__") = some true
  hm : PySem.W.mroIn K C (.type "object") = some true
theorem XO_inst {X : Cx} {pins : List (Addr × Obj)} {σ : L2.St} {H : Hp} {s : Shared} {a C d : Addr} {fs : List (Str × V)} (I : Inv X pins σ H s) (e : H a = some (XO a (.ref C) (some d))) (ed : H d = some (.xd fs)) :
    ∃ (o od : Obj), PySem.W.InstAt s.heap a o C (some od) ∧ ∃ mA : Str → Option Value, (∀ f, RelO (fs.lookup f) (mA f)) ∧ ∀ f : Str, PySem.W.lookIn f od = some (mA f) := by
  obtain ⟨o, vs, h1, h2, h3⟩ := XO_at I.hok e
  obtain ⟨mA, hns, hr⟩ := (show ObjOk X.prog X.w H s.heap d (.xd fs) from I.hok d _ ed)
  obtain ⟨od, ho, hl⟩ := lookIn_ns hns
  exact ⟨o, od, ⟨h1, h2.1, by unfold PySem.W.notCls; rw [h3] <;> rfl, by rw [h2.2]; exact ho⟩, mA, hr, hl⟩
/-- isinstance(e, c), e kept -/
def rIsK (K : PySem.W.Frag) : List V → Hp → VK → Prop := fun xs H Q => ∃ (a C d : Addr) (fs : List (Str × V)) (c : V) (cv : Value) (b : Bool), xs = [.ref a, c] ∧ H a = some (XO a (.ref C) (some d)) ∧ H d = some (.xd fs) ∧ ErrC K C ∧ (∀ u, RelV c u → u = cv) ∧ PySem.W.kitOne K (.ref C) cv = some b ∧ Q (.bl b) H
theorem call_isK {X : Cx} : CallR X (.builtin "isinstance") (rIsK X.K) := by
  intro pins s σ H xs us Q I r h
  obtain ⟨a, C, d, fs, c, cv, b, rfl, e, ed, T, hc, k, q⟩ := h
  obtain ⟨u1, u2, rfl, r1, r2⟩ := vals2 r
  obtain rfl : u1 = Value.ref a := r1
  have e2 := hc _ r2
  subst e2
  obtain ⟨o, od, J, _⟩ := XO_inst I e ed
  exact PySem.W.kia_one (PySem.W.kitx_exc T.cl T.ga T.gg T.ex T.ha T.hn T.ht T.hm) I.kIn J k (fun z => nomatch z) fun tk => ⟨.bl b, H, I.kept (t' := tk) fun _ _ z => z, rfl, q⟩
/-- e.f, e kept -/
def tFldK (K : PySem.W.Frag) (f : Str) (te : TE) : TE := fun σ H Q => te σ H fun x H1 => ∃ (a C d : Addr) (fs : List (Str × V)) (v : V), x = .ref a ∧ H1 a = some (XO a (.ref C) (some d)) ∧ H1 d = some (.xd fs) ∧ ErrC K C ∧ PySem.W.findIn K (.ref C) f = some Option.none ∧ fs.lookup f = some v ∧ Q v H1
theorem pe_fldK {X : Cx} {e : Expr} {te : TE} {f : Str} {pos : Pos} (he : PE X e te) (hb : attributeBase e f X.env (eval e X.env) = eval e X.env := by rfl) : PE X (.Attribute e f pos) (tFldK X.K f te) := by
  refine ⟨fun pins s σ H Q I h => attr_of hb (thn (he.run pins s σ H _ I h) fun u s1 hh => ?_)⟩
  obtain ⟨y, H1, I1, ry, a, C, d, fs, v, rfl, ea, ed, T, no, l, q⟩ := hh
  obtain rfl : u = Value.ref a := ry
  obtain ⟨o, od, J, mA, hr, hl⟩ := XO_inst I1 ea ed
  obtain ⟨u, hu, ru⟩ := RelO.some_of (v := v) (o := mA f) (by rw [← l]; exact hr f)
  exact HandSPX.exc_get I1.kIn J T.ga T.gg T.ex (PySem.W.findObj_own T.hd no rfl (by rw [hl, hu])) (handed_of ru) ⟨v, H1, I1.tok _, ru, q⟩

/-! ### values by kinds; numbers that are refused -/
/-- v is of the built-in kind t -/
inductive NT (H : Hp) : V → String → Prop where
  | non : NT H .non "NoneType"
  | bl (b : Bool) : NT H (.bl b) "bool"
  | int (i : Int) : NT H (.int i) "int"
  | str (x : Str) : NT H (.str x) "str"
  | lst {a : Addr} {xs : List V} : H a = some (.lst xs) → NT H (.ref a) "list"
  | tup {a : Addr} {xs : List V} : H a = some (.tup xs) → NT H (.ref a) "tuple"
  | dic {a : Addr} {kvs : List (Key × V)} : H a = some (.dK kvs) → NT H (.ref a) "dict"
theorem NT.same {H H' : Hp} (s : Same H H') {v : V} {t : String} (h : NT H v t) : NT H' v t := by
  cases h with
  | non => exact .non
  | bl b => exact .bl b
  | int i => exact .int i
  | str x => exact .str x
  | lst e => exact .lst (s _ _ e)
  | tup e => exact .tup (s _ _ e)
  | dic e => exact .dic (s _ _ e)
theorem NT.ty {K : PySem.W.Frag} {H : Hp} {v : V} {t : String} (h : NT H v t) : TyX K H v (.type t) := by
  cases h with
  | non => exact .base .non
  | bl b => exact .base (.bl b)
  | int i => exact .base (.int i)
  | str x => exact .base (.str x)
  | lst e => exact .base (.lst e)
  | tup e => exact .base (.tup e)
  | dic e => exact .base (.dK e)
theorem NT.kit {H : Hp} {v : V} {t : String} (h : NT H v t) : ∃ b1 b2, kitB t "int" = some b1 ∧ kitB t "bool" = some b2 ∧ (b1 && !b2) = (t == "int") := by
  cases h with
  | non => exact ⟨false, false, by decide +kernel, by decide +kernel, by decide +kernel⟩
  | bl b => exact ⟨true, true, by decide +kernel, by decide +kernel, by decide +kernel⟩
  | int i => exact ⟨true, false, by decide +kernel, by decide +kernel, by decide +kernel⟩
  | str x => exact ⟨false, false, by decide +kernel, by decide +kernel, by decide +kernel⟩
  | lst e => exact ⟨false, false, by decide +kernel, by decide +kernel, by decide +kernel⟩
  | tup e => exact ⟨false, false, by decide +kernel, by decide +kernel, by decide +kernel⟩
  | dic e => exact ⟨false, false, by decide +kernel, by decide +kernel, by decide +kernel⟩
theorem NT.tupB {H : Hp} {v : V} {t : String} (h : NT H v t) : kitB t "tuple" = some (t == "tuple") := by
  cases h <;> decide +kernel
theorem NT.isInt {H : Hp} {v : V} {t : String} (h : NT H v t) (e : t = "int") : ∃ i, v = .int i := by
  cases h with
  | int i => exact ⟨i, rfl⟩
  | _ => exact absurd e (by decide)
/-- def f(*v) of the text, which may raise -/
theorem star_okX {x qual pv : Str} {k : Nat} {st : Stmt} {f : Addr} {fd : FuncData} {N : List Str} {sp : List V → Hp → VK → XK → Prop}
    (F : Fun K x qual st f fd) (S : FnScope N [pv] (defScope st))
    (hb : ∀ (kV doc pm : Value) (an : Option Addr) (cdv ct : Value) (rest : List Value), bindArgs (PySem.W.fnOf x qual (defArgs st) (defBody st) (defScope st) .none kV doc pm an cdv ct) { pos := rest, kw := [] } = (newTuple rest >>= fun t => pure [(pv, t)]))
    (go : ∀ (cdv : Value) (A : Around) (outer : List Env) (s : Shared) (H : Hp) (vs : List V) (p : Addr) (H0 : Hp) (Q : VK) (E : XK), Room k (A.deeper (envOfC qual (defScope st) s.heap.objs.size f cdv)) → sp vs H0 Q E → vs.length ≤ sizeLine → H0 p = Option.none → H = upd H0 p (.tup vs) →
      ∃ t, PSs (cxOf (L2.CX P w) P w K mg base N qual (defScope st) f cdv A outer s H E) (defBody st) t ∧ t { nx := fun _ H1 => Q .non H1, rt := Q } (start N [V.ref p]) H) :
    FnR P w K mg base (L2.CX P w) (k + 1) f (fun vs H Q E => vs.length ≤ sizeLine ∧ sp vs H Q E) := by
  obtain ⟨oc, od, kV, doc, pm, an, cdv, ct, osl, e, lk, hcd⟩ := F.ex
  subst e
  refine FnR.imp (fn_star (ps := []) (pv := pv) (CX := L2.CX P w) (sp := fun ws H Q E => ∃ (vs : List V) (p : Addr) (H0 : Hp), ws = [V.ref p] ∧ sp vs H0 Q E ∧ vs.length ≤ sizeLine ∧ H0 p = Option.none ∧ H = upd H0 p (.tup vs)) lk hcd S cxUp (fun us rest hl => ?_) fun A outer s H vs Q E hr h => ?_) fun vs H Q E h => ?_
  · have e : us = [] := List.length_eq_zero_iff.mp hl
    subst e
    show bindArgs _ { pos := rest, kw := [] } = _
    rw [hb]
    rfl
  · obtain ⟨ws, p, H0, rfl, hs, hl, hp, rfl⟩ := h
    exact go cdv A outer s _ ws p H0 Q E hr hs hl hp rfl
  · exact ⟨[], vs, rfl, rfl, h.1, fun p hp => ⟨vs, p, H, rfl, h.2, h.1, hp, rfl⟩⟩

/-! ### the error BadNumber -/
/-- what the written part says of BadNumber, at C, and of its __init__ -/
structure BadN (K : PySem.W.Frag) (mg : Str → Option Value) where
  C : Addr
  f : Addr
  fd : FuncData
  oex : OexC K C
  iC : PySem.W.findIn K (.ref C) "__init__" = some (some (.ref f))
  tI : PySem.W.typeIn K (.ref f) = some (.type "function")
  F : Fun K "__init__" "BadNumber.__init__" s_BadNumber_init f fd
  no : PySem.W.findIn K (.ref C) "value" = some Option.none
  m : mg "BadNumber" = some (.ref C)
/-- the init of an error of one field -/
def spInit1 (K : PySem.W.Frag) (f : Str) : Sp := fun vs H Q _ => ∃ (a C : Addr) (v : V), vs = [.ref a, v] ∧ OexC K C ∧ PySem.W.findIn K (.ref C) f = some Option.none ∧ H a = some (exo a C Option.none) ∧
  ∀ dx, H dx = Option.none → dx ≠ a → Q .non (upd (upd H dx (exd dx [(f, v)])) a (exo a C (some dx)))
theorem ok_bad_init (B : BadN K mg) : FnOk P w K mg base CX0 1 B.f B.fd ["self", "value"] (spInit1 K "value") := by
  refine B.F.ok sc_BadNumber_init (fun vs H Q E h => ?_) (fun cdv A outer s H vs Q E hr h => ?_)
  · obtain ⟨a, C, v, rfl, _⟩ := h; rfl
  · obtain ⟨a, C, v, rfl, T, no, ha, k⟩ := h
    refine ⟨_, pss_one (ps_ost (pv 0) (pv 1)), ?_⟩
    exact ⟨_, rfl, _, rfl, a, C, rfl, T, no, .inl ⟨ha, k⟩⟩
theorem b_bad (B : BadN K mg) : Binds K B.fd ["self", "value"] [] := B.F.binds (ps := ["self", "value"]) fun _ _ _ _ _ _ us hl => match us, hl with | [_, _], _ => rfl
theorem pmk_bad {X : Cx} {x : Expr} {te : TE} {p pos : Pos} (B : BadN X.K X.mg) (hr : Room 2 X.A) (hg : Gl X "BadNumber") (he : PE X x te)
    (hs : starEach (x :: []) X.env = (false, eval x X.env) :: starEach [] X.env := by rfl) (hpl : (backTo pos (starEach [] X.env)).any (·.1) = false := by rfl) : PMk X (.Call (.Name "BadNumber" p) [x] [] pos) (tMkO B.C (spInit1 X.K "value") [] (tCons te tNil)) :=
  pmk_oex (CX := CX0) (dvs := []) (ds := []) B.oex B.iC B.tI (ok_bad_init B) hr (b_bad B) .nil (fun _ _ _ _ _ _ _ z => z.elim) hg B.m (pa_cons he pa_nil hs) (by decide) hs hpl
/-- how its reading is answered -/
theorem bad_fin (B : BadN K mg) {H : Hp} {a : Addr} {v : V} {Q : XK} (ha : H a = Option.none) (k : ∀ (d : Addr) (H2 : Hp), Same H H2 → H d = Option.none → H2 d = some (.xd [("value", v)]) → Q (.ref B.C) (some d) H2) :
    spInit1 K "value" (.ref a :: ([v] ++ [])) (upd H a (exo a B.C Option.none)) (fun v' H2 => v' = .non ∧ ∃ (d : Addr) (fs : List (Str × V)), H2 a = some (exo a B.C (some d)) ∧ H2 d = some (exd d fs) ∧ H d = Option.none ∧ Q (.ref B.C) (some d) (upd (del H2 a) d (.xd fs))) (fun _ _ _ => False) := by
  refine ⟨a, B.C, v, rfl, B.oex, B.no, upd_same, fun dx h1 h2 => ⟨rfl, dx, _, upd_same, by rw [upd_ne h2, upd_same], ?_, ?_⟩⟩
  · rw [upd_ne h2] at h1; exact h1
  · have hd : H dx = Option.none := by rw [upd_ne h2] at h1; exact h1
    refine k dx _ (fun b o e => ?_) hd upd_same
    have n1 := ne_of_none e ha
    have n2 := ne_of_none e hd
    rw [upd_ne n2, del_ne n1, upd_ne n1, upd_ne n2, upd_ne n1]
    exact e


end
/-- what the top has written -/
structure Txt (K : PySem.W.Frag) (mg : Str → Option Value) where
  a_is_whole : Addr
  fd_is_whole : FuncData
  F_is_whole : Fun K "is_whole" "is_whole" s_is_whole a_is_whole fd_is_whole
  m_is_whole : mg "is_whole" = some (.ref a_is_whole)
  a_is_from : Addr
  fd_is_from : FuncData
  F_is_from : Fun K "is_from" "is_from" s_is_from a_is_from fd_is_from
  m_is_from : mg "is_from" = some (.ref a_is_from)
  a_common : Addr
  fd_common : FuncData
  F_common : Fun K "common" "common" s_common a_common fd_common
  m_common : mg "common" = some (.ref a_common)
  a_multiple : Addr
  fd_multiple : FuncData
  F_multiple : Fun K "multiple" "multiple" s_multiple a_multiple fd_multiple
  m_multiple : mg "multiple" = some (.ref a_multiple)
  a_apart : Addr
  fd_apart : FuncData
  F_apart : Fun K "apart" "apart" s_apart a_apart fd_apart
  m_apart : mg "apart" = some (.ref a_apart)
  a_pen : Addr
  fd_pen : FuncData
  F_pen : Fun K "_law_pen" "_law_pen" s_pen a_pen fd_pen
  m_pen : mg "_law_pen" = some (.ref a_pen)
  a_draw : Addr
  fd_draw : FuncData
  F_draw : Fun K "_law_draw" "_law_draw" s_draw a_draw fd_draw
  m_draw : mg "_law_draw" = some (.ref a_draw)
  a_pick : Addr
  fd_pick : FuncData
  F_pick : Fun K "_law_pick" "_law_pick" s_pick a_pick fd_pick
  m_pick : mg "_law_pick" = some (.ref a_pick)
  a_heard : Addr
  fd_heard : FuncData
  F_heard : Fun K "_law_heard" "_law_heard" s_heard a_heard fd_heard
  m_heard : mg "_law_heard" = some (.ref a_heard)
  a_asked : Addr
  fd_asked : FuncData
  F_asked : Fun K "_law_asked" "_law_asked" s_asked a_asked fd_asked
  m_asked : mg "_law_asked" = some (.ref a_asked)
  a_by_common : Addr
  fd_by_common : FuncData
  F_by_common : Fun K "_law_common" "_law_common" s_by_common a_by_common fd_by_common
  m_by_common : mg "_law_common" = some (.ref a_by_common)
  a_by_multiple : Addr
  fd_by_multiple : FuncData
  F_by_multiple : Fun K "_law_multiple" "_law_multiple" s_by_multiple a_by_multiple fd_by_multiple
  m_by_multiple : mg "_law_multiple" = some (.ref a_by_multiple)
  a_by_apart : Addr
  fd_by_apart : FuncData
  F_by_apart : Fun K "_law_apart" "_law_apart" s_by_apart a_by_apart fd_by_apart
  m_by_apart : mg "_law_apart" = some (.ref a_by_apart)
  a_numbers_right : Addr
  fd_numbers_right : FuncData
  F_numbers_right : Fun K "_law_numbers_right" "_law_numbers_right" s_numbers_right a_numbers_right fd_numbers_right
  m_numbers_right : mg "_law_numbers_right" = some (.ref a_numbers_right)
  a_apart_right : Addr
  fd_apart_right : FuncData
  F_apart_right : Fun K "_law_apart_right" "_law_apart_right" s_apart_right a_apart_right fd_apart_right
  m_apart_right : mg "_law_apart_right" = some (.ref a_apart_right)
  a_refused_right : Addr
  fd_refused_right : FuncData
  F_refused_right : Fun K "_law_refused_right" "_law_refused_right" s_refused_right a_refused_right fd_refused_right
  m_refused_right : mg "_law_refused_right" = some (.ref a_refused_right)
  a_fifty : Addr
  fd_fifty : FuncData
  F_fifty : Fun K "_law_fifty" "_law_fifty" s_fifty a_fifty fd_fifty
  m_fifty : mg "_law_fifty" = some (.ref a_fifty)
  a_law : Addr
  fd_law : FuncData
  F_law : Fun K "law" "law" s_law a_law fd_law
  m_law : mg "law" = some (.ref a_law)
  a_BadNumber_init : Addr
  fd_BadNumber_init : FuncData
  F_BadNumber_init : Fun K "__init__" "BadNumber.__init__" s_BadNumber_init a_BadNumber_init fd_BadNumber_init
  m_gcd : mg "gcd" = some (.builtin "math.gcd")
  n_ValueError : mg "ValueError" = none
  n_abs : mg "abs" = none
  n_bool : mg "bool" = none
  n_int : mg "int" = none
  n_isinstance : mg "isinstance" = none
  n_len : mg "len" = none
  n_list : mg "list" = none
  n_min : mg "min" = none
  n_range : mg "range" = none
  n_repr : mg "repr" = none
  bad : BadN K mg
section
variable {P : Program} {w : World} {K : PySem.W.Frag} {mg : Str → Option Value} {base : Heap}
theorem b_is_whole (T : Txt K mg) : Binds K T.fd_is_whole ["value"] [] := T.F_is_whole.binds (ps := ["value"]) fun _ _ _ _ _ _ us hl => match us, hl with | [_], _ => rfl
theorem b_is_from (T : Txt K mg) : Binds K T.fd_is_from ["value", "low"] [] := T.F_is_from.binds (ps := ["value", "low"]) fun _ _ _ _ _ _ us hl => match us, hl with | [_, _], _ => rfl
theorem b_apart (T : Txt K mg) : Binds K T.fd_apart ["d", "period"] [] := T.F_apart.binds (ps := ["d", "period"]) fun _ _ _ _ _ _ us hl => match us, hl with | [_, _], _ => rfl
theorem b_pen (T : Txt K mg) : Binds K T.fd_pen ["_law_script"] [] := T.F_pen.binds (ps := ["_law_script"]) fun _ _ _ _ _ _ us hl => match us, hl with | [_], _ => rfl
theorem b_draw (T : Txt K mg) : Binds K T.fd_draw ["_law_pen_here", "_law_many"] [] := T.F_draw.binds (ps := ["_law_pen_here", "_law_many"]) fun _ _ _ _ _ _ us hl => match us, hl with | [_, _], _ => rfl
theorem b_pick (T : Txt K mg) : Binds K T.fd_pick ["_law_pen_here", "_law_some"] [] := T.F_pick.binds (ps := ["_law_pen_here", "_law_some"]) fun _ _ _ _ _ _ us hl => match us, hl with | [_, _], _ => rfl
theorem b_heard (T : Txt K mg) : Binds K T.fd_heard ["_law_ask"] [] := T.F_heard.binds (ps := ["_law_ask"]) fun _ _ _ _ _ _ us hl => match us, hl with | [_], _ => rfl
theorem b_asked (T : Txt K mg) : Binds K T.fd_asked ["_law_some", "_law_is_common"] [] := T.F_asked.binds (ps := ["_law_some", "_law_is_common"]) fun _ _ _ _ _ _ us hl => match us, hl with | [_, _], _ => rfl
theorem b_by_common (T : Txt K mg) : Binds K T.fd_by_common ["_law_some"] [] := T.F_by_common.binds (ps := ["_law_some"]) fun _ _ _ _ _ _ us hl => match us, hl with | [_], _ => rfl
theorem b_by_multiple (T : Txt K mg) : Binds K T.fd_by_multiple ["_law_some"] [] := T.F_by_multiple.binds (ps := ["_law_some"]) fun _ _ _ _ _ _ us hl => match us, hl with | [_], _ => rfl
theorem b_by_apart (T : Txt K mg) : Binds K T.fd_by_apart ["_law_d", "_law_period"] [] := T.F_by_apart.binds (ps := ["_law_d", "_law_period"]) fun _ _ _ _ _ _ us hl => match us, hl with | [_, _], _ => rfl
theorem b_numbers_right (T : Txt K mg) : Binds K T.fd_numbers_right ["_law_pen_here"] [] := T.F_numbers_right.binds (ps := ["_law_pen_here"]) fun _ _ _ _ _ _ us hl => match us, hl with | [_], _ => rfl
theorem b_apart_right (T : Txt K mg) : Binds K T.fd_apart_right ["_law_pen_here"] [] := T.F_apart_right.binds (ps := ["_law_pen_here"]) fun _ _ _ _ _ _ us hl => match us, hl with | [_], _ => rfl
theorem b_refused_right (T : Txt K mg) : Binds K T.fd_refused_right ["_law_pen_here"] [] := T.F_refused_right.binds (ps := ["_law_pen_here"]) fun _ _ _ _ _ _ us hl => match us, hl with | [_], _ => rfl
theorem b_fifty (T : Txt K mg) : Binds K T.fd_fifty ["_law_last"] [] := T.F_fifty.binds (ps := ["_law_last"]) fun _ _ _ _ _ _ us hl => match us, hl with | [_], _ => rfl
theorem b_law (T : Txt K mg) : Binds K T.fd_law ["_law_script"] [] := T.F_law.binds (ps := ["_law_script"]) fun _ _ _ _ _ _ us hl => match us, hl with | [_], _ => rfl
theorem b_BadNumber_init (T : Txt K mg) : Binds K T.fd_BadNumber_init ["self", "value"] [] := T.F_BadNumber_init.binds (ps := ["self", "value"]) fun _ _ _ _ _ _ us hl => match us, hl with | [_, _], _ => rfl

--CUT
def spWhole : Sp := fun vs H Q _ => ∃ (v : V) (t : String), vs = [v] ∧ NT H v t ∧ Q (.bl (t == "int")) H
theorem ok_is_whole (T : Txt K mg) : FnOk P w K mg base CX0 1 T.a_is_whole T.fd_is_whole ["value"] spWhole := by
  refine T.F_is_whole.ok sc_is_whole (fun vs H Q E h => ?_) (fun cdv A outer s H vs Q E hr h => ?_)
  · obtain ⟨v, t, rfl, _⟩ := h; rfl
  · obtain ⟨v, t, rfl, ht, k⟩ := h
    obtain ⟨b1, b2, h1, h2, h3⟩ := ht.kit
    refine ⟨_, pss_one (ps_ret (pe_and (pe_callB call_isi (by rfl) T.n_isinstance (by decide +kernel) (pa_cons (pv 0) (pa_cons (pe_bltn (v := .ty "int") (u := .type "int") (by rfl) T.n_int (by decide +kernel) rfl) (pa_nil)))) (pe_one (pe_not (pe_callB call_isi (by rfl) T.n_isinstance (by decide +kernel) (pa_cons (pv 0) (pa_cons (pe_bltn (v := .ty "bool") (u := .type "bool") (by rfl) T.n_bool (by decide +kernel) rfl) (pa_nil)))))))), ?_⟩
    refine ⟨_, rfl, v, .ty "int", .type t, .type "int", b1, rfl, .ty _, ht.ty, kit_ty h1, b1, rfl, ?_⟩
    rw [← h3] at k
    cases b1 with
    | false => exact iteF k
    | true => exact iteT ⟨_, rfl, v, .ty "bool", .type t, .type "bool", b2, rfl, .ty _, ht.ty, kit_ty h2, b2, rfl, k⟩
/-- whether v is an integer from l on -/
def fromB (l : Int) : V → Bool
  | .int i => decide (l ≤ i)
  | _ => false
def spFrom : Sp := fun vs H Q _ => ∃ (v : V) (t : String) (l : Int), vs = [v, .int l] ∧ NT H v t ∧ Q (.bl (fromB l v)) H
theorem fromB_no {H : Hp} {v : V} {t : String} {l : Int} (h : NT H v t) (n : (t == "int") = false) : fromB l v = false := by
  cases h <;> first | rfl | cases n
theorem ok_is_from (T : Txt K mg) : FnOk P w K mg base CX0 2 T.a_is_from T.fd_is_from ["value", "low"] spFrom := by
  refine T.F_is_from.ok sc_is_from (fun vs H Q E h => ?_) (fun cdv A outer s H vs Q E hr h => ?_)
  · obtain ⟨v, t, l, rfl, _⟩ := h; rfl
  · obtain ⟨v, t, l, rfl, ht, k⟩ := h
    refine ⟨_, pss_one (ps_ret (pe_and (pe_call (ok_is_whole T) (hr.mono (by decide)) rfl T.m_is_whole T.F_is_whole.kp (b_is_whole T) .nil pass0 (pa_cons (pv 0) (pa_nil))) (pe_one (pe_cmpR op_ge (pv 0) (pv 1) (nomark _))))), ?_⟩
    refine ⟨_, rfl, v, t, rfl, ht, (t == "int"), rfl, ?_⟩
    cases e : (t == "int") with
    | false => rw [fromB_no ht e] at k; exact iteF k
    | true =>
      obtain ⟨i, rfl⟩ := ht.isInt (beq_iff_eq.mp e)
      exact iteT ⟨_, rfl, _, rfl, _, _, rfl, rfl, k⟩

--CUT
/-! ### calls by keywords alone, and by a variable that holds a def -/
/-- x(k = v, ..) -/
theorem pe_callK0 {X : Cx} {CX : CXT} {k : Nat} {f : Addr} {fd : FuncData} {ps ks : List Str} {sp : Sp} {E : XK} {x : Str} {kws : List Keyword} {tk : TA} {g : List Value → List Value → List Value} {gV : List V → List V → List V} {p pos : Pos}
    (F : FnOk X.prog X.w X.K X.mg X.base CX k f fd ps sp) (hr : Room k X.A) (hg : Gl X x) (hm : X.mg x = some (.ref f)) (hk : PySem.W.keepIn X.K (.ref f) = true) (hb : KBinds X.K fd ps ks g gV) (hx : Passes CX X E)
    (hkw : PK X kws tk) (hall : (backToKw pos (keywordEach kws X.env)).all (·.1.isSome) = true := by rfl) (hks : (backToKw pos (keywordEach kws X.env)).filterMap (·.1) = ks := by rfl)
    (hdb : (x == ("__debug__" : Str)) = false := by decide) (hpl : ((backTo pos (starEach [] X.env)).any (·.1) || (backToKw pos (keywordEach kws X.env)).any (·.1.isNone)) = false := by rfl) :
    PE X (.Call (.Name x p) [] kws pos) (tCallK sp gV E tNil tk) := by
  refine ⟨fun pins s σ H Q I h => ?_⟩
  refine wpAny_Call_Name_kw (ld_glob I hg hm ?_ hdb)
  refine PySem.W.callWith_KW0 (h₀ := X.base) I.ok.mod.kin hk hall ?_ hpl
  refine thn (hkw.run pos pins s σ H _ I h) fun ws s2 ⟨zs, H2, I2, rz, q2⟩ => ⟨I2.kIn, ?_⟩
  rw [hks]
  exact run_fnk (us := []) F hr hb hx I2 .nil rz q2
/-- x(), x a variable that holds the def at f -/
theorem pe_callV0 {X : Cx} {CX : CXT} {k i : Nat} {f : Addr} {sp : Sp} {E : XK} {x : Str} {p pos : Pos} (F : FnR X.prog X.w X.K X.mg X.base CX k f sp) (hr : Room k X.A) (hk : PySem.W.keepIn X.K (.ref f) = true) (hx : Passes CX X E) (hN : X.N[i]? = some x) (hv : Vis X.env.scope x)
    (hd : (x == ("__debug__" : Str)) = false := by decide) (hcd : (x == ("__classdict__" : Str)) = false := by decide) : PE X (.Call (.Name x p) [] [] pos) (fun σ H Q => σ[i]? = some (some (.ref f)) ∧ sp [] H Q E) := by
  refine ⟨fun pins s σ H Q I h => ?_⟩
  obtain ⟨hs, h⟩ := h
  refine wpAny_Call_Name_kw (thn ((pe_var (pos := p) (i := i) hN hv hd hcd).run pins s σ H (fun v H1 => v = .ref f ∧ H1 = H) I ⟨.ref f, hs, rfl, rfl⟩) fun u s1 ⟨v, H1, I1, r1, ev, eH⟩ => ?_)
  subst ev
  rw [eH] at I1
  cases r1
  exact PySem.W.callWith_K0 I1.kIn hk (wpAny_call (run_fnR (us := []) F hr hx I1 .nil h))

/-! ### common, multiple and apart, told also of values that are no integers -/
theorem map_get {ns : List Int} {i : Nat} {y : V} (hi : (ns.map V.int)[i]? = some y) : ∃ z, ns[i]? = some z ∧ y = V.int z := by
  rw [List.getElem?_map] at hi
  cases e : ns[i]? with
  | none => rw [e] at hi; cases hi
  | some z => rw [e] at hi; exact ⟨z, rfl, (Option.some.inj hi).symm⟩
/-- the j-th value is the first one that is no integer from l on (any l) -/
def Wrong (H : Hp) (ok : V → Bool) (vs : List V) (v : V) : Prop := ∃ j : Nat, vs[j]? = some v ∧ (∀ (i : Nat) (y : V), i < j → vs[i]? = some y → ok y = true ∧ ∃ t, NT H y t) ∧ ok v = false ∧ ∃ t, NT H v t
/-- what is raised of it -/
def Tells (C : Addr) (v : V) (H : Hp) (E : XK) : Prop := ∀ (d : Addr) (H' : Hp), Same H H' → H d = Option.none → H' d = some (.xd [("value", v)]) → E (.ref C) (some d) H'
def intB : V → Bool
  | .int _ => true
  | _ => false
theorem intB_nt {H : Hp} {v : V} {t : String} (h : NT H v t) : (t == "int") = intB v := by
  cases h <;> simp [intB]
def spCommon (C : Addr) : Sp := fun vs H Q E => (∃ ns : List Int, vs = ns.map V.int ∧ ∀ H', Same H H' → Q (.int (NM.gcdL ns)) H') ∨ (∃ v, Wrong H intB vs v ∧ Tells C v H E)
theorem ok_common (T : Txt K mg) : FnR P w K mg base (L2.CX P w) 6 T.a_common (fun vs H Q E => vs.length ≤ sizeLine ∧ spCommon T.bad.C vs H Q E) := by
  refine star_okX T.F_common sc_common (fun _ _ _ _ _ _ rest => ?_) (fun cdv A outer s H vs p H0 Q E hr h hl hp eH => ?_)
  · cases rest <;> rfl
  · subst eH
    have s0 : Same H0 (upd H0 p (.tup vs)) := same_new hp
    have hT : SqT K (upd H0 p (.tup vs)) p vs := SqT.of upd_same
    generalize upd H0 p (.tup vs) = H at s0 hT ⊢
    refine ⟨_, pss_cons (ps_for (passes_of rfl) rfl (pi_tup (pv 0)) (pg_name (i := 1) sc_common.nd rfl (Or.inl rfl)) (pss_one (ps_if (pt_not (pt_val (pe_call (ok_is_whole T) (hr.mono (by decide)) rfl T.m_is_whole T.F_is_whole.kp (b_is_whole T) .nil pass0 (pa_cons (pv 1) (pa_nil))))) (pss_one (ps_raise rfl (takes_of rfl rfl rfl rfl) (pmk_bad T.bad (hr.mono (by decide)) rfl (pv 1)))) (pss_nil))))
      (pss_cons (ps_set (i := 2) sc_common.nd rfl (Or.inl rfl) (pe_int))
      (pss_cons (ps_for (passes_of rfl) rfl (pi_tup (pv 0)) (pg_name (i := 1) sc_common.nd rfl (Or.inl rfl)) (pss_one (ps_set (i := 2) sc_common.nd rfl (Or.inl rfl) (pe_callBfun cr_gcd (by rfl) T.m_gcd (pa_cons (pv 2) (pa_cons (pv 1) (pa_nil)))))))
      (pss_one (ps_ret (pv 2))))), ?_⟩
    rcases h with ⟨ns, rfl, k⟩ | ⟨v, ⟨j, hj, hgood, hbad, t, hv⟩, k⟩
    · refine ⟨_, rfl, p, rfl, ⟨_, hT⟩, for_tup (K := K) (a := p) (xs := ns.map V.int) (fun i σ H' => H' = H ∧ ∃ v, σ = [some (.ref p), v, Option.none]) ⟨rfl, Option.none, rfl⟩ (fun _ _ _ _ h => h.1 ▸ hT) ?_ ?_⟩
      · rintro i y σ H' hi ⟨rfl, v, rfl⟩
        obtain ⟨z, hz, rfl⟩ := map_get hi
        exact ⟨_, rfl, _, _, rfl, .int z, true, rfl, iteF ⟨rfl, _, rfl⟩⟩
      · rintro σ H' ⟨rfl, v, rfl⟩
        refine ⟨_, rfl, p, rfl, ⟨_, hT⟩, for_tup (K := K) (a := p) (xs := ns.map V.int) (fun i σ H2 => H2 = H' ∧ ∃ v, σ = [some (.ref p), v, some (.int (NM.gcdL (ns.take i)))]) ⟨rfl, _, rfl⟩ (fun _ _ _ _ h => h.1 ▸ hT) ?_ ?_⟩
        · rintro i y σ H2 hi ⟨rfl, v, rfl⟩
          obtain ⟨z, hz, rfl⟩ := map_get hi
          refine ⟨_, rfl, _, rfl, _, _, rfl, rfl, some (.int z), ?_⟩
          rw [NM.take_snoc hz, NM.gcdL_snoc]
          rfl
        · rintro σ H2 ⟨rfl, v, rfl⟩
          rw [List.length_map, List.take_length]
          exact ⟨_, rfl, k _ s0⟩
    · refine ⟨_, rfl, p, rfl, ⟨_, hT⟩, for_tup (K := K) (a := p) (xs := vs) (fun i σ H' => i ≤ j ∧ H' = H ∧ ∃ v, σ = [some (.ref p), v, Option.none]) ⟨Nat.zero_le _, rfl, Option.none, rfl⟩ (fun _ _ _ _ h => h.2.1 ▸ hT) ?_ ?_⟩
      · rintro i y σ H' hi ⟨hij, rfl, v', rfl⟩
        by_cases e : i = j
        · subst e
          rw [hj] at hi
          cases hi
          refine ⟨_, rfl, _, t, rfl, hv.same s0, (t == "int"), rfl, ?_⟩
          rw [intB_nt hv, hbad]
          refine iteT ?_
          refine ⟨_, rfl, (by show 1 ≤ 1000; decide), fun a ha => bad_fin T.bad ha fun d H2 s2 hd h2 => k d H2 (s0.trans s2) (s0.free hd) h2⟩
        · obtain ⟨g1, t', g2⟩ := hgood i y (by omega) hi
          refine ⟨_, rfl, y, t', rfl, g2.same s0, (t' == "int"), rfl, ?_⟩
          rw [intB_nt g2, g1]
          exact iteF ⟨by omega, rfl, _, rfl⟩
      · rintro σ H' ⟨hij, rfl, v', rfl⟩
        have := (List.getElem?_eq_some_iff.mp hj).1
        omega
/-- a size in bits -/
theorem lcmL_size {b : Nat} (l : List Int) (h : ∀ z ∈ l, 0 < z ∧ z.natAbs < 2 ^ b) : NM.lcmL l ≤ 2 ^ (b * l.length) := by
  suffices ∀ (l : List Int) (a : Nat), 0 < a → (∀ z ∈ l, 0 < z ∧ z.natAbs < 2 ^ b) → l.foldl (fun g n => Nat.lcm g n.natAbs) a ≤ a * 2 ^ (b * l.length) from by
    have q := this l 1 (by decide) h
    rw [Nat.one_mul] at q
    exact q
  intro l
  induction l with
  | nil => intro a ha _; simp
  | cons z l ih =>
    intro a ha h
    have hz := h z List.mem_cons_self
    have hp : 0 < Nat.lcm a z.natAbs := Nat.lcm_pos ha (by omega)
    refine Nat.le_trans (ih _ hp fun y hy => h y (List.mem_cons_of_mem _ hy)) ?_
    rw [List.length_cons, Nat.mul_add, Nat.mul_one, Nat.pow_add, Nat.mul_comm (2 ^ (b * l.length)), ← Nat.mul_assoc]
    refine Nat.mul_le_mul_right _ (Nat.le_trans (NM.lcm_le_mul ha (by omega)) (Nat.mul_le_mul_left _ (Nat.le_of_lt hz.2)))
def spMultiple (C : Addr) : Sp := fun vs H Q E => (∃ ns : List Int, vs = ns.map V.int ∧ (∀ z ∈ ns, 0 < z ∧ z.natAbs < 2 ^ 1000) ∧ ns.length ≤ 60 ∧ ∀ H', Same H H' → Q (.int (NM.lcmL ns)) H') ∨ (∃ v, Wrong H (fromB 1) vs v ∧ Tells C v H E)
theorem ok_multiple (T : Txt K mg) : FnR P w K mg base (L2.CX P w) 6 T.a_multiple (fun vs H Q E => vs.length ≤ sizeLine ∧ spMultiple T.bad.C vs H Q E) := by
  refine star_okX T.F_multiple sc_multiple (fun _ _ _ _ _ _ rest => ?_) (fun cdv A outer s H vs p H0 Q E hr h hl hp eH => ?_)
  · cases rest <;> rfl
  · subst eH
    have s0 : Same H0 (upd H0 p (.tup vs)) := same_new hp
    have hT : SqT K (upd H0 p (.tup vs)) p vs := SqT.of upd_same
    generalize upd H0 p (.tup vs) = H at s0 hT ⊢
    refine ⟨_, pss_cons (ps_for (passes_of rfl) rfl (pi_tup (pv 0)) (pg_name (i := 1) sc_multiple.nd rfl (Or.inl rfl)) (pss_one (ps_if (pt_not (pt_val (pe_call (ok_is_from T) (hr.mono (by decide)) rfl T.m_is_from T.F_is_from.kp (b_is_from T) .nil pass0 (pa_cons (pv 1) (pa_cons (pe_int) (pa_nil)))))) (pss_one (ps_raise rfl (takes_of rfl rfl rfl rfl) (pmk_bad T.bad (hr.mono (by decide)) rfl (pv 1)))) (pss_nil))))
      (pss_cons (ps_set (i := 2) sc_multiple.nd rfl (Or.inl rfl) (pe_int))
      (pss_cons (ps_for (passes_of rfl) rfl (pi_tup (pv 0)) (pg_name (i := 1) sc_multiple.nd rfl (Or.inl rfl)) (pss_one (ps_set (i := 2) sc_multiple.nd rfl (Or.inl rfl) (pe_op op_mulW (pe_op op_fdivW (pv 2) (pe_callBfun cr_gcd (by rfl) T.m_gcd (pa_cons (pv 2) (pa_cons (pv 1) (pa_nil))))) (pv 1)))))
      (pss_one (ps_ret (pv 2))))), ?_⟩
    rcases h with ⟨ns, rfl, hns, hlen, k⟩ | ⟨v, ⟨j, hj, hgood, hbad, t, hv⟩, k⟩
    · have mem : ∀ {i z}, ns[i]? = some z → z ∈ ns := fun h => List.mem_of_getElem? h
      refine ⟨_, rfl, p, rfl, ⟨_, hT⟩, for_tup (K := K) (a := p) (xs := ns.map V.int) (fun i σ H' => H' = H ∧ ∃ v, σ = [some (.ref p), v, Option.none]) ⟨rfl, Option.none, rfl⟩ (fun _ _ _ _ h => h.1 ▸ hT) ?_ ?_⟩
      · rintro i y σ H' hi ⟨rfl, v, rfl⟩
        obtain ⟨z, hz, rfl⟩ := map_get hi
        have h1 := hns z (mem hz)
        refine ⟨_, rfl, _, _, 1, rfl, .int z, decide (1 ≤ z), rfl, ?_⟩
        rw [decide_eq_true (show (1 : Int) ≤ z by omega)]
        exact iteF ⟨rfl, _, rfl⟩
      · rintro σ H' ⟨rfl, v, rfl⟩
        refine ⟨_, rfl, p, rfl, ⟨_, hT⟩, for_tup (K := K) (a := p) (xs := ns.map V.int) (fun i σ H2 => H2 = H' ∧ ∃ v, σ = [some (.ref p), v, some (.int (NM.lcmL (ns.take i)))]) ⟨rfl, _, rfl⟩ (fun _ _ _ _ h => h.1 ▸ hT) ?_ ?_⟩
        · rintro i y σ H2 hi ⟨rfl, v, rfl⟩
          obtain ⟨z, hz, rfl⟩ := map_get hi
          have h1 := hns z (mem hz)
          have hsub : ∀ y ∈ ns.take i, 0 < y ∧ y.natAbs < 2 ^ 1000 := fun y hy => hns y (List.mem_of_mem_take hy)
          have hp : 0 < NM.lcmL (ns.take i) := NM.lcmL_pos fun y hy => (hsub y hy).1
          have hsz := lcmL_size (b := 1000) (ns.take i) hsub
          have hl : (ns.take i).length ≤ 60 := by rw [List.length_take]; omega
          have hsz2 : NM.lcmL (ns.take i) < 2 ^ 60001 := Nat.lt_of_le_of_lt hsz (Nat.pow_lt_pow_right (by decide) (by omega))
          have hgp : 0 < Nat.gcd (NM.lcmL (ns.take i)) z.natAbs := Nat.gcd_pos_of_pos_left _ hp
          have hgl : Nat.gcd (NM.lcmL (ns.take i)) z.natAbs ≤ z.natAbs := Nat.le_of_dvd (by omega) (Nat.gcd_dvd_right _ _)
          refine ⟨_, rfl, _, rfl, _, rfl, _, _, rfl, _, _, rfl, rfl, wide_div (b := 1000) (by show (0 : Int) < ((Nat.gcd (NM.lcmL (ns.take i)) z.natAbs : Nat) : Int); omega) (Nat.lt_of_le_of_lt hgl h1.2) (by decide) (by decide), _, rfl, _, _, rfl, rfl, ?_, rfl, some (.int z), ?_⟩
          · refine wide_mul (a := 60001) (b := 1000) ?_ h1.2 (by decide) (by decide) (by decide)
            refine Nat.lt_of_le_of_lt ?_ hsz2
            show (((NM.lcmL (ns.take i) : Nat) : Int) / ((Nat.gcd (NM.lcmL (ns.take i)) z.natAbs : Nat) : Int)).natAbs ≤ _
            rw [← Int.natCast_ediv, Int.natAbs_natCast]
            exact Nat.div_le_self _ _
          · rw [NM.take_snoc hz, NM.lcmL_snoc]
            have e := NM.lcm_step (f := (NM.lcmL (ns.take i) : Int)) (n := z) (by omega) h1.1
            show [some (V.ref p), some (V.int z), some (V.int (((NM.lcmL (ns.take i) : Nat) : Int) / ((Nat.gcd (NM.lcmL (ns.take i)) z.natAbs : Nat) : Int) * z))] = _
            rw [show ((Nat.gcd (NM.lcmL (ns.take i)) z.natAbs : Nat) : Int) = ((Nat.gcd ((NM.lcmL (ns.take i) : Nat) : Int).natAbs z.natAbs : Nat) : Int) from rfl, e]
            rfl
        · rintro σ H2 ⟨rfl, v, rfl⟩
          rw [List.length_map, List.take_length]
          exact ⟨_, rfl, k _ s0⟩
    · refine ⟨_, rfl, p, rfl, ⟨_, hT⟩, for_tup (K := K) (a := p) (xs := vs) (fun i σ H' => i ≤ j ∧ H' = H ∧ ∃ v, σ = [some (.ref p), v, Option.none]) ⟨Nat.zero_le _, rfl, Option.none, rfl⟩ (fun _ _ _ _ h => h.2.1 ▸ hT) ?_ ?_⟩
      · rintro i y σ H' hi ⟨hij, rfl, v', rfl⟩
        by_cases e : i = j
        · subst e
          rw [hj] at hi
          cases hi
          refine ⟨_, rfl, _, t, 1, rfl, hv.same s0, fromB 1 v, rfl, ?_⟩
          rw [hbad]
          refine iteT ?_
          refine ⟨_, rfl, (by show 1 ≤ 1000; decide), fun a ha => bad_fin T.bad ha fun d H2 s2 hd h2 => k d H2 (s0.trans s2) (s0.free hd) h2⟩
        · obtain ⟨g1, t', g2⟩ := hgood i y (by omega) hi
          refine ⟨_, rfl, y, t', 1, rfl, g2.same s0, fromB 1 y, rfl, ?_⟩
          rw [g1]
          exact iteF ⟨by omega, rfl, _, rfl⟩
      · rintro σ H' ⟨hij, rfl, v', rfl⟩
        have := (List.getElem?_eq_some_iff.mp hj).1
        omega
def spApart (C : Addr) : Sp := fun vs H Q E => (∃ d p : Int, vs = [.int d, .int p] ∧ 0 < p ∧ Q (.int (NM.apartI d p)) H) ∨ (∃ (x y : V) (t : String), vs = [x, y] ∧ NT H x t ∧ intB x = false ∧ Tells C x H E) ∨ (∃ (d : Int) (y : V) (t : String), vs = [.int d, y] ∧ NT H y t ∧ fromB 1 y = false ∧ Tells C y H E)
theorem ok_apart (T : Txt K mg) : FnOk P w K mg base (L2.CX P w) 6 T.a_apart T.fd_apart ["d", "period"] (spApart T.bad.C) := by
  refine T.F_apart.okX sc_apart (fun vs H Q E h => ?_) (fun cdv A outer s H vs Q E hr h => ?_)
  · rcases h with ⟨_, _, rfl, _⟩ | ⟨_, _, _, rfl, _⟩ | ⟨_, _, _, rfl, _⟩ <;> rfl
  · refine ⟨_, pss_cons (ps_if (pt_not (pt_val (pe_call (ok_is_whole T) (hr.mono (by decide)) rfl T.m_is_whole T.F_is_whole.kp (b_is_whole T) .nil pass0 (pa_cons (pv 0) (pa_nil))))) (pss_one (ps_raise rfl (takes_of rfl rfl rfl rfl) (pmk_bad T.bad (hr.mono (by decide)) rfl (pv 0)))) (pss_nil))
      (pss_cons (ps_if (pt_not (pt_val (pe_call (ok_is_from T) (hr.mono (by decide)) rfl T.m_is_from T.F_is_from.kp (b_is_from T) .nil pass0 (pa_cons (pv 1) (pa_cons (pe_int) (pa_nil)))))) (pss_one (ps_raise rfl (takes_of rfl rfl rfl rfl) (pmk_bad T.bad (hr.mono (by decide)) rfl (pv 1)))) (pss_nil))
      (pss_cons (ps_set (i := 2) sc_apart.nd rfl (Or.inl rfl) (pe_op op_modN (pv 0) (pv 1)))
      (pss_one (ps_ret (pe_callB (call_min2 rfl) (by rfl) T.n_min (by decide +kernel) (pa_cons (pv 2) (pa_cons (pe_op op_sub (pv 1) (pv 2)) (pa_nil)))))))), ?_⟩
    rcases h with ⟨d, q, rfl, hq, k⟩ | ⟨x, y, t, rfl, hx, nx, k⟩ | ⟨d, y, t, rfl, hy, ny, k⟩
    · refine ⟨_, rfl, _, _, rfl, .int d, true, rfl, iteF ?_⟩
      refine ⟨_, rfl, _, _, 1, rfl, .int q, decide (1 ≤ q), rfl, ?_⟩
      rw [decide_eq_true (show (1 : Int) ≤ q by omega)]
      refine iteF ⟨_, rfl, _, rfl, _, _, rfl, rfl, (by omega), ?_⟩
      refine ⟨_, rfl, _, rfl, _, rfl, _, _, rfl, rfl, _, _, rfl, ?_⟩
      have e : d.fmod q = d % q := Int.fmod_eq_emod_of_nonneg d (by omega)
      rw [e]
      exact k
    · refine ⟨_, rfl, x, t, rfl, hx, (t == "int"), rfl, ?_⟩
      rw [intB_nt hx, nx]
      refine iteT ⟨_, rfl, (by show 1 ≤ 1000; decide), fun a ha => bad_fin T.bad ha fun d H2 s2 hd h2 => k d H2 s2 hd h2⟩
    · refine ⟨_, rfl, _, _, rfl, .int d, true, rfl, iteF ?_⟩
      refine ⟨_, rfl, y, t, 1, rfl, hy, fromB 1 y, rfl, ?_⟩
      rw [ny]
      refine iteT ⟨_, rfl, (by show 1 ≤ 1000; decide), fun a ha => bad_fin T.bad ha fun d H2 s2 hd h2 => k d H2 s2 hd h2⟩

--CUT
/-! ### the draws -/
def spPen (K : PySem.W.Frag) : Sp := fun vs H Q _ => ∃ (a : Addr) (ns : List Int), vs = [.ref a] ∧ SqL K H a (ns.map V.int) ∧ ns.length ≤ 63 ∧ ∀ (p : Addr) (H' : Hp), Same H H' → Pen H' p 0 → Q (.ref p) H'
theorem ok_pen (T : Txt K mg) : FnOk P w K mg base CX0 1 T.a_pen T.fd_pen ["_law_script"] (spPen K) := by
  refine T.F_pen.ok sc_pen (fun vs H Q E h => ?_) (fun cdv A outer s H vs Q E hr h => ?_)
  · obtain ⟨a, ns, rfl, _⟩ := h; rfl
  · obtain ⟨a, ns, rfl, hS, hl, k⟩ := h
    refine ⟨_, pss_one (ps_ret (pe_lst (pa_cons (pe_callTy call_list_of (by rfl) T.n_list (by decide +kernel) (pa_cons (pe_slice sl_list (pv 0) (po_none) (po_some (pe_int))) (pa_nil))) (pa_cons (pe_int) (pa_cons (pe_int) (pa_nil)))))), ?_⟩
    obtain ⟨ms, em, lm⟩ := cut_ints ns none (some 63)
    refine ⟨_, rfl, _, rfl, a, _, rfl, hS, fun q hq => ?_⟩
    refine ⟨q, _, rfl, .inl (SqL.of upd_same), fun l hl => ?_⟩
    refine ⟨(by show 3 ≤ sizeLine; decide), fun p hp => k p _ ?_ ?_⟩
    · exact (same_new hq).trans ((same_new hl).trans (same_new hp))
    · refine ⟨l, ms, 0, 0, upd_same, ?_, by omega, by omega, by omega, by omega⟩
      rw [upd_ne (ne_of_none upd_same hp), upd_same, em]
def spDraw : Sp := fun vs H Q _ => ∃ (p : Addr) (m : Int) (n : Nat), vs = [.ref p, .int m] ∧ 0 < m ∧ m < 1073741824 ∧ Pen H p n ∧ n < 100000 ∧ ∀ (r : Int) (H' : Hp), 0 ≤ r → r < m → Pen H' p (n + 1) → Fr p H H' → Q (.int r) H'
theorem ok_draw (T : Txt K mg) : FnOk P w K mg base CX0 1 T.a_draw T.fd_draw ["_law_pen_here", "_law_many"] spDraw := by
  refine T.F_draw.ok sc_draw (fun vs H Q E h => ?_) (fun cdv A outer s H vs Q E hr h => ?_)
  · obtain ⟨p, m, n, rfl, _⟩ := h; rfl
  · obtain ⟨p, m, n, rfl, hm, hm2, ⟨c, ns, i, g, hp, hc, i0, i1, g0, hl⟩, hn, k⟩ := h
    have cp : c ≠ p := pen_ne hp hc
    have mb : m.natAbs < 2 ^ 30 := by omega
    refine ⟨_, pss_cons (ps_if (pt_cmpR op_gt (pe_ix ix_list (pv 0) (pe_int) (fun _ _ => rfl)) (pe_int) (nomark _)) (pss_cons (ps_set (i := 2) sc_draw.nd rfl (Or.inl rfl) (pe_op op_modN (pe_callTy call_int1 (by rfl) T.n_int (by decide +kernel) (pa_cons (pe_ix ix_list (pv 0) (pe_int) (fun _ _ => rfl)) (pa_nil))) (pv 1)))
      (pss_cons (ps_asg (pe_op op_fdivW (pe_callTy call_int1 (by rfl) T.n_int (by decide +kernel) (pa_cons (pe_ix ix_list (pv 0) (pe_int) (fun _ _ => rfl)) (pa_nil))) (pv 1)) (pg_sub (pv 0) (pe_int) set_list))
      (pss_one (ps_ret (pv 2))))) (pss_nil))
      (pss_cons (ps_set (i := 3) sc_draw.nd rfl (Or.inl rfl) (pe_ix ix_list (pv 0) (pe_int) (fun _ _ => rfl)))
      (pss_cons (ps_asg (pe_op op_add (pv 3) (pe_int)) (pg_sub (pv 0) (pe_int) set_list))
      (pss_cons (ps_set (i := 4) sc_draw.nd rfl (Or.inl rfl) (pe_op op_add (pe_op op_mul (pe_int) (pv 3)) (pe_int)))
      (C8.pss_cut (ps_if (pt_cmpR (op_neD hr.units) (pe_ix ix_list (pv 0) (pe_int) (fun _ _ => rfl)) (pe_lst (pa_nil)) (nomark _)) (pss_one (ps_set (i := 4) sc_draw.nd rfl (Or.inl rfl) (pe_ix ix_list (pe_ix ix_list (pv 0) (pe_int) (fun _ _ => rfl)) (pe_op op_modN (pe_callTy call_int1 (by rfl) T.n_int (by decide +kernel) (pa_cons (pv 3) (pa_nil))) (pe_callB call_len_seq (by rfl) T.n_len (by decide +kernel) (pa_cons (pe_ix ix_list (pv 0) (pe_int) (fun _ _ => rfl)) (pa_nil)))) (fun _ _ => rfl)))) (pss_nil))
      (C8.pss_cut (ps_if (PW.pt (pw_and (pt_cmpR op_lt (pv 3) (pe_callB call_len_seq (by rfl) T.n_len (by decide +kernel) (pa_cons (pe_ix ix_list (pv 0) (pe_int) (fun _ _ => rfl)) (pa_nil))) (nomark _)) (pw_and1 (pt_cmpR op_ge (pe_callB call_abs (by rfl) T.n_abs (by decide +kernel) (pa_cons (pv 4) (pa_nil))) (pe_op op_pow (pe_int) (pe_int)) (nomark _))))) (pss_cons (ps_set (i := 5) sc_draw.nd rfl (Or.inl rfl) (pe_op op_add (pe_op op_mul (pe_int) (pe_op op_sub (pe_callB call_abs (by rfl) T.n_abs (by decide +kernel) (pa_cons (pv 4) (pa_nil))) (pe_op op_pow (pe_int) (pe_int)))) (pe_callTy call_int1 (by rfl) T.n_int (by decide +kernel) (pa_cons (pe_cmpR op_lt (pv 4) (pe_int) (nomark _)) (pa_nil)))))
      (pss_cons (ps_asg (pe_op op_fdivW (pe_callTy call_int1 (by rfl) T.n_int (by decide +kernel) (pa_cons (pv 5) (pa_nil))) (pv 1)) (pg_sub (pv 0) (pe_int) set_list))
      (pss_one (ps_ret (pe_op op_modN (pe_callTy call_int1 (by rfl) T.n_int (by decide +kernel) (pa_cons (pv 5) (pa_nil))) (pv 1)))))) (pss_nil))
      (pss_cons (ps_set (i := 6) sc_draw.nd rfl (Or.inl rfl) (pe_op op_modN (pe_callTy call_int1 (by rfl) T.n_int (by decide +kernel) (pa_cons (pe_op op_pow (pe_op op_add (pe_op op_add (pe_op op_modN (pe_callTy call_int1 (by rfl) T.n_int (by decide +kernel) (pa_cons (pv 4) (pa_nil))) (pe_int)) (pe_op op_mul (pe_int) (pv 3))) (pe_int)) (pe_int)) (pa_nil))) (pe_int)))
      (pss_cons (ps_set (i := 6) sc_draw.nd rfl (Or.inl rfl) (pe_op op_modN (pe_callTy call_int1 (by rfl) T.n_int (by decide +kernel) (pa_cons (pe_op op_pow (pe_op op_add (pe_op op_add (pe_op op_mul (pv 6) (pe_op op_add (pe_op op_mul (pe_int) (pv 3)) (pe_int))) (pe_op op_mul (pe_op op_mul (pe_int) (pv 3)) (pv 3))) (pe_int)) (pe_int)) (pa_nil))) (pe_int)))
      (pss_one (ps_ret (pe_op op_modN (pe_callTy call_int1 (by rfl) T.n_int (by decide +kernel) (pa_cons (pe_op op_fdivW (pv 6) (pe_int)) (pa_nil))) (pv 1))))))))))), ?_⟩
    refine ⟨_, rfl, p, _, _, _, rfl, rfl, SqL.of hp, rfl, _, _, rfl, rfl, _, rfl, ?_⟩
    refine ite2 (fun hg => ?_) (fun hg => ?_)
    · refine ⟨_, rfl, p, _, _, _, rfl, rfl, SqL.of hp, rfl, .inl ⟨_, rfl, ?_⟩⟩
      refine ⟨_, rfl, _, _, rfl, rfl, (by omega), ?_⟩
      refine ⟨_, rfl, p, _, _, _, rfl, rfl, SqL.of hp, rfl, .inl ⟨_, rfl, ?_⟩⟩
      refine ⟨_, rfl, _, _, rfl, rfl, wide_div hm mb (by decide) (by decide), ?_⟩
      refine ⟨_, rfl, p, _, _, _, rfl, rfl, hp, rfl, _, rfl, ?_⟩
      have fm := fmod_pos (x := g) hm
      refine k _ _ fm.1 fm.2 ⟨c, ns, i, g / m, upd_same, ?_, i0, by omega, Int.ediv_nonneg g0 (by omega), hl⟩ (fr_upd hp)
      rw [upd_ne cp]; exact hc
    · refine ⟨_, rfl, p, _, _, _, rfl, rfl, SqL.of hp, rfl, ?_⟩
      refine ⟨_, rfl, _, _, rfl, rfl, _, rfl, p, _, _, _, rfl, rfl, hp, rfl, ?_⟩
      -- the index is one more
      have f1 : Fr p H (upd H p (.lst [.ref c, .int (i + 1), .int g])) := fr_upd hp
      have hp1 : (upd H p (.lst [.ref c, .int (i + 1), .int g])) p = some (.lst [.ref c, .int (i + 1), .int g]) := upd_same
      have hc1 : (upd H p (.lst [.ref c, .int (i + 1), .int g])) c = some (.lst (ns.map V.int)) := by rw [upd_ne cp]; exact hc
      show _
      refine ⟨_, rfl, _, _, rfl, rfl, .inl ⟨by decide, by decide⟩, _, _, rfl, rfl, ?_⟩
      refine ⟨fun σ' H' => ∃ raw : Int, σ' = [some (.ref p), some (.int m), Option.none, some (.int i), some (.int raw), Option.none, Option.none] ∧ Same (upd H p (.lst [.ref c, .int (i + 1), .int g])) H', ?_, ?_⟩
      · refine ⟨_, rfl, p, _, _, _, rfl, rfl, SqL.of hp1, rfl, Nat.zero_le _, fun l hl0 => ?_⟩
        refine ⟨.list (ns.map PyData.int), .list [], .lst (SqL.of (same_new hl0 _ _ hc1)) (dp_ints ns), .lst (SqL.of upd_same) .nil, PySem.W.ke_shaped_ints ns, by decide +kernel, _, rfl, ?_⟩
        have s1 := same_new (o := .lst []) hl0
        cases ns with
        | nil => exact iteF ⟨_, rfl, s1⟩
        | cons z r =>
          refine iteT ?_
          refine ⟨_, rfl, p, _, _, _, rfl, rfl, SqL.of (s1 _ _ hp1), rfl, ?_⟩
          refine ⟨_, rfl, .inl ⟨_, rfl, ?_⟩⟩
          refine ⟨_, rfl, p, _, _, _, rfl, rfl, SqL.of (s1 _ _ hp1), rfl, c, _, rfl, .inl (SqL.of (s1 _ _ hc1)), _, _, rfl, rfl, ?_⟩
          have lp : (0 : Int) < (((z :: r).map V.int).length : Nat) := by rw [List.length_map, List.length_cons]; omega
          have fm := fmod_pos (x := i) lp
          have fm2 : i.fmod (((z :: r).map V.int).length : Nat) < (((z :: r).length : Nat) : Int) := by have := fm.2; rw [List.length_map] at this; rw [List.length_map]; exact this
          obtain ⟨y, hy⟩ := atI_in fm.1 fm2
          exact ⟨by omega, c, _, _, _, rfl, rfl, SqL.of (s1 _ _ hc1), hy, y, rfl, s1⟩
      · rintro σ' H' ⟨raw, rfl, s1⟩
        have hp2 := s1 _ _ hp1
        have hc2 := s1 _ _ hc1
        have f2 : Fr p H H' := f1.trans (same_fr s1)
        have penE : ∀ g' : Int, 0 ≤ g' → Pen (upd H' p (.lst [.ref c, .int (i + 1), .int g'])) p (n + 1) := fun g' h' => ⟨c, ns, i + 1, g', upd_same, by rw [upd_ne cp]; exact hc2, by omega, by omega, h', hl⟩
        refine ⟨fun σ'' H'' => σ'' = [some (.ref p), some (.int m), Option.none, some (.int i), some (.int raw), Option.none, Option.none] ∧ H'' = H', ?_, ?_⟩
        rotate_left
        · rintro σ'' H'' ⟨rfl, rfl⟩
          refine ⟨_, rfl, .inl ⟨_, rfl, ?_⟩⟩
          refine ⟨_, _, rfl, rfl, (by show (_ : Int) ≠ 0; decide), _, rfl, _, _, rfl, rfl, .inl ⟨by decide, by decide⟩, _, _, rfl, rfl, _, _, rfl, rfl, ?_⟩
          have r1 := fmod_pos (x := raw) (m := 2147483549) (by decide)
          refine ⟨_, _, rfl, rfl, ⟨by decide, by decide, stir1 r1.1 (by omega) i0 (by omega) (by decide) (by decide) (by decide) (by decide)⟩, .inl ⟨_, rfl, ?_⟩⟩
          refine ⟨_, _, rfl, rfl, (by show (_ : Int) ≠ 0; decide), ?_⟩
          have r2 : ∀ x : Int, 0 ≤ x.fmod 2147483629 ∧ x.fmod 2147483629 < 2147483629 := fun x => fmod_pos (by decide)
          refine ⟨_, rfl, _, rfl, _, _, rfl, rfl, .inl ⟨by decide, by decide⟩, _, _, rfl, rfl, _, _, rfl, rfl, .inl (small64 (r2 _).1 (Int.lt_trans (r2 _).2 (by decide))), ?_⟩
          refine ⟨_, rfl, _, _, rfl, rfl, .inl ⟨by decide, by decide⟩, _, rfl, _, _, rfl, rfl, .inr ⟨by omega, by omega⟩, _, _, rfl, rfl, _, _, rfl, rfl, ?_⟩
          refine ⟨_, _, rfl, rfl, ⟨by decide, by decide, stir2 (r2 _).1 (Int.lt_trans (r2 _).2 (by decide)) i0 (by omega) (by decide) (by decide) (by decide) (by decide) (by decide) (by decide)⟩, .inl ⟨_, rfl, ?_⟩⟩
          refine ⟨_, _, rfl, rfl, (by show (_ : Int) ≠ 0; decide), ?_⟩
          refine ⟨_, rfl, _, _, rfl, rfl, wide_div (b := 10) (by decide) (by decide) (by decide) (by decide), .inl ⟨_, rfl, ?_⟩⟩
          refine ⟨_, rfl, _, _, rfl, rfl, (by omega), ?_⟩
          have fm := fun x => fmod_pos (x := x) hm
          exact k _ _ (fm _).1 (fm _).2 ⟨c, ns, i + 1, g, hp2, hc2, by omega, by omega, g0, hl⟩ f2
        refine ⟨_, rfl, _, rfl, p, _, _, _, rfl, rfl, SqL.of hp2, rfl, c, _, rfl, .inl (SqL.of hc2), _, _, rfl, rfl, _, rfl, ?_⟩
        refine ite2 (fun hlt => ?_) (fun hlt => ?_)
        · refine ⟨_, rfl, _, rfl, _, _, rfl, rfl, ⟨by decide, by decide, by decide⟩, _, _, rfl, rfl, _, rfl, ?_⟩
          refine ite2 (fun hge => ?_) (fun hge => ?_)
          · have hge := of_decide_eq_true hge
            refine ⟨_, rfl, _, rfl, _, _, rfl, rfl, ⟨by decide, by decide, by decide⟩, _, _, rfl, rfl, _, _, rfl, rfl, .inl ⟨by decide, by decide⟩, ?_⟩
            refine ⟨_, rfl, _, _, rfl, rfl, .inr ⟨_, rfl, ?_⟩⟩
            refine ⟨_, _, rfl, rfl, ?_⟩
            have gpos : (0 : Int) ≤ 2 * ((if raw < 0 then -raw else raw) - 10 ^ (18 : Int).toNat) + (if decide (raw < 0) = true then 1 else 0) := by
              have : (0 : Int) ≤ (if decide (raw < 0) = true then 1 else 0) := by split <;> omega
              omega
            refine ⟨_, rfl, .inl ⟨_, rfl, ?_⟩⟩
            refine ⟨_, rfl, _, _, rfl, rfl, wide_div hm mb (by decide) (by decide), ?_⟩
            refine ⟨_, rfl, p, _, _, _, rfl, rfl, hp2, rfl, ?_⟩
            refine ⟨_, rfl, .inl ⟨_, rfl, ?_⟩⟩
            refine ⟨_, rfl, _, _, rfl, rfl, (by omega), ?_⟩
            have fm := fun x => fmod_pos (x := x) hm
            exact k _ _ (fm _).1 (fm _).2 (penE _ (Int.ediv_nonneg gpos (by omega))) (f2.trans (fr_upd hp2))
          · exact ⟨rfl, rfl⟩
        · exact ⟨rfl, rfl⟩

--CUT
def spAsked (K : PySem.W.Frag) : Sp := fun vs H Q _ => ∃ (l : Addr) (ns : List Int) (b : Bool), vs = [.ref l, .bl b] ∧ SqL K H l (ns.map V.int) ∧ ns.length ≤ 4 ∧ ((b = true ∧ ∀ H', Same H H' → Q (.int (NM.gcdL ns)) H') ∨ (b = false ∧ (∀ z ∈ ns, 0 < z ∧ z.natAbs < 2 ^ 1000) ∧ ∀ H', Same H H' → Q (.int (NM.lcmL ns)) H'))
theorem ok_asked (T : Txt K mg) : FnOk P w K mg base CX0 8 T.a_asked T.fd_asked ["_law_some", "_law_is_common"] (spAsked K) := by
  refine T.F_asked.ok sc_asked (fun vs H Q E h => ?_) (fun cdv A outer s H vs Q E hr h => ?_)
  · obtain ⟨l, ns, b, rfl, _⟩ := h; rfl
  · obtain ⟨l, ns, b, rfl, hS, h4, h⟩ := h
    -- what is asked of the values
    have hlen : ns.length ≤ 4 := h4
    rcases h with ⟨rfl, k⟩ | ⟨rfl, hns, k⟩
    · have FF := ok_common (P := P) (w := w) (base := base) T
      have KF := T.F_common.kp
      have go : ∀ ws : List V, ws = ns.map V.int → ws.length ≤ sizeLine ∧ spCommon T.bad.C ws H Q (fun _ _ _ => False) := fun ws e => by
        subst e
        exact ⟨Nat.le_trans (show (ns.map V.int).length ≤ 4 by rw [List.length_map]; exact h4) (by decide), .inl ⟨ns, rfl, k⟩⟩
      refine ⟨_, pss_cons (ps_set (i := 2) sc_asked.nd rfl (Or.inl rfl) (pe_ifExp (pt_val (pv 1)) (pe_glob (v := .ref T.a_common) rfl T.m_common rfl) (pe_glob (v := .ref T.a_multiple) rfl T.m_multiple rfl)))
      (pss_cons (ps_if (pt_cmpR op_eq (pe_callB call_len_seq (by rfl) T.n_len (by decide +kernel) (pa_cons (pv 0) (pa_nil))) (pe_int) (nomark _)) (pss_one (ps_ret (pe_callV0 (i := 2) FF (hr.mono (by decide)) KF passL rfl (Or.inl rfl)))) (pss_nil))
      (pss_cons (ps_if (pt_cmpR op_eq (pe_callB call_len_seq (by rfl) T.n_len (by decide +kernel) (pa_cons (pv 0) (pa_nil))) (pe_int) (nomark _)) (pss_one (ps_ret (ItX.pe_callV (i := 2) FF (hr.mono (by decide)) KF passL rfl (Or.inl rfl) (pa_cons (pe_ix ix_list (pv 0) (pe_int) (fun _ _ => rfl)) (pa_nil))))) (pss_nil))
      (pss_cons (ps_if (pt_cmpR op_eq (pe_callB call_len_seq (by rfl) T.n_len (by decide +kernel) (pa_cons (pv 0) (pa_nil))) (pe_int) (nomark _)) (pss_one (ps_ret (ItX.pe_callV (i := 2) FF (hr.mono (by decide)) KF passL rfl (Or.inl rfl) (pa_cons (pe_ix ix_list (pv 0) (pe_int) (fun _ _ => rfl)) (pa_cons (pe_ix ix_list (pv 0) (pe_int) (fun _ _ => rfl)) (pa_nil)))))) (pss_nil))
      (pss_one (ps_ret (pe_ifExp (pt_cmpR op_eq (pe_callB call_len_seq (by rfl) T.n_len (by decide +kernel) (pa_cons (pv 0) (pa_nil))) (pe_int) (nomark _)) (ItX.pe_callV (i := 2) FF (hr.mono (by decide)) KF passL rfl (Or.inl rfl) (pa_cons (pe_ix ix_list (pv 0) (pe_int) (fun _ _ => rfl)) (pa_cons (pe_ix ix_list (pv 0) (pe_int) (fun _ _ => rfl)) (pa_cons (pe_ix ix_list (pv 0) (pe_int) (fun _ _ => rfl)) (pa_nil))))) (ItX.pe_callV (i := 2) FF (hr.mono (by decide)) KF passL rfl (Or.inl rfl) (pa_cons (pe_ix ix_list (pv 0) (pe_int) (fun _ _ => rfl)) (pa_cons (pe_ix ix_list (pv 0) (pe_int) (fun _ _ => rfl)) (pa_cons (pe_ix ix_list (pv 0) (pe_int) (fun _ _ => rfl)) (pa_cons (pe_ix ix_list (pv 0) (pe_int) (fun _ _ => rfl)) (pa_nil)))))))))))), ?_⟩
      refine ⟨_, rfl, true, rfl, iteT ?_⟩
      clear k
      match ns, hlen, hS, go with
      | [], _, hS, go => exact ⟨_, rfl, l, _, rfl, .inl hS, rfl, _, rfl, iteT ⟨rfl, go _ rfl⟩⟩
      | [x], _, hS, go =>
        refine ⟨_, rfl, l, _, rfl, .inl hS, rfl, _, rfl, iteF ?_⟩
        refine ⟨_, rfl, l, _, rfl, .inl hS, rfl, _, rfl, iteT ⟨rfl, ?_⟩⟩
        exact ⟨_, rfl, l, _, _, _, rfl, rfl, hS, rfl, go _ rfl⟩
      | [x, y], _, hS, go =>
        refine ⟨_, rfl, l, _, rfl, .inl hS, rfl, _, rfl, iteF ?_⟩
        refine ⟨_, rfl, l, _, rfl, .inl hS, rfl, _, rfl, iteF ?_⟩
        refine ⟨_, rfl, l, _, rfl, .inl hS, rfl, _, rfl, iteT ⟨rfl, ?_⟩⟩
        exact ⟨_, rfl, l, _, _, _, rfl, rfl, hS, rfl, _, rfl, l, _, _, _, rfl, rfl, hS, rfl, go _ rfl⟩
      | [x, y, z], _, hS, go =>
        refine ⟨_, rfl, l, _, rfl, .inl hS, rfl, _, rfl, iteF ?_⟩
        refine ⟨_, rfl, l, _, rfl, .inl hS, rfl, _, rfl, iteF ?_⟩
        refine ⟨_, rfl, l, _, rfl, .inl hS, rfl, _, rfl, iteF ?_⟩
        refine ⟨_, rfl, l, _, rfl, .inl hS, rfl, _, rfl, iteT ⟨rfl, ?_⟩⟩
        exact ⟨_, rfl, l, _, _, _, rfl, rfl, hS, rfl, _, rfl, l, _, _, _, rfl, rfl, hS, rfl, _, rfl, l, _, _, _, rfl, rfl, hS, rfl, go _ rfl⟩
      | [x, y, z, t], _, hS, go =>
        refine ⟨_, rfl, l, _, rfl, .inl hS, rfl, _, rfl, iteF ?_⟩
        refine ⟨_, rfl, l, _, rfl, .inl hS, rfl, _, rfl, iteF ?_⟩
        refine ⟨_, rfl, l, _, rfl, .inl hS, rfl, _, rfl, iteF ?_⟩
        refine ⟨_, rfl, l, _, rfl, .inl hS, rfl, _, rfl, iteF ⟨rfl, ?_⟩⟩
        exact ⟨_, rfl, l, _, _, _, rfl, rfl, hS, rfl, _, rfl, l, _, _, _, rfl, rfl, hS, rfl, _, rfl, l, _, _, _, rfl, rfl, hS, rfl, _, rfl, l, _, _, _, rfl, rfl, hS, rfl, go _ rfl⟩
      | _ :: _ :: _ :: _ :: _ :: _, h, _, _ => simp at h
    · have FF := ok_multiple (P := P) (w := w) (base := base) T
      have KF := T.F_multiple.kp
      have go : ∀ ws : List V, ws = ns.map V.int → ws.length ≤ sizeLine ∧ spMultiple T.bad.C ws H Q (fun _ _ _ => False) := fun ws e => by
        subst e
        exact ⟨Nat.le_trans (show (ns.map V.int).length ≤ 4 by rw [List.length_map]; exact h4) (by decide), .inl ⟨ns, rfl, hns, by omega, k⟩⟩
      refine ⟨_, pss_cons (ps_set (i := 2) sc_asked.nd rfl (Or.inl rfl) (pe_ifExp (pt_val (pv 1)) (pe_glob (v := .ref T.a_common) rfl T.m_common rfl) (pe_glob (v := .ref T.a_multiple) rfl T.m_multiple rfl)))
      (pss_cons (ps_if (pt_cmpR op_eq (pe_callB call_len_seq (by rfl) T.n_len (by decide +kernel) (pa_cons (pv 0) (pa_nil))) (pe_int) (nomark _)) (pss_one (ps_ret (pe_callV0 (i := 2) FF (hr.mono (by decide)) KF passL rfl (Or.inl rfl)))) (pss_nil))
      (pss_cons (ps_if (pt_cmpR op_eq (pe_callB call_len_seq (by rfl) T.n_len (by decide +kernel) (pa_cons (pv 0) (pa_nil))) (pe_int) (nomark _)) (pss_one (ps_ret (ItX.pe_callV (i := 2) FF (hr.mono (by decide)) KF passL rfl (Or.inl rfl) (pa_cons (pe_ix ix_list (pv 0) (pe_int) (fun _ _ => rfl)) (pa_nil))))) (pss_nil))
      (pss_cons (ps_if (pt_cmpR op_eq (pe_callB call_len_seq (by rfl) T.n_len (by decide +kernel) (pa_cons (pv 0) (pa_nil))) (pe_int) (nomark _)) (pss_one (ps_ret (ItX.pe_callV (i := 2) FF (hr.mono (by decide)) KF passL rfl (Or.inl rfl) (pa_cons (pe_ix ix_list (pv 0) (pe_int) (fun _ _ => rfl)) (pa_cons (pe_ix ix_list (pv 0) (pe_int) (fun _ _ => rfl)) (pa_nil)))))) (pss_nil))
      (pss_one (ps_ret (pe_ifExp (pt_cmpR op_eq (pe_callB call_len_seq (by rfl) T.n_len (by decide +kernel) (pa_cons (pv 0) (pa_nil))) (pe_int) (nomark _)) (ItX.pe_callV (i := 2) FF (hr.mono (by decide)) KF passL rfl (Or.inl rfl) (pa_cons (pe_ix ix_list (pv 0) (pe_int) (fun _ _ => rfl)) (pa_cons (pe_ix ix_list (pv 0) (pe_int) (fun _ _ => rfl)) (pa_cons (pe_ix ix_list (pv 0) (pe_int) (fun _ _ => rfl)) (pa_nil))))) (ItX.pe_callV (i := 2) FF (hr.mono (by decide)) KF passL rfl (Or.inl rfl) (pa_cons (pe_ix ix_list (pv 0) (pe_int) (fun _ _ => rfl)) (pa_cons (pe_ix ix_list (pv 0) (pe_int) (fun _ _ => rfl)) (pa_cons (pe_ix ix_list (pv 0) (pe_int) (fun _ _ => rfl)) (pa_cons (pe_ix ix_list (pv 0) (pe_int) (fun _ _ => rfl)) (pa_nil)))))))))))), ?_⟩
      refine ⟨_, rfl, false, rfl, iteF ?_⟩
      clear k
      match ns, hlen, hS, go with
      | [], _, hS, go => exact ⟨_, rfl, l, _, rfl, .inl hS, rfl, _, rfl, iteT ⟨rfl, go _ rfl⟩⟩
      | [x], _, hS, go =>
        refine ⟨_, rfl, l, _, rfl, .inl hS, rfl, _, rfl, iteF ?_⟩
        refine ⟨_, rfl, l, _, rfl, .inl hS, rfl, _, rfl, iteT ⟨rfl, ?_⟩⟩
        exact ⟨_, rfl, l, _, _, _, rfl, rfl, hS, rfl, go _ rfl⟩
      | [x, y], _, hS, go =>
        refine ⟨_, rfl, l, _, rfl, .inl hS, rfl, _, rfl, iteF ?_⟩
        refine ⟨_, rfl, l, _, rfl, .inl hS, rfl, _, rfl, iteF ?_⟩
        refine ⟨_, rfl, l, _, rfl, .inl hS, rfl, _, rfl, iteT ⟨rfl, ?_⟩⟩
        exact ⟨_, rfl, l, _, _, _, rfl, rfl, hS, rfl, _, rfl, l, _, _, _, rfl, rfl, hS, rfl, go _ rfl⟩
      | [x, y, z], _, hS, go =>
        refine ⟨_, rfl, l, _, rfl, .inl hS, rfl, _, rfl, iteF ?_⟩
        refine ⟨_, rfl, l, _, rfl, .inl hS, rfl, _, rfl, iteF ?_⟩
        refine ⟨_, rfl, l, _, rfl, .inl hS, rfl, _, rfl, iteF ?_⟩
        refine ⟨_, rfl, l, _, rfl, .inl hS, rfl, _, rfl, iteT ⟨rfl, ?_⟩⟩
        exact ⟨_, rfl, l, _, _, _, rfl, rfl, hS, rfl, _, rfl, l, _, _, _, rfl, rfl, hS, rfl, _, rfl, l, _, _, _, rfl, rfl, hS, rfl, go _ rfl⟩
      | [x, y, z, t], _, hS, go =>
        refine ⟨_, rfl, l, _, rfl, .inl hS, rfl, _, rfl, iteF ?_⟩
        refine ⟨_, rfl, l, _, rfl, .inl hS, rfl, _, rfl, iteF ?_⟩
        refine ⟨_, rfl, l, _, rfl, .inl hS, rfl, _, rfl, iteF ?_⟩
        refine ⟨_, rfl, l, _, rfl, .inl hS, rfl, _, rfl, iteF ⟨rfl, ?_⟩⟩
        exact ⟨_, rfl, l, _, _, _, rfl, rfl, hS, rfl, _, rfl, l, _, _, _, rfl, rfl, hS, rfl, _, rfl, l, _, _, _, rfl, rfl, hS, rfl, _, rfl, l, _, _, _, rfl, rfl, hS, rfl, go _ rfl⟩
      | _ :: _ :: _ :: _ :: _ :: _, h, _, _ => simp at h

--CUT
theorem filt_yes {p : Int → Bool} {z : Int} (h : p z = true) : [z].filter p = [z] := by rw [List.filter_cons_of_pos h, List.filter_nil]
theorem filt_no {p : Int → Bool} {z : Int} (h : ¬ p z = true) : [z].filter p = [] := by rw [List.filter_cons_of_neg h, List.filter_nil]
theorem eqv_nil (ns : List Int) : PyData.eqv (.list (ns.map PyData.int)) (.list []) = decide (ns = []) := by
  cases ns <;> simp [PyData.eqv, PyData.eqvAll]
theorem gcdL_dvd {l : List Int} {z : Int} (h : z ∈ l) : ((NM.gcdL l : Nat) : Int) ∣ z := by
  suffices ∀ (l : List Int) (a : Nat), (l.foldl (fun g n => Nat.gcd g n.natAbs) a ∣ a) ∧ (∀ z ∈ l, l.foldl (fun g n => Nat.gcd g n.natAbs) a ∣ z.natAbs) from
    Int.dvd_natAbs.mp (Int.natCast_dvd_natCast.mpr ((this l 0).2 z h))
  intro l
  induction l with
  | nil => exact fun a => ⟨Nat.dvd_refl a, fun z h => nomatch h⟩
  | cons y l ih =>
    intro a
    have q := ih (Nat.gcd a y.natAbs)
    refine ⟨Nat.dvd_trans q.1 (Nat.gcd_dvd_left a y.natAbs), fun z hz => ?_⟩
    rcases List.mem_cons.mp hz with e | e
    · rw [e]; exact Nat.dvd_trans q.1 (Nat.gcd_dvd_right a y.natAbs)
    · exact q.2 z e
theorem dvd_gcdL {l : List Int} {k : Nat} (h : ∀ z ∈ l, (k : Int) ∣ z) : k ∣ NM.gcdL l := by
  suffices ∀ (l : List Int) (a : Nat), k ∣ a → (∀ z ∈ l, (k : Int) ∣ z) → k ∣ l.foldl (fun g n => Nat.gcd g n.natAbs) a from this l 0 (Nat.dvd_zero k) h
  intro l
  induction l with
  | nil => exact fun a ha _ => ha
  | cons z l ih =>
    intro a ha h
    exact ih _ (Nat.dvd_gcd ha (Int.natAbs_natCast k ▸ Int.natAbs_dvd_natAbs.mpr (h z List.mem_cons_self))) fun w hw => h w (List.mem_cons_of_mem _ hw)
/-- what trying the numbers up to i has found -/
def Best (ns : List Int) (i : Nat) (f : Int) : Prop := (ns.filter (fun z => z != 0) = [] ∧ f = 0) ∨ (ns.filter (fun z => z != 0) ≠ [] ∧ 0 ≤ f ∧ f ≤ i ∧ (∀ k : Nat, 1 ≤ k → k ≤ i → (∀ z ∈ ns, (k : Int) ∣ z) → (k : Int) ≤ f) ∧ (f = 0 ∨ ∀ z ∈ ns, f ∣ z))
theorem Best.start (ns : List Int) : Best ns 0 0 := by
  by_cases h : ns.filter (fun z => z != 0) = []
  · exact .inl ⟨h, rfl⟩
  · exact .inr ⟨h, Int.le_refl _, Int.le_refl _, fun k h1 h2 _ => by omega, .inl rfl⟩
theorem Best.zero {ns : List Int} {i : Nat} {f : Int} (h : Best ns i f) (e : ns.filter (fun z => z != 0) = []) : Best ns (i + 1) f := by
  rcases h with h | h
  · exact .inl h
  · exact absurd e h.1
theorem Best.yes {ns : List Int} {i : Nat} {f : Int} (h : Best ns i f) (e : ns.filter (fun z => z != 0) ≠ []) (d : ∀ z ∈ ns, (1 + (i : Int)) ∣ z) : Best ns (i + 1) (1 + (i : Int)) :=
  .inr ⟨e, by omega, by omega, fun k h1 h2 _ => by omega, .inr d⟩
theorem Best.no {ns : List Int} {i : Nat} {f : Int} (h : Best ns i f) (e : ns.filter (fun z => z != 0) ≠ []) (d : ¬ ∀ z ∈ ns, (1 + (i : Int)) ∣ z) : Best ns (i + 1) f := by
  rcases h with h | ⟨_, f0, f1, fm, fd⟩
  · exact absurd h.1 e
  · refine .inr ⟨e, f0, by omega, fun k h1 h2 h3 => ?_, fd⟩
    rcases Nat.lt_succ_iff_lt_or_eq.mp (Nat.lt_succ_of_le h2) with q | q
    · exact fm k h1 (by omega) h3
    · exact absurd (fun z hz => by have := h3 z hz; rw [q] at this; have e2 : ((i + 1 : Nat) : Int) = 1 + (i : Int) := by omega
                                   rwa [e2] at this) d
theorem Best.fin {ns : List Int} {f : Int} (hs : ∀ z ∈ ns, z.natAbs ≤ 40) (h : Best ns 40 f) : f = ((NM.gcdL ns : Nat) : Int) := by
  rcases h with ⟨h, rfl⟩ | ⟨h, f0, f1, fm, fd⟩
  · have hz : ∀ z ∈ ns, z = 0 := fun z hz => by
      have := List.filter_eq_nil_iff.mp h z hz
      simpa using this
    have q : (0 : Nat) ∣ NM.gcdL ns := dvd_gcdL fun z hz' => by rw [hz z hz']; exact Int.dvd_refl 0
    rw [Nat.zero_dvd.mp q]; rfl
  · obtain ⟨z, hz⟩ := List.exists_mem_of_ne_nil _ h
    obtain ⟨z1, z2⟩ := List.mem_filter.mp hz
    have zn : z ≠ 0 := by simpa using z2
    have gd := gcdL_dvd z1
    have gz : 0 < NM.gcdL ns := by
      rcases Nat.eq_zero_or_pos (NM.gcdL ns) with e | e
      · rw [e] at gd
        exact absurd (Int.zero_dvd.mp gd) zn
      · exact e
    have gl : NM.gcdL ns ≤ 40 := by
      have := Nat.le_of_dvd (by omega) (Int.natAbs_natCast (NM.gcdL ns) ▸ Int.natAbs_dvd_natAbs.mpr gd)
      have := hs z z1
      omega
    have le := fm (NM.gcdL ns) gz gl fun y hy => gcdL_dvd hy
    have hd := fd.resolve_left (by omega)
    obtain ⟨n, rfl⟩ := Int.eq_ofNat_of_zero_le f0
    have := Nat.le_of_dvd gz (dvd_gcdL (k := n) hd)
    omega
theorem SqL.same' {K : PySem.W.Frag} {H H' : Hp} {a : Addr} {xs : List V} (h : SqL K H a xs) (s : Same H H') : SqL K H' a xs := by
  rcases h with (h | ⟨o, h⟩) | h
  · exact .inl (.inl (s _ _ h))
  · exact .inl (.inr ⟨o, s _ _ h⟩)
  · exact .inr h
def spByCommon (K : PySem.W.Frag) : Sp := fun vs H Q _ => ∃ (l : Addr) (ns : List Int), vs = [.ref l] ∧ SqL K H l (ns.map V.int) ∧ ns.length ≤ 4 ∧ (∀ z ∈ ns, z.natAbs ≤ 40) ∧ ∀ H', Same H H' → Q (.int (NM.gcdL ns)) H'
theorem ok_by_common (T : Txt K mg) : FnOk P w K mg base CX0 1 T.a_by_common T.fd_by_common ["_law_some"] (spByCommon K) := by
  refine T.F_by_common.ok sc_by_common (fun vs H Q E h => ?_) (fun cdv A outer s H vs Q E hr h => ?_)
  · obtain ⟨l, ns, rfl, _⟩ := h; rfl
  · obtain ⟨l, ns, rfl, hS, h4, hs, k⟩ := h
    refine ⟨_, pss_cons (ps_set (i := 1) sc_by_common.nd rfl (Or.inl rfl) (pe_int))
      (pss_cons (ps_for PassesOwn.never rfl (pi_range2 (by rfl) T.n_range (pa_cons (pe_int) (pa_cons (pe_int) (pa_nil)))) (pg_name (i := 2) sc_by_common.nd rfl (Or.inr rfl)) (pss_one (ps_if (PW.pt (pw_and (pt_cmpR (op_neD hr.units) (pe_lc (own := [("_law_one", 3)]) (g := gName 3) rfl sc_by_common.nd (pi_list (pv 0)) (blkOk_by (own := [("_law_one", 3)]) (N := ["_law_some", "_law_found", "_law_number", "_law_one"]) (sc := defScope s_by_common) (by decide +kernel)) (fun _ _ _ _ _ => pg_name (i := 3) sc_by_common.nd rfl (Or.inl rfl)) (fun _ _ _ _ _ => pts_one (pt_cmpR op_ne (pv 3) (pe_int) (nomark _))) (fun _ _ _ _ _ => pv 3)) (pe_lst (pa_nil)) (nomark _)) (pw_and1 (pt_cmpR (op_eqD hr.units) (pe_lc (own := [("_law_one", 3)]) (g := gName 3) rfl sc_by_common.nd (pi_list (pv 0)) (blkOk_by (own := [("_law_one", 3)]) (N := ["_law_some", "_law_found", "_law_number", "_law_one"]) (sc := defScope s_by_common) (by decide +kernel)) (fun _ _ _ _ _ => pg_name (i := 3) sc_by_common.nd rfl (Or.inl rfl)) (fun _ _ _ _ _ => pts_one (pt_cmpR op_ne (pe_op op_modN (pe_callTy call_int1 (by rfl) T.n_int (by decide +kernel) (pa_cons (pv 3) (pa_nil))) (pv 2)) (pe_int) (nomark _))) (fun _ _ _ _ _ => pv 3)) (pe_lst (pa_nil)) (nomark _))))) (pss_one (ps_set (i := 1) sc_by_common.nd rfl (Or.inl rfl) (pv 2))) (pss_nil))))
      (pss_one (ps_ret (pv 1)))), ?_⟩
    refine ⟨1, 41, rfl, ⟨by decide, by decide, by decide, by decide⟩, for_range (lo := 1) (n := 40) (fun i σ H' => Same H H' ∧ ∃ (f : Int) (x2 x3 : Option V), σ = [some (.ref l), some (.int f), x2, x3] ∧ Best ns i f) ⟨Same.refl _, 0, _, _, rfl, Best.start ns⟩ ?_ ?_⟩
    · rintro t σ H1 ht ⟨s1, f, x2, x3, rfl, hB⟩
      refine ⟨_, rfl, l, rfl, ⟨_, SqL.same' hS s1⟩, fun L1 hL1 => lc_list (K := K) (a := l) (xs := ns.map V.int) (fun i H' => H' = upd H1 L1 (.lst (((ns.take i).filter (fun z : Int => z != 0)).map V.int))) rfl (fun i H' _ e => e ▸ SqL.same' (SqL.same' hS s1) (same_new hL1)) ?_ ?_⟩
      · rintro i y H' hi rfl
        obtain ⟨z, hz, rfl⟩ := map_get hi
        refine ⟨rfl, ?_⟩
        refine ⟨_, rfl, rfl, _, rfl, ?_⟩
        have tk : (ns.take (i + 1)).filter (fun z : Int => z != 0) = (ns.take i).filter (fun z : Int => z != 0) ++ [z].filter (fun z : Int => z != 0) := by rw [NM.take_snoc hz, List.filter_append]
        refine ite2 (fun hb => ?_) (fun hb => ?_)
        · have hb' : (fun z : Int => z != 0) z = true := by simpa using hb
          refine ⟨_, rfl, _, upd_same, ?_, ?_⟩
          · rw [List.length_map]
            refine Nat.lt_of_le_of_lt (Nat.le_trans (List.length_filter_le _ _) (List.length_take_le _ _)) (Nat.lt_of_le_of_lt (show i ≤ 4 by have := (List.getElem?_eq_some_iff.mp hz).1; omega) (by decide))
          · rw [upd_upd, tk, List.map_append]
            simp [hb']
        · have hb' : ¬ (fun z : Int => z != 0) z = true := by simpa using hb
          show upd _ _ _ = upd _ _ _
          rw [tk]
          simp [hb']
      · intro H2 e2
        rw [List.length_map, List.take_length] at e2
        have s2 : Same H1 H2 := e2 ▸ same_new hL1
        have g2 : H2 L1 = some (.lst ((ns.filter (fun z : Int => z != 0)).map V.int)) := by rw [e2, upd_same]
        clear e2
        have hF1 : ns.filter (fun z : Int => z != 0) = [] ↔ ns.filter (fun z : Int => z != 0) = [] := Iff.rfl
        generalize hF : ns.filter (fun z : Int => z != 0) = F1 at g2
        rw [hF] at hF1
        refine ⟨Nat.zero_le _, fun l0 hl0 => ?_⟩
        have s3' := same_new (o := .lst []) hl0
        refine ⟨.list (F1.map PyData.int), .list [], .lst (SqL.of (s3' _ _ g2)) (dp_ints F1), .lst (SqL.of upd_same) .nil, PySem.W.ke_shaped_ints F1, by decide +kernel, _, rfl, ?_⟩
        rw [eqv_nil]
        have s3 := (s1.trans s2).trans s3'
        generalize upd H2 l0 (.lst []) = H3 at s3 s3' ⊢
        by_cases hz1 : F1 = []
        · refine if_false_of (by rw [decide_eq_true hz1]; rfl) ?_
          refine if_false_of rfl ?_
          exact ⟨s3, f, _, _, rfl, hB.zero (hF.trans hz1)⟩
        · refine if_true_of (by rw [decide_eq_false hz1]; rfl) ?_
          have hF1 : ns.filter (fun z : Int => z != 0) = [] → F1 = [] := fun z => hF ▸ z
          refine ⟨_, rfl, l, rfl, ⟨_, SqL.same' hS s3⟩, fun L2 hL2 => lc_list (K := K) (a := l) (xs := ns.map V.int) (fun i H' => H' = upd H3 L2 (.lst (((ns.take i).filter (fun z : Int => !decide (z.fmod (1 + (t : Int)) = 0))).map V.int))) rfl (fun i H' _ e => e ▸ SqL.same' (SqL.same' hS s3) (same_new hL2)) ?_ ?_⟩
          · rintro i y H' hi rfl
            obtain ⟨z, hz, rfl⟩ := map_get hi
            refine ⟨rfl, ?_⟩
            refine ⟨_, rfl, .inl ⟨_, rfl, _, rfl, _, _, rfl, rfl, (by show (1 + (t : Int)) ≠ 0; omega), rfl, _, rfl, ?_⟩⟩
            have tk : (ns.take (i + 1)).filter (fun z : Int => !decide (z.fmod (1 + (t : Int)) = 0)) = (ns.take i).filter (fun z : Int => !decide (z.fmod (1 + (t : Int)) = 0)) ++ [z].filter (fun z : Int => !decide (z.fmod (1 + (t : Int)) = 0)) := by rw [NM.take_snoc hz, List.filter_append]
            refine ite2 (fun hb => ?_) (fun hb => ?_)
            · have hb' : (fun z : Int => !decide (z.fmod (1 + (t : Int)) = 0)) z = true := by simpa using hb
              refine ⟨_, rfl, _, upd_same, ?_, ?_⟩
              · rw [List.length_map]
                refine Nat.lt_of_le_of_lt (Nat.le_trans (List.length_filter_le _ _) (List.length_take_le _ _)) (Nat.lt_of_le_of_lt (show i ≤ 4 by have := (List.getElem?_eq_some_iff.mp hz).1; omega) (by decide))
              · rw [upd_upd, tk, List.map_append, filt_yes (p := (fun z : Int => !decide (z.fmod (1 + (t : Int)) = 0))) hb']
                rfl
            · have hb' : ¬ (fun z : Int => !decide (z.fmod (1 + (t : Int)) = 0)) z = true := by simpa using hb
              show upd _ _ _ = upd _ _ _
              rw [tk, filt_no (p := (fun z : Int => !decide (z.fmod (1 + (t : Int)) = 0))) hb', List.append_nil]
          · intro H4 e4
            rw [List.length_map, List.take_length] at e4
            have s4 : Same H3 H4 := e4 ▸ same_new hL2
            have g4 : H4 L2 = some (.lst ((ns.filter (fun z : Int => !decide (z.fmod (1 + (t : Int)) = 0))).map V.int)) := by rw [e4, upd_same]
            have hF2 : ns.filter (fun z : Int => !decide (z.fmod (1 + (t : Int)) = 0)) = [] ↔ ∀ z ∈ ns, (1 + (t : Int)) ∣ z := by
              rw [List.filter_eq_nil_iff]
              constructor
              · intro h z hz
                have := h z hz
                simp only [Bool.not_eq_true, Bool.not_eq_false', decide_eq_true_eq] at this
                rw [Int.fmod_eq_emod_of_nonneg _ (by omega)] at this
                exact Int.dvd_of_emod_eq_zero this
              · intro h z hz
                simp only [Bool.not_eq_true, Bool.not_eq_false', decide_eq_true_eq]
                rw [Int.fmod_eq_emod_of_nonneg _ (by omega)]
                exact Int.emod_eq_zero_of_dvd (h z hz)
            clear e4
            generalize ns.filter (fun z : Int => !decide (z.fmod (1 + (t : Int)) = 0)) = F2 at g4 hF2
            refine ⟨Nat.zero_le _, fun l1 hl1 => ?_⟩
            have s5 := same_new (o := .lst []) hl1
            refine ⟨.list (F2.map PyData.int), .list [], .lst (SqL.of (s5 _ _ g4)) (dp_ints F2), .lst (SqL.of upd_same) .nil, PySem.W.ke_shaped_ints F2, by decide +kernel, _, rfl, ?_⟩
            rw [eqv_nil]
            have sAll := ((s3.trans s4).trans s5)
            by_cases hz2 : F2 = []
            · refine if_true_of (decide_eq_true hz2) ?_
              exact ⟨_, rfl, sAll, _, _, _, rfl, hB.yes (fun z => hz1 (hF1 z)) (hF2.mp hz2)⟩
            · refine if_false_of (decide_eq_false hz2) ?_
              exact ⟨sAll, f, _, _, rfl, hB.no (fun z => hz1 (hF1 z)) (fun z => hz2 (hF2.mpr z))⟩
    · rintro σ H1 ⟨s1, f, x2, x3, rfl, hB⟩
      rw [hB.fin hs]
      exact ⟨_, rfl, k _ s1⟩

--CUT
theorem lcmL_le {l : List Int} (h : ∀ z ∈ l, 0 < z) {m : Int} (hm : 0 < m) (d : ∀ z ∈ l, z ∣ m) : ((NM.lcmL l : Nat) : Int) ≤ m := Int.le_of_dvd hm (NM.lcmL_dvd d)
def spByMultiple (K : PySem.W.Frag) : Sp := fun vs H Q _ => ∃ (l : Addr) (ns : List Int), vs = [.ref l] ∧ SqL K H l (ns.map V.int) ∧ ns.length ≤ 4 ∧ (∀ z ∈ ns, 0 < z ∧ z ≤ 12) ∧ ∀ H', Same H H' → Q (.int (NM.lcmL ns)) H'
theorem ok_by_multiple (T : Txt K mg) : FnOk P w K mg base CX0 1 T.a_by_multiple T.fd_by_multiple ["_law_some"] (spByMultiple K) := by
  refine T.F_by_multiple.ok sc_by_multiple (fun vs H Q E h => ?_) (fun cdv A outer s H vs Q E hr h => ?_)
  · obtain ⟨l, ns, rfl, _⟩ := h; rfl
  · obtain ⟨l, ns, rfl, hS, h4, hs, k⟩ := h
    have hLp : 0 < NM.lcmL ns := NM.lcmL_pos fun z hz => (hs z hz).1
    have hLd : ∀ z ∈ ns, z ∣ ((NM.lcmL ns : Nat) : Int) := fun z hz => NM.dvd_lcmL hz
    refine ⟨_, pss_cons (ps_set (i := 1) sc_by_multiple.nd rfl (Or.inr rfl) (pe_int))
      (pss_cons (ps_while PassesOwn.never (pt_cmpR (op_neD hr.units) (pe_lc (own := [("_law_one", 2)]) (g := gName 2) rfl sc_by_multiple.nd (pi_list (pv 0)) (blkOk_by (own := [("_law_one", 2)]) (N := ["_law_some", "_law_found", "_law_one"]) (sc := defScope s_by_multiple) (by decide +kernel)) (fun _ _ _ _ _ => pg_name (i := 2) sc_by_multiple.nd rfl (Or.inl rfl)) (fun _ _ _ _ _ => pts_one (pt_cmpR op_ne (pe_op op_modN (pe_callTy call_int1 (by rfl) T.n_int (by decide +kernel) (pa_cons (pv 1) (pa_nil))) (pv 2)) (pe_int) (nomark _))) (fun _ _ _ _ _ => pv 2)) (pe_lst (pa_nil)) (nomark _)) (pss_one (ps_set (i := 1) sc_by_multiple.nd rfl (Or.inr rfl) (pe_op op_add (pv 1) (pe_ifExp (pt_cmpR op_eq (pe_op op_modN (pe_callTy call_int1 (by rfl) T.n_int (by decide +kernel) (pa_cons (pv 1) (pa_nil))) (pe_ix ix_list (pv 0) (pe_int) (fun _ _ => rfl))) (pe_int) (nomark _)) (pe_ix ix_list (pv 0) (pe_int) (fun _ _ => rfl)) (pe_int))))))
      (pss_one (ps_ret (pv 1)))), ?_⟩
    refine ⟨fun m σ H' => Same H H' ∧ ∃ (f : Int) (x : Option V), σ = [some (.ref l), some (.int f), x] ∧ 1 ≤ f ∧ f ≤ ((NM.lcmL ns : Nat) : Int) ∧ (∀ y : Int, 1 ≤ y → y < f → ¬ ∀ z ∈ ns, z ∣ y) ∧ m = (((NM.lcmL ns : Nat) : Int) - f).toNat,
      ⟨_, Same.refl _, 1, _, rfl, Int.le_refl _, by omega, fun y h1 h2 => by omega, rfl⟩, ?_⟩
    rintro m σ H1 ⟨s1, f, x, rfl, f1, f2, fm, em⟩
    refine ⟨_, rfl, l, rfl, ⟨_, SqL.same' hS s1⟩, fun L1 hL1 => lc_list (K := K) (a := l) (xs := ns.map V.int) (fun i H' => H' = upd H1 L1 (.lst (((ns.take i).filter (fun z : Int => !decide (f.fmod z = 0))).map V.int))) rfl (fun i H' _ e => e ▸ SqL.same' (SqL.same' hS s1) (same_new hL1)) ?_ ?_⟩
    · rintro i y H' hi rfl
      obtain ⟨z, hz, rfl⟩ := map_get hi
      have hz0 := hs z (List.mem_of_getElem? hz)
      refine ⟨rfl, ?_⟩
      refine ⟨_, rfl, .inl ⟨_, rfl, _, rfl, _, _, rfl, rfl, (by show z ≠ 0; omega), rfl, _, rfl, ?_⟩⟩
      have tk : (ns.take (i + 1)).filter (fun z : Int => !decide (f.fmod z = 0)) = (ns.take i).filter (fun z : Int => !decide (f.fmod z = 0)) ++ [z].filter (fun z : Int => !decide (f.fmod z = 0)) := by rw [NM.take_snoc hz, List.filter_append]
      refine ite2 (fun hb => ?_) (fun hb => ?_)
      · have hb' : (fun z : Int => !decide (f.fmod z = 0)) z = true := by simpa using hb
        refine ⟨_, rfl, _, upd_same, ?_, ?_⟩
        · rw [List.length_map]
          refine Nat.lt_of_le_of_lt (Nat.le_trans (List.length_filter_le _ _) (List.length_take_le _ _)) (Nat.lt_of_le_of_lt (show i ≤ 4 by have := (List.getElem?_eq_some_iff.mp hz).1; omega) (by decide))
        · rw [upd_upd, tk, List.map_append, filt_yes (p := (fun z : Int => !decide (f.fmod z = 0))) hb']
          rfl
      · have hb' : ¬ (fun z : Int => !decide (f.fmod z = 0)) z = true := by simpa using hb
        show upd _ _ _ = upd _ _ _
        rw [tk, filt_no (p := (fun z : Int => !decide (f.fmod z = 0))) hb', List.append_nil]
    · intro H2 e2
      rw [List.length_map, List.take_length] at e2
      have s2 : Same H1 H2 := e2 ▸ same_new hL1
      have g2 : H2 L1 = some (.lst ((ns.filter (fun z : Int => !decide (f.fmod z = 0))).map V.int)) := by rw [e2, upd_same]
      have hF : ns.filter (fun z : Int => !decide (f.fmod z = 0)) = [] ↔ ∀ z ∈ ns, z ∣ f := by
        rw [List.filter_eq_nil_iff]
        constructor
        · intro h z hz
          have h1 := h z hz
          have h2 := hs z hz
          simp only [Bool.not_eq_true, Bool.not_eq_false', decide_eq_true_eq] at h1
          rw [Int.fmod_eq_emod_of_nonneg _ (by omega)] at h1
          exact Int.dvd_of_emod_eq_zero h1
        · intro h z hz
          have h2 := hs z hz
          simp only [Bool.not_eq_true, Bool.not_eq_false', decide_eq_true_eq]
          rw [Int.fmod_eq_emod_of_nonneg _ (by omega)]
          exact Int.emod_eq_zero_of_dvd (h z hz)
      clear e2
      generalize ns.filter (fun z : Int => !decide (f.fmod z = 0)) = F2 at g2 hF
      refine ⟨Nat.zero_le _, fun l1 hl1 => ?_⟩
      have s3 := same_new (o := .lst []) hl1
      refine ⟨.list (F2.map PyData.int), .list [], .lst (SqL.of (s3 _ _ g2)) (dp_ints F2), .lst (SqL.of upd_same) .nil, PySem.W.ke_shaped_ints F2, by decide +kernel, _, rfl, ?_⟩
      rw [eqv_nil]
      have sA := (s1.trans s2).trans s3
      generalize upd H2 l1 (.lst []) = H3 at sA s3 ⊢
      by_cases hz : F2 = []
      · refine if_false_of (by rw [decide_eq_true hz]; rfl) ?_
        have hd := hF.mp hz
        have e : f = ((NM.lcmL ns : Nat) : Int) := by
          have := lcmL_le (fun z hz => (hs z hz).1) (show 0 < f by omega) hd
          omega
        rw [e]
        exact ⟨_, rfl, k _ sA⟩
      · refine if_true_of (by rw [decide_eq_false hz]; rfl) ?_
        have hnd : ¬ ∀ z ∈ ns, z ∣ f := fun h => hz (hF.mpr h)
        have hlt : f < ((NM.lcmL ns : Nat) : Int) := by
          rcases Int.lt_or_eq_of_le f2 with q | q
          · exact q
          · exact absurd (q ▸ hLd) hnd
        match ns, hs, hS, hnd, fm, hlt, hLd, em with
        | [], _, _, hnd, _, _, _, _ => exact absurd (fun z hz => nomatch hz) hnd
        | z0 :: rest, hs, hS, hnd, fm, hlt, hLd, em =>
          have hz0 := hs z0 List.mem_cons_self
          have hS3 := SqL.same' hS sA
          refine ⟨fun σ' H' => ∃ m', m' < m ∧ _, fun _ _ h => h, ?_⟩
          have hi0 : atI ((z0 :: rest).map V.int) 0 = some (V.int z0) := atI_nat (j := 0) rfl
          refine ⟨_, rfl, _, rfl, .inl ⟨_, rfl, _, rfl, l, _, _, _, rfl, rfl, hS3, hi0, _, _, rfl, rfl, (by show z0 ≠ 0; omega), rfl, _, rfl, ?_⟩⟩
          by_cases hd : z0 ∣ f
          · refine if_true_of (by
              show decide (V.int (f.fmod z0) = V.int 0) = true
              rw [Int.fmod_eq_emod_of_nonneg _ (by omega), Int.emod_eq_zero_of_dvd hd]; rfl) ?_
            have hle : f + z0 ≤ ((NM.lcmL (z0 :: rest) : Nat) : Int) := by
              obtain ⟨a, ha⟩ := hLd z0 List.mem_cons_self
              obtain ⟨b, hb⟩ := hd
              have : b < a := by
                apply Int.lt_of_mul_lt_mul_left (a := z0) _ (by omega)
                rw [← ha, ← hb]; exact hlt
              have h2 : z0 * (b + 1) ≤ z0 * a := Int.mul_le_mul_of_nonneg_left (by omega) (by omega)
              rw [Int.mul_add, Int.mul_one, ← hb, ← ha] at h2
              exact h2
            refine ⟨_, rfl, l, _, _, _, rfl, rfl, hS3, hi0, _, _, rfl, rfl, _, ?_, sA, f + z0, _, rfl, by omega, hle, fun y h1 h2 => ?_, rfl⟩
            · omega
            · rcases Int.lt_trichotomy y f with q | q | q
              · exact fm y h1 q
              · rw [q]; exact hnd
              · intro h
                have q2 := Int.dvd_sub (h z0 List.mem_cons_self) hd
                have := Int.le_of_dvd (by omega) q2
                omega
          · refine if_false_of (by
              show decide (V.int (f.fmod z0) = V.int 0) = false
              refine decide_eq_false fun z => hd ?_
              injection z with z
              rw [Int.fmod_eq_emod_of_nonneg _ (by omega)] at z
              exact Int.dvd_of_emod_eq_zero z) ?_
            refine ⟨_, _, rfl, rfl, _, ?_, sA, f + 1, _, rfl, by omega, by omega, fun y h1 h2 => ?_, rfl⟩
            · omega
            · rcases Int.lt_or_eq_of_le (show y ≤ f by omega) with q | q
              · exact fm y h1 q
              · rw [q]; exact hnd

--CUT
def spByApart : Sp := fun vs H Q _ => ∃ (d q : Int), vs = [.int d, .int q] ∧ 0 < q ∧ q ≤ 30 ∧ -2 * q ≤ d ∧ d < 2 * q ∧ ∀ H', Same H H' → Q (.int (NM.apartI d q)) H'
theorem ok_by_apart (T : Txt K mg) : FnOk P w K mg base CX0 1 T.a_by_apart T.fd_by_apart ["_law_d", "_law_period"] spByApart := by
  refine T.F_by_apart.ok sc_by_apart (fun vs H Q E h => ?_) (fun cdv A outer s H vs Q E hr h => ?_)
  · obtain ⟨d, q, rfl, _⟩ := h; rfl
  · obtain ⟨d, q, rfl, q0, q30, d0, d1, k⟩ := h
    refine ⟨_, pss_one (ps_ret (pe_callB (cr_min rfl) (by rfl) T.n_min (by decide +kernel) (pa_cons (pe_lc (own := [("_law_far", 2)]) (g := gName 2) rfl sc_by_apart.nd (pi_range2 (by rfl) T.n_range (pa_cons (pe_op op_mul (pe_un un_neg (pe_int)) (pv 1)) (pa_cons (pe_op op_mul (pe_int) (pv 1)) (pa_nil)))) (blkOk_by (own := [("_law_far", 2)]) (N := ["_law_d", "_law_period", "_law_far"]) (sc := defScope s_by_apart) (by decide +kernel)) (fun _ _ _ _ _ => pg_name (i := 2) sc_by_apart.nd rfl (Or.inl rfl)) (fun _ _ _ _ _ => pts_one (pt_cmpR op_eq (pe_op op_modN (pe_callTy call_int1 (by rfl) T.n_int (by decide +kernel) (pa_cons (pv 2) (pa_nil))) (pv 1)) (pe_int) (nomark _))) (fun _ _ _ _ _ => pe_callB call_abs (by rfl) T.n_abs (by decide +kernel) (pa_cons (pe_callTy call_int1 (by rfl) T.n_int (by decide +kernel) (pa_cons (pe_op op_sub (pv 0) (pv 2)) (pa_nil))) (pa_nil)))) (pa_nil)))), ?_⟩
    refine ⟨3, rfl, _, rfl, -3, q, rfl, rfl, .inl ⟨by decide, by decide⟩, _, rfl, _, _, rfl, rfl, .inl ⟨by decide, by decide⟩, ?_⟩
    refine ⟨-3 * q, 4 * q, rfl, ⟨by omega, by omega, by omega, by omega⟩, fun L hL => lc_range (lo := -3 * q) (n := (4 * q - -3 * q).toNat)
      (fun t H' => ∃ ms : List Int, H' = upd H L (.lst (ms.map V.int)) ∧ ms.length ≤ t ∧ (∀ y ∈ ms, ∃ far : Int, q ∣ far ∧ y = if d - far < 0 then -(d - far) else d - far) ∧ ∀ far : Int, -3 * q ≤ far → far < -3 * q + t → q ∣ far → (if d - far < 0 then -(d - far) else d - far) ∈ ms)
      ⟨[], rfl, Nat.le_refl _, fun y h => (List.not_mem_nil h).elim, fun far h1 h2 => by omega⟩ ?_ ?_⟩
    · rintro t H' ht ⟨ms, rfl, hl, ha, hb⟩
      refine ⟨rfl, ?_⟩
      refine ⟨_, rfl, .inl ⟨_, rfl, _, rfl, _, _, rfl, rfl, (by show q ≠ 0; omega), rfl, _, rfl, ?_⟩⟩
      refine ite2 (fun hx => ?_) (fun hx => ?_)
      · have hq : q ∣ -3 * q + (t : Int) := by
          have h1 := of_decide_eq_true hx
          injection h1 with h1
          rw [Int.fmod_eq_emod_of_nonneg _ (by omega)] at h1
          exact Int.dvd_of_emod_eq_zero h1
        refine ⟨_, rfl, _, rfl, _, _, rfl, rfl, .inl ⟨_, rfl, _, rfl, ms.map V.int, upd_same, ?_, ms ++ [if d - (-3 * q + (t : Int)) < 0 then -(d - (-3 * q + (t : Int))) else d - (-3 * q + (t : Int))], ?_, ?_, ?_, ?_⟩⟩
        · rw [List.length_map]
          exact Nat.lt_of_le_of_lt (show ms.length ≤ 210 by omega) (by decide)
        · rw [upd_upd, List.map_append]
          rfl
        · rw [List.length_append, List.length_singleton]; omega
        · intro y hy
          rcases List.mem_append.mp hy with z | z
          · exact ha y z
          · exact ⟨_, hq, List.mem_singleton.mp z⟩
        · intro far h1 h2 h3
          by_cases e : far = -3 * q + (t : Int)
          · rw [e]; exact List.mem_append_right _ (List.mem_singleton.mpr rfl)
          · exact List.mem_append_left _ (hb far h1 (by omega) h3)
      · refine ⟨ms, rfl, by omega, ha, fun far h1 h2 h3 => ?_⟩
        by_cases e : far = -3 * q + (t : Int)
        · refine absurd (decide_eq_true ?_) hx
          show V.int ((-3 * q + (t : Int)).fmod q) = V.int 0
          rw [Int.fmod_eq_emod_of_nonneg _ (by omega), Int.emod_eq_zero_of_dvd (e ▸ h3)]
        · exact hb far h1 (by omega) h3
    · rintro H' ⟨ms, rfl, hl, ha, hb⟩
      have hh := NM.apart_half (d := d) q0
      have hn := NM.apart_nn (d := d) q0
      -- the least one is among them
      have mem : NM.apartI d q ∈ ms := by
        obtain ⟨c, hc⟩ := NM.apart_at (d := d) q0
        have hin : -3 * q ≤ q * c ∧ q * c < -3 * q + (((4 * q - -3 * q).toNat : Nat) : Int) := by omega
        have q2 := hb (q * c) hin.1 hin.2 (Int.dvd_mul_right q c)
        have e : (if d - q * c < 0 then -(d - q * c) else d - q * c) = NM.apartI d q := by
          split <;> omega
        rwa [e] at q2
      refine ⟨L, ms, rfl, SqL.of upd_same, List.length_pos_of_mem mem, fun m hm hle => ?_⟩
      obtain ⟨far, ⟨c, hc⟩, hy⟩ := ha m hm
      have le1 := hle _ mem
      have le2 := NM.apart_le (d := d) q0 c (d - far) (by omega)
      have e : m = NM.apartI d q := by
        split at hy <;> omega
      rw [e]
      exact k _ (same_new hL)

--CUT
theorem gcdL_mul (F : Int) (ns : List Int) : NM.gcdL (ns.map (F * ·)) = F.natAbs * NM.gcdL ns := by
  suffices ∀ (l : List Int) (a : Nat), (l.map (F * ·)).foldl (fun g n => Nat.gcd g n.natAbs) (F.natAbs * a) = F.natAbs * l.foldl (fun g n => Nat.gcd g n.natAbs) a from by
    have q := this ns 0
    rwa [Nat.mul_zero] at q
  intro l
  induction l with
  | nil => exact fun a => rfl
  | cons z l ih =>
    intro a
    rw [List.map_cons, List.foldl_cons, List.foldl_cons, Int.natAbs_mul, Nat.gcd_mul_left]
    exact ih _
theorem lcmL_mul (F : Int) {ns : List Int} (h : ns ≠ []) : NM.lcmL (ns.map (F * ·)) = F.natAbs * NM.lcmL ns := by
  have key : ∀ (l : List Int) (a : Nat), (l.map (F * ·)).foldl (fun g n => Nat.lcm g n.natAbs) (F.natAbs * a) = F.natAbs * l.foldl (fun g n => Nat.lcm g n.natAbs) a := by
    intro l
    induction l with
    | nil => exact fun a => rfl
    | cons z l ih =>
      intro a
      rw [List.map_cons, List.foldl_cons, List.foldl_cons, Int.natAbs_mul, Nat.lcm_mul_left]
      exact ih _
  cases ns with
  | nil => exact absurd rfl h
  | cons z l =>
    have q := key l z.natAbs
    show (l.map (F * ·)).foldl (fun g n => Nat.lcm g n.natAbs) (Nat.lcm 1 (F * z).natAbs) = F.natAbs * l.foldl (fun g n => Nat.lcm g n.natAbs) (Nat.lcm 1 z.natAbs)
    rw [Nat.lcm_one_left, Nat.lcm_one_left, Int.natAbs_mul]
    exact q
theorem Pen.app {H H' : Hp} {p cc L : Addr} {n : Nat} {o : HO} {ys : List V} (hP : Pen H' p n) (f : Fr p H H') (hp0 : H p = some (.lst (.ref cc :: ys))) (ncL : cc ≠ L) (nLp : L ≠ p) : Pen (upd H' L o) p n := by
  obtain ⟨c, ns, i0, g, q1, q2, q3⟩ := hP
  obtain ⟨ys', q4⟩ := f.head _ _ hp0
  rw [q1] at q4
  cases q4
  exact ⟨cc, ns, i0, g, by rw [upd_ne nLp.symm]; exact q1, by rw [upd_ne ncL]; exact q2, q3⟩
theorem Fr.app {H H' : Hp} {p L : Addr} {o : HO} (f : Fr p H H') (hL : H L = Option.none) (nLp : L ≠ p) : Fr p H (upd H' L o) := by
  refine ⟨fun a o' na e => ?_, fun v xs e => ?_⟩
  · rw [upd_ne (ne_of_none e hL)]
    exact f.keep a o' na e
  · rw [upd_ne nLp.symm]
    exact f.head v xs e
theorem int_ok {x : Int} (h : x.natAbs < 2 ^ 1900) : (PyData.int x).showable = true ∧ (PyData.int x).depth ≤ 60 ∧ ((∃ i, PyData.int x = .int i) ∨ (PyData.int x).shown.length ≤ sizeLine) := by
  refine ⟨decide_eq_true ?_, by simp [PyData.depth], .inl ⟨x, rfl⟩⟩
  by_cases z : x.natAbs = 0
  · rw [z]; decide
  · exact Nat.lt_of_lt_of_le ((Nat.log2_lt z).mpr h) (by decide)
theorem gcdL_le {ns : List Int} (hs : ∀ z ∈ ns, z.natAbs ≤ 40) : NM.gcdL ns ≤ 40 := by
  rcases Nat.eq_zero_or_pos (NM.gcdL ns) with e | e
  · omega
  · by_cases h : ∃ z ∈ ns, z ≠ 0
    · obtain ⟨z, hz, zn⟩ := h
      have gd := gcdL_dvd hz
      have := Nat.le_of_dvd (by omega) (Int.natAbs_natCast (NM.gcdL ns) ▸ Int.natAbs_dvd_natAbs.mpr gd)
      have := hs z hz
      omega
    · have q : (0 : Nat) ∣ NM.gcdL ns := dvd_gcdL fun z hz' => by
        have : z = 0 := Classical.byContradiction fun n => h ⟨z, hz', n⟩
        rw [this]; exact Int.dvd_refl 0
      rw [Nat.zero_dvd.mp q]; omega
def spNumbers : Sp := fun vs H Q _ => ∃ (p : Addr) (n : Nat), vs = [.ref p] ∧ Pen H p n ∧ n < 90000 ∧ ∀ H', Pen H' p (n + 20) → Fr p H H' → Q (.bl true) H'
theorem ok_numbers_right (T : Txt K mg) : FnG P w K mg base CX0 9 T.a_numbers_right spNumbers := by
  refine FnG.mk0 T.F_numbers_right sc_numbers_right (b_numbers_right T) (fun vs H Q E h => ?_) (fun cdv A outer s H vs Q E gu hr h => ?_)
  · obtain ⟨p, n, rfl, _⟩ := h; rfl
  · obtain ⟨p, n, rfl, hP, hn, k⟩ := h
    refine ⟨_, pss_cons (ps_setLc (i := 1) (own := [("_law_turn", 2)]) (g := gName 2) (tt := tYes) rfl sc_numbers_right.nd rfl rfl (sw_true rfl rfl rfl (by decide +kernel)) (pi_range1 (by rfl) T.n_range (pa_cons (pe_call (ok_draw T) (hr.mono (by decide)) rfl T.m_draw T.F_draw.kp (b_draw T) .nil pass0 (pa_cons (pv 0) (pa_cons (pe_int) (pa_nil)))) (pa_nil))) (blkOk_by (own := [("_law_turn", 2)]) (N := ["_law_pen_here", "_law_some", "_law_turn", "_law_factor", "_law_few", "_law_one"]) (sc := defScope s_numbers_right) (by decide +kernel)) (fun _ _ _ _ _ => pg_name (i := 2) sc_numbers_right.nd rfl (Or.inl rfl)) (fun _ _ _ _ _ => pts_nil) (fun _ _ _ _ _ => pe_op op_sub (pe_call (ok_draw T) (hr.mono (by decide)) rfl T.m_draw T.F_draw.kp (b_draw T) .nil pass0 (pa_cons (pv 0) (pa_cons (pe_int) (pa_nil)))) (pe_int)))
      (pss_cons (ps_asg (pe_tup (pa_cons (pe_op op_add (pe_op op_pow (pe_int) (pe_int)) (pe_call (ok_draw T) (hr.mono (by decide)) rfl T.m_draw T.F_draw.kp (b_draw T) .nil pass0 (pa_cons (pv 0) (pa_cons (pe_int) (pa_nil))))) (pa_cons (pe_lc (own := [("_law_turn", 2)]) (g := gName 2) (tt := tYes) rfl sc_numbers_right.nd (pi_range1 (by rfl) T.n_range (pa_cons (pe_call (ok_draw T) (hr.mono (by decide)) rfl T.m_draw T.F_draw.kp (b_draw T) .nil pass0 (pa_cons (pv 0) (pa_cons (pe_int) (pa_nil)))) (pa_nil))) (blkOk_by (own := [("_law_turn", 2)]) (N := ["_law_pen_here", "_law_some", "_law_turn", "_law_factor", "_law_few", "_law_one"]) (sc := defScope s_numbers_right) (by decide +kernel)) (fun _ _ _ _ _ => pg_name (i := 2) sc_numbers_right.nd rfl (Or.inl rfl)) (fun _ _ _ _ _ => pts_nil) (fun _ _ _ _ _ => pe_op op_add (pe_int) (pe_call (ok_draw T) (hr.mono (by decide)) rfl T.m_draw T.F_draw.kp (b_draw T) .nil pass0 (pa_cons (pv 0) (pa_cons (pe_int) (pa_nil)))))) (pa_nil)))) (pg_tup rfl (pgs_cons (pg_name (i := 3) sc_numbers_right.nd rfl (Or.inr rfl)) (pgs_cons (pg_name (i := 4) sc_numbers_right.nd rfl (Or.inl rfl)) (pgs_nil)))))
      (pss_cons (ps_if (pt_cmpR op_ne (pe_callB (call_rep gu hr.units) (by rfl) T.n_repr (by decide +kernel) (pa_cons (pe_call (ok_asked T) (hr.mono (by decide)) rfl T.m_asked T.F_asked.kp (b_asked T) .nil pass0 (pa_cons (pv 1) (pa_cons (pe_bl) (pa_nil)))) (pa_nil))) (pe_callB (call_rep gu hr.units) (by rfl) T.n_repr (by decide +kernel) (pa_cons (pe_call (ok_by_common T) (hr.mono (by decide)) rfl T.m_by_common T.F_by_common.kp (b_by_common T) .nil pass0 (pa_cons (pv 1) (pa_nil))) (pa_nil))) (nomark _)) (pss_one (ps_ret (pe_bl))) (pss_nil))
      (pss_cons (ps_if (pt_cmpR op_ne (pe_call (ok_asked T) (hr.mono (by decide)) rfl T.m_asked T.F_asked.kp (b_asked T) .nil pass0 (pa_cons (pe_lc (own := [("_law_one", 5)]) (g := gName 5) (tt := tYes) rfl sc_numbers_right.nd (pi_list (pv 1)) (blkOk_by (own := [("_law_one", 5)]) (N := ["_law_pen_here", "_law_some", "_law_turn", "_law_factor", "_law_few", "_law_one"]) (sc := defScope s_numbers_right) (by decide +kernel)) (fun _ _ _ _ _ => pg_name (i := 5) sc_numbers_right.nd rfl (Or.inl rfl)) (fun _ _ _ _ _ => pts_nil) (fun _ _ _ _ _ => pe_op op_mulW (pv 3) (pv 5))) (pa_cons (pe_bl) (pa_nil)))) (pe_op op_mulW (pv 3) (pe_call (ok_by_common T) (hr.mono (by decide)) rfl T.m_by_common T.F_by_common.kp (b_by_common T) .nil pass0 (pa_cons (pv 1) (pa_nil)))) (nomark _)) (pss_one (ps_ret (pe_bl))) (pss_nil))
      (pss_cons (ps_if (pt_cmpR op_ne (pe_callB (call_rep gu hr.units) (by rfl) T.n_repr (by decide +kernel) (pa_cons (pe_call (ok_asked T) (hr.mono (by decide)) rfl T.m_asked T.F_asked.kp (b_asked T) .nil pass0 (pa_cons (pv 4) (pa_cons (pe_bl) (pa_nil)))) (pa_nil))) (pe_callB (call_rep gu hr.units) (by rfl) T.n_repr (by decide +kernel) (pa_cons (pe_call (ok_by_multiple T) (hr.mono (by decide)) rfl T.m_by_multiple T.F_by_multiple.kp (b_by_multiple T) .nil pass0 (pa_cons (pv 4) (pa_nil))) (pa_nil))) (nomark _)) (pss_one (ps_ret (pe_bl))) (pss_nil))
      (pss_one (ps_ret (pe_or (pe_cmpR (op_eqD hr.units) (pv 4) (pe_lst (pa_nil)) (nomark _)) (pe_one (pe_cmpR op_eq (pe_call (ok_asked T) (hr.mono (by decide)) rfl T.m_asked T.F_asked.kp (b_asked T) .nil pass0 (pa_cons (pe_lc (own := [("_law_one", 5)]) (g := gName 5) (tt := tYes) rfl sc_numbers_right.nd (pi_list (pv 4)) (blkOk_by (own := [("_law_one", 5)]) (N := ["_law_pen_here", "_law_some", "_law_turn", "_law_factor", "_law_few", "_law_one"]) (sc := defScope s_numbers_right) (by decide +kernel)) (fun _ _ _ _ _ => pg_name (i := 5) sc_numbers_right.nd rfl (Or.inl rfl)) (fun _ _ _ _ _ => pts_nil) (fun _ _ _ _ _ => pe_op op_mulW (pv 3) (pv 5))) (pa_cons (pe_bl) (pa_nil)))) (pe_op op_mulW (pv 3) (pe_call (ok_by_multiple T) (hr.mono (by decide)) rfl T.m_by_multiple T.F_by_multiple.kp (b_by_multiple T) .nil pass0 (pa_cons (pv 4) (pa_nil)))) (nomark _)))))))))), ?_⟩
    -- the first numbers
    refine ⟨_, rfl, p, 5, n, rfl, by decide, by decide, hP, by omega, fun c H1 c0 c1 hP1 f1 => ?_⟩
    refine ⟨c, rfl, by omega, by omega, fun L hL => ?_⟩
    obtain ⟨cc, ns0, _, _, hp0, hc0, _⟩ := id hP1
    have ncL : cc ≠ L := ne_of_none hc0 hL
    have nLp : L ≠ p := hP1.neq hL
    refine lc_range (lo := 0) (n := c.toNat) (fun t H' => ∃ ms : List Int, H' L = some (.lst (ms.map V.int)) ∧ ms.length = t ∧ (∀ z ∈ ms, z.natAbs ≤ 40) ∧ Pen H' p (n + 1 + t) ∧ Fr p H1 H')
      ⟨[], upd_same, rfl, fun y h => (List.not_mem_nil h).elim, hP1.same (same_new hL), same_fr (same_new hL)⟩ ?_ ?_
    · rintro t H' ht ⟨ms, hL', hl, hm, hP', f'⟩
      refine ⟨rfl, ?_⟩
      conv => whnf
      refine ⟨_, rfl, p, 81, _, rfl, by decide, by decide, hP', by omega, fun r H2 r0 r1 hP2 f2 => ?_⟩
      refine ⟨_, _, rfl, rfl, ms.map V.int, f2 _ _ nLp hL', ?_, ms ++ [r - 40], ?_, ?_, ?_, ?_, ?_⟩
      · rw [List.length_map]; exact Nat.lt_of_le_of_lt (show ms.length ≤ 4 by omega) (by decide)
      · rw [upd_same, List.map_append]; rfl
      · rw [List.length_append, List.length_singleton, hl]
      · intro z hz
        rcases List.mem_append.mp hz with q | q
        · exact hm z q
        · rw [List.mem_singleton.mp q]; omega
      · exact (hP2.mono (by omega)).app (f'.trans f2) hp0 ncL nLp
      · exact (f'.trans f2).app hL nLp
    rintro H2 ⟨ms, hL2, hl, hm, hP2, f2⟩
    have hl4 : ms.length ≤ 4 := by omega
    have hP2 : Pen H2 p (n + 5) := hP2.mono (by omega)
    -- the factor and the few
    refine ⟨_, _, rfl, rfl, ⟨by decide, by decide, by decide⟩, ?_⟩
    refine ⟨_, rfl, p, 999, _, rfl, by decide, by decide, hP2, by omega, fun g H3 g0 g1 hP3 f3 => ?_⟩
    refine ⟨_, _, rfl, rfl, ?_⟩
    refine ⟨_, rfl, p, 4, _, rfl, by decide, by decide, hP3, by omega, fun c' H4 c0' c1' hP4 f4 => ?_⟩
    refine ⟨c', rfl, by omega, by omega, fun M hM => ?_⟩
    obtain ⟨cc', ns0', _, _, hp0', hc0', _⟩ := id hP4
    have ncM : cc' ≠ M := ne_of_none hc0' hM
    have nMp : M ≠ p := hP4.neq hM
    have hL4 := (f3.trans f4) _ _ nLp hL2
    refine lc_range (lo := 0) (n := c'.toNat) (fun t H' => ∃ fs : List Int, H' M = some (.lst (fs.map V.int)) ∧ fs.length = t ∧ (∀ z ∈ fs, 0 < z ∧ z ≤ 12) ∧ Pen H' p (n + 7 + t) ∧ Fr p H4 H')
      ⟨[], upd_same, rfl, fun y h => (List.not_mem_nil h).elim, hP4.same (same_new hM), same_fr (same_new hM)⟩ ?_ ?_
    · rintro t H' ht ⟨fs, hM', hlf, hmf, hP', f'⟩
      refine ⟨rfl, ?_⟩
      conv => whnf
      refine ⟨_, rfl, p, 12, _, rfl, by decide, by decide, hP', by omega, fun r H5 r0 r1 hP5 f5 => ?_⟩
      refine ⟨_, _, rfl, rfl, fs.map V.int, f5 _ _ nMp hM', ?_, fs ++ [1 + r], ?_, ?_, ?_, ?_, ?_⟩
      · rw [List.length_map]; exact Nat.lt_of_le_of_lt (show fs.length ≤ 4 by omega) (by decide)
      · rw [upd_same, List.map_append]; rfl
      · rw [List.length_append, List.length_singleton, hlf]
      · intro z hz
        rcases List.mem_append.mp hz with q | q
        · exact hmf z q
        · rw [List.mem_singleton.mp q]; omega
      · exact (hP5.mono (by omega)).app (f'.trans f5) hp0' ncM nMp
      · exact (f'.trans f5).app hM nMp
    rintro H5 ⟨fs, hM5, hlf, hmf, hP5, f5⟩
    have hlf4 : fs.length ≤ 4 := by omega
    have hL5 := f5 _ _ nLp hL4
    have hP5 : Pen H5 p (n + 20) := hP5.mono (by omega)
    have fAll : Fr p H H5 := (f1.trans f2).trans ((f3.trans f4).trans f5)
    refine ⟨(by show 2 ≤ sizeLine; decide), fun tp htp => ⟨_, _, rfl, SqT.of upd_same, rfl, _, _, rfl, _, _, rfl, rfl, ?_⟩⟩
    have s6 := same_new (o := .tup [V.int (10 ^ (29 : Int).toNat + g), V.ref M]) htp
    have hFb : ((10 : Int) ^ (29 : Int).toNat + g).natAbs < 2 ^ 200 := by
      have : ((10 : Int) ^ (29 : Int).toNat) = 100000000000000000000000000000 := by decide +kernel
      omega
    have hF0 : 0 < (10 : Int) ^ (29 : Int).toNat + g := by
      have : ((10 : Int) ^ (29 : Int).toNat) = 100000000000000000000000000000 := by decide +kernel
      omega
    have hP6 := hP5.same s6
    have f6 := fAll.trans (same_fr (p := p) s6)
    have hL6 := s6 _ _ hL5
    have hM6 := s6 _ _ hM5
    generalize upd H5 tp (.tup [V.int (10 ^ (29 : Int).toNat + g), V.ref M]) = H6 at s6 hP6 f6 hL6 hM6 ⊢
    obtain ⟨i1, i2, i3⟩ := int_ok (x := ((NM.gcdL ms : Nat) : Int)) (Nat.lt_of_le_of_lt (show ((NM.gcdL ms : Nat) : Int).natAbs ≤ 40 by have := gcdL_le hm; omega) (by decide))
    refine ⟨_, rfl, L, ms, true, rfl, SqL.of hL6, hl4, .inl ⟨rfl, fun H7 s7 => ?_⟩⟩
    refine ⟨_, .int _, rfl, .dp (.int _), i1, i2, i3, _, rfl, L, ms, rfl, SqL.of (s7 _ _ hL6), hl4, hm, fun H8 s8 => ?_⟩
    refine ⟨_, .int _, rfl, .dp (.int _), i1, i2, i3, rfl, _, rfl, if_false_of (by simp) ?_⟩
    have hL8 := s8 _ _ (s7 _ _ hL6)
    have hM8 := s8 _ _ (s7 _ _ hM6)
    have hP8 := (hP6.same s7).same s8
    have f8 := f6.trans (same_fr (p := p) (s7.trans s8))
    refine ⟨_, rfl, L, rfl, ⟨_, SqL.of hL8⟩, fun N1 hN1 => lc_list (K := K) (a := L) (xs := ms.map V.int) (fun i H' => H' = upd H8 N1 (.lst (((ms.take i).map (((10 : Int) ^ (29 : Int).toNat + g) * ·)).map V.int))) rfl (fun i H' _ e => e ▸ SqL.of ((same_new hN1) _ _ hL8)) ?_ ?_⟩
    · rintro i y H' hi rfl
      obtain ⟨z, hz, rfl⟩ := map_get hi
      refine ⟨rfl, ?_⟩
      conv => whnf
      refine ⟨_, rfl, _, rfl, _, _, rfl, rfl, wide_mul (a := 200) (b := 200) hFb (Nat.lt_of_le_of_lt (show z.natAbs ≤ 40 by have := hm z (List.mem_of_getElem? hz); omega) (by decide)) (by decide) (by decide) (by decide), _, upd_same, ?_, ?_⟩
      · rw [List.length_map, List.length_map]
        exact Nat.lt_of_le_of_lt (List.length_take_le _ _) (Nat.lt_of_le_of_lt (show i ≤ 4 by have := (List.getElem?_eq_some_iff.mp hz).1; omega) (by decide))
      · rw [upd_upd, NM.take_snoc hz, List.map_append, List.map_append]
        rfl
    intro H9 e9
    rw [List.length_map, List.take_length] at e9
    have s9 : Same H8 H9 := e9 ▸ same_new hN1
    have g9 : H9 N1 = some (.lst ((ms.map (((10 : Int) ^ (29 : Int).toNat + g) * ·)).map V.int)) := by rw [e9, upd_same]
    clear e9
    have hL9 := s9 _ _ hL8
    have hM9 := s9 _ _ hM8
    have hP9 := hP8.same s9
    have f9 := f8.trans (same_fr (p := p) s9)
    refine ⟨N1, ms.map (((10 : Int) ^ (29 : Int).toNat + g) * ·), true, rfl, SqL.of g9, by rw [List.length_map]; exact hl4, .inl ⟨rfl, fun H10 s10 => ?_⟩⟩
    refine ⟨_, rfl, _, rfl, L, ms, rfl, SqL.of (s10 _ _ hL9), hl4, hm, fun H11 s11 => ?_⟩
    refine ⟨_, _, rfl, rfl, wide_mul (a := 200) (b := 200) hFb (Nat.lt_of_le_of_lt (show ((NM.gcdL ms : Nat) : Int).natAbs ≤ 40 by have := gcdL_le hm; omega) (by decide)) (by decide) (by decide) (by decide), rfl, _, rfl, if_false_of (by
      rw [gcdL_mul, Int.natCast_mul, Int.natAbs_of_nonneg (Int.le_of_lt hF0)]; simp) ?_⟩
    have hM11 := s11 _ _ (s10 _ _ hM9)
    have hP11 := (hP9.same s10).same s11
    have f11 := f9.trans (same_fr (p := p) (s10.trans s11))
    -- the few
    have hfp : ∀ z ∈ fs, 0 < z := fun z hz => (hmf z hz).1
    have hfs : ∀ z ∈ fs, 0 < z ∧ z.natAbs < 2 ^ 4 := fun z hz => by have := hmf z hz; exact ⟨this.1, by omega⟩
    have hlb : NM.lcmL fs < 2 ^ 17 := Nat.lt_of_le_of_lt (lcmL_size fs hfs) (Nat.pow_lt_pow_right (by decide) (by omega))
    obtain ⟨j1, j2, j3⟩ := int_ok (x := ((NM.lcmL fs : Nat) : Int)) (Nat.lt_of_lt_of_le (show ((NM.lcmL fs : Nat) : Int).natAbs < 2 ^ 17 by omega) (Nat.pow_le_pow_right (by decide) (by decide)))
    refine ⟨_, rfl, M, fs, false, rfl, SqL.of hM11, hlf4, .inr ⟨rfl, fun z hz => ⟨hfp z hz, Nat.lt_of_lt_of_le (hfs z hz).2 (Nat.pow_le_pow_right (by decide) (by decide))⟩, fun H12 s12 => ?_⟩⟩
    refine ⟨_, .int _, rfl, .dp (.int _), j1, j2, j3, _, rfl, M, fs, rfl, SqL.of (s12 _ _ hM11), hlf4, hmf, fun H13 s13 => ?_⟩
    refine ⟨_, .int _, rfl, .dp (.int _), j1, j2, j3, rfl, _, rfl, if_false_of (by simp) ?_⟩
    have hM13 := s13 _ _ (s12 _ _ hM11)
    have hP13 := (hP11.same s12).same s13
    have f13 := f11.trans (same_fr (p := p) (s12.trans s13))
    refine ⟨_, rfl, Nat.zero_le _, fun l0 hl0 => ?_⟩
    have s14 := same_new (o := .lst []) hl0
    refine ⟨.list (fs.map PyData.int), .list [], .lst (SqL.of (s14 _ _ hM13)) (dp_ints fs), .lst (SqL.of upd_same) .nil, PySem.W.ke_shaped_ints fs, by decide +kernel, ?_⟩
    rw [eqv_nil]
    have hM14 := s14 _ _ hM13
    have hP14 := hP13.same s14
    have f14 := f13.trans (same_fr (p := p) s14)
    generalize upd H13 l0 (.lst []) = H14 at s14 hM14 hP14 f14 ⊢
    refine ⟨_, rfl, ?_⟩
    by_cases hnil : fs = []
    · refine if_true_of (decide_eq_true hnil) ?_
      exact k _ (hP14.mono (by omega)) f14
    refine if_false_of (decide_eq_false hnil) ?_
    refine ⟨_, rfl, M, rfl, ⟨_, SqL.of hM14⟩, fun N2 hN2 => lc_list (K := K) (a := M) (xs := fs.map V.int) (fun i H' => H' = upd H14 N2 (.lst (((fs.take i).map (((10 : Int) ^ (29 : Int).toNat + g) * ·)).map V.int))) rfl (fun i H' _ e => e ▸ SqL.of ((same_new hN2) _ _ hM14)) ?_ ?_⟩
    · rintro i y H' hi rfl
      obtain ⟨z, hz, rfl⟩ := map_get hi
      refine ⟨rfl, ?_⟩
      conv => whnf
      refine ⟨_, rfl, _, rfl, _, _, rfl, rfl, wide_mul (a := 200) (b := 200) hFb (Nat.lt_of_le_of_lt (show z.natAbs ≤ 40 by have := hmf z (List.mem_of_getElem? hz); omega) (by decide)) (by decide) (by decide) (by decide), _, upd_same, ?_, ?_⟩
      · rw [List.length_map, List.length_map]
        exact Nat.lt_of_le_of_lt (List.length_take_le _ _) (Nat.lt_of_le_of_lt (show i ≤ 4 by have := (List.getElem?_eq_some_iff.mp hz).1; omega) (by decide))
      · rw [upd_upd, NM.take_snoc hz, List.map_append, List.map_append]
        rfl
    intro H15 e15
    rw [List.length_map, List.take_length] at e15
    have s15 : Same H14 H15 := e15 ▸ same_new hN2
    have g15 : H15 N2 = some (.lst ((fs.map (((10 : Int) ^ (29 : Int).toNat + g) * ·)).map V.int)) := by rw [e15, upd_same]
    clear e15
    have hM15 := s15 _ _ hM14
    refine ⟨N2, fs.map (((10 : Int) ^ (29 : Int).toNat + g) * ·), false, rfl, SqL.of g15, by rw [List.length_map]; exact hlf4, .inr ⟨rfl, fun z hz => ?_, fun H16 s16 => ?_⟩⟩
    · obtain ⟨y, hy, rfl⟩ := List.mem_map.mp hz
      have hy2 := hmf y hy
      refine ⟨Int.mul_pos hF0 hy2.1, ?_⟩
      rw [Int.natAbs_mul]
      refine Nat.lt_of_lt_of_le (Nat.mul_lt_mul_of_lt_of_le hFb (show y.natAbs ≤ 2 ^ 4 by omega) (by decide)) ?_
      rw [← Nat.pow_add]
      exact Nat.pow_le_pow_right (by decide) (by decide)
    · refine ⟨_, rfl, _, rfl, M, fs, rfl, SqL.of (s16 _ _ hM15), hlf4, hmf, fun H17 s17 => ?_⟩
      refine ⟨_, _, rfl, rfl, wide_mul (a := 200) (b := 200) hFb (Nat.lt_of_lt_of_le (show ((NM.lcmL fs : Nat) : Int).natAbs < 2 ^ 17 by omega) (Nat.pow_le_pow_right (by decide) (by decide))) (by decide) (by decide) (by decide), rfl, ?_⟩
      rw [lcmL_mul _ hnil, Int.natCast_mul, Int.natAbs_of_nonneg (Int.le_of_lt hF0)]
      have sZ := (s15.trans s16).trans s17
      have q := k H17 ((hP14.same sZ).mono (by omega)) (f14.trans (same_fr sZ))
      simpa using q

--CUT
def kswap {α : Type} : List α → List α → List α
  | [], [a, b] => [b, a]
  | _, _ => []
theorem kb_apart (T : Txt K mg) : KBinds K T.fd_apart ["d", "period"] ["period", "d"] kswap kswap := by
  obtain ⟨oc, od, kV, doc, pm, an, cdv, ct, osl, e, lk, hcd⟩ := T.F_apart.ex
  refine ⟨fun s us ws hK hl => ?_, fun {vs us zs ws} r rz => ?_⟩
  · match us, ws, hl with
    | [], [a, b], _ => rw [e]; exact .of_eq rfl
    | [], [], h => simp [kswap] at h
    | [], [_], h => simp [kswap] at h
    | [], _ :: _ :: _ :: _, h => simp [kswap] at h
    | _ :: _, _, h => simp [kswap] at h
  · cases r with
    | nil =>
      cases rz with
      | nil => exact .nil
      | cons r1 rz =>
        cases rz with
        | nil => exact .nil
        | cons r2 rz =>
          cases rz with
          | nil => exact .cons r2 (.cons r1 .nil)
          | cons _ _ => exact .nil
    | cons _ _ => exact .nil
theorem three_ok {a : Int} (h0 : 0 ≤ a) (h1 : a ≤ 15) : (PyData.list [.int a, .int a, .int a]).showable = true ∧ (PyData.list [.int a, .int a, .int a]).depth ≤ 60 ∧ (PyData.list [.int a, .int a, .int a]).shown.length ≤ sizeLine := by
  have : a = 0 ∨ a = 1 ∨ a = 2 ∨ a = 3 ∨ a = 4 ∨ a = 5 ∨ a = 6 ∨ a = 7 ∨ a = 8 ∨ a = 9 ∨ a = 10 ∨ a = 11 ∨ a = 12 ∨ a = 13 ∨ a = 14 ∨ a = 15 := by omega
  rcases this with e | e | e | e | e | e | e | e | e | e | e | e | e | e | e | e <;> rw [e] <;> exact ⟨by decide +kernel, by decide +kernel, by decide +kernel⟩
def spApartR : Sp := fun vs H Q _ => ∃ (p : Addr) (n : Nat), vs = [.ref p] ∧ Pen H p n ∧ n < 90000 ∧ ∀ H', Pen H' p (n + 3) → Fr p H H' → Q (.bl true) H'
theorem ok_apart_right (T : Txt K mg) : FnG P w K mg base CX0 9 T.a_apart_right spApartR := by
  refine FnG.mk0 T.F_apart_right sc_apart_right (b_apart_right T) (fun vs H Q E h => ?_) (fun cdv A outer s H vs Q E gu hr h => ?_)
  · obtain ⟨p, n, rfl, _⟩ := h; rfl
  · obtain ⟨p, n, rfl, hP, hn, k⟩ := h
    refine ⟨_, pss_cons (ps_set (i := 1) sc_apart_right.nd rfl (Or.inl rfl) (pe_op op_add (pe_int) (pe_call (ok_draw T) (hr.mono (by decide)) rfl T.m_draw T.F_draw.kp (b_draw T) .nil pass0 (pa_cons (pv 0) (pa_cons (pe_int) (pa_nil))))))
      (pss_cons (ps_set (i := 2) sc_apart_right.nd rfl (Or.inl rfl) (pe_op op_sub (pe_call (ok_draw T) (hr.mono (by decide)) rfl T.m_draw T.F_draw.kp (b_draw T) .nil pass0 (pa_cons (pv 0) (pa_cons (pe_op op_mulW (pe_int) (pv 1)) (pa_nil)))) (pe_op op_mulW (pe_int) (pv 1))))
      (pss_cons (ps_par (i := 3) (j := 4) (by rfl) sc_apart_right.nd rfl rfl (by decide) rfl rfl (pa_cons (pe_op op_add (pv 2) (pe_op op_mulW (pv 1) (pe_op op_add (pe_op op_mulW (pe_op op_pow (pe_int) (pe_int)) (pe_op op_pow (pe_int) (pe_int))) (pe_call (ok_draw T) (hr.mono (by decide)) rfl T.m_draw T.F_draw.kp (b_draw T) .nil pass0 (pa_cons (pv 0) (pa_cons (pe_int) (pa_nil))))))) (pa_cons (pe_call (ok_by_apart T) (hr.mono (by decide)) rfl T.m_by_apart T.F_by_apart.kp (b_by_apart T) .nil pass0 (pa_cons (pv 2) (pa_cons (pv 1) (pa_nil)))) (pa_nil))) (by rfl))
      (pss_one (ps_ret (pe_cmpR op_eq (pe_callB (call_rep gu hr.units) (by rfl) T.n_repr (by decide +kernel) (pa_cons (pe_lst (pa_cons (pe_call (ok_apart T) (hr.mono (by decide)) rfl T.m_apart T.F_apart.kp (b_apart T) .nil passL (pa_cons (pv 2) (pa_cons (pv 1) (pa_nil)))) (pa_cons (pe_callK0 (ok_apart T) (hr.mono (by decide)) rfl T.m_apart T.F_apart.kp (kb_apart T) passL (pk_cons (pv 1) (pk_cons (pv 3) (pk_nil)))) (pa_cons (pe_call (ok_apart T) (hr.mono (by decide)) rfl T.m_apart T.F_apart.kp (b_apart T) .nil passL (pa_cons (pe_un un_neg (pv 3)) (pa_cons (pv 1) (pa_nil)))) (pa_nil))))) (pa_nil))) (pe_callB (call_rep gu hr.units) (by rfl) T.n_repr (by decide +kernel) (pa_cons (pe_op op_rep (pe_lst (pa_cons (pv 4) (pa_nil))) (pe_int)) (pa_nil))) (nomark _)))))), ?_⟩
    refine ⟨_, rfl, p, 30, n, rfl, by decide, by decide, hP, by omega, fun r H1 r0 r1 hP1 f1 => ?_⟩
    refine ⟨_, _, rfl, rfl, ?_⟩
    have hq : ((1 : Int) + r).natAbs < 2 ^ 10 := by omega
    have q0 : 0 < (1 : Int) + r := by omega
    refine ⟨_, rfl, _, rfl, _, _, rfl, rfl, wide_mul (a := 10) (b := 10) (by decide) hq (by decide) (by decide) (by decide), ?_⟩
    refine ⟨p, 4 * (1 + r), n + 1, rfl, by omega, by omega, hP1, by omega, fun u H2 u0 u1 hP2 f2 => ?_⟩
    refine ⟨_, rfl, _, _, rfl, rfl, wide_mul (a := 10) (b := 10) (by decide) hq (by decide) (by decide) (by decide), _, _, rfl, rfl, ?_⟩
    have hd0 : -2 * (1 + r) ≤ u - 2 * (1 + r) := by omega
    have hd1 : u - 2 * (1 + r) < 2 * (1 + r) := by omega
    -- a far one
    refine ⟨_, rfl, _, rfl, _, _, rfl, rfl, ⟨by decide, by decide, by decide⟩, _, _, rfl, rfl, ⟨by decide, by decide, by decide⟩, _, _, rfl, rfl, wide_mul (a := 200) (b := 200) (by decide +kernel) (by decide +kernel) (by decide) (by decide) (by decide), ?_⟩
    refine ⟨_, rfl, p, 99, _, rfl, by decide, by decide, hP2, by omega, fun g H3 g0 g1 hP3 f3 => ?_⟩
    have hX : ((10 : Int) ^ (50 : Int).toNat * 10 ^ (50 : Int).toNat + g).natAbs < 2 ^ 400 := by
      have e : ((10 : Int) ^ (50 : Int).toNat * 10 ^ (50 : Int).toNat) = 10 ^ 100 := by decide +kernel
      have l : ((10 : Int) ^ 100) < 2 ^ 399 := by decide +kernel
      have h2 : (2 : Int) ^ 400 = 2 ^ 399 + 2 ^ 399 := by decide +kernel
      have h3 : (1000 : Int) < 2 ^ 399 := by decide +kernel
      have h4 : (0 : Int) ≤ 10 ^ 100 := by decide +kernel
      have h5 : (((10 : Int) ^ (50 : Int).toNat * 10 ^ (50 : Int).toNat + g).natAbs : Int) < ((2 ^ 400 : Nat) : Int) := by
        rw [e, Int.natAbs_of_nonneg (by omega)]
        show (10 : Int) ^ 100 + g < 2 ^ 400
        omega
      exact Int.ofNat_lt.mp h5
    refine ⟨_, _, rfl, rfl, _, _, rfl, rfl, wide_mul (a := 10) (b := 400) hq hX (by decide) (by decide) (by decide), _, _, rfl, rfl, ?_⟩
    refine ⟨_, rfl, _, rfl, u - 2 * (1 + r), 1 + r, rfl, q0, by omega, hd0, hd1, fun H4 s4 => ?_⟩
    refine ⟨_, _, rfl, ?_⟩
    have hP4 := hP3.same s4
    have f4 := ((f1.trans f2).trans f3).trans (same_fr (p := p) s4)
    have e2 : NM.apartI (u - 2 * (1 + r) + (1 + r) * ((10 : Int) ^ (50 : Int).toNat * 10 ^ (50 : Int).toNat + g)) (1 + r) = NM.apartI (u - 2 * (1 + r)) (1 + r) := NM.apart_round q0 _
    have e3 : NM.apartI (-(u - 2 * (1 + r) + (1 + r) * ((10 : Int) ^ (50 : Int).toNat * 10 ^ (50 : Int).toNat + g))) (1 + r) = NM.apartI (u - 2 * (1 + r)) (1 + r) := (NM.apart_neg q0).trans e2
    have a0 := NM.apart_nn (d := u - 2 * (1 + r)) q0
    have a1 := NM.apart_half (d := u - 2 * (1 + r)) q0
    refine ⟨_, rfl, _, rfl, .inl ⟨u - 2 * (1 + r), 1 + r, rfl, q0, ?_⟩⟩
    refine ⟨_, rfl, _, rfl, .inl ⟨u - 2 * (1 + r) + (1 + r) * ((10 : Int) ^ (50 : Int).toNat * 10 ^ (50 : Int).toNat + g), 1 + r, rfl, q0, ?_⟩⟩
    refine ⟨_, rfl, _, rfl, _, rfl, .inl ⟨-(u - 2 * (1 + r) + (1 + r) * ((10 : Int) ^ (50 : Int).toNat * 10 ^ (50 : Int).toNat + g)), 1 + r, rfl, q0, ?_⟩⟩
    rw [e2, e3]
    clear e2 e3
    generalize NM.apartI (u - 2 * (1 + r)) (1 + r) = ap at a0 a1 ⊢
    obtain ⟨i1, i2, i3⟩ := three_ok (a := ap) a0 (by omega)
    have dp3 : ∀ H : Hp, DpAll K H [V.int ap, V.int ap, V.int ap] [.int ap, .int ap, .int ap] := fun H => .cons (.int _) (.cons (.int _) (.cons (.int _) .nil))
    refine ⟨(by show 3 ≤ sizeLine; decide), fun L hL => ?_⟩
    have s5 := same_new (o := .lst [V.int ap, V.int ap, V.int ap]) hL
    refine ⟨.ref L, .list [.int ap, .int ap, .int ap], rfl, .dp (.lst (SqL.of upd_same) (dp3 _)), i1, i2, .inr i3, ?_⟩
    refine ⟨_, rfl, (by show 1 ≤ sizeLine; decide), fun L2 hL2 => ?_⟩
    have s6 := same_new (o := .lst [V.int ap]) hL2
    refine ⟨L2, 3, _, rfl, rfl, upd_same, by decide, by decide, (by show 1 * 3 ≤ sizeLine; decide), fun L3 hL3 => ?_⟩
    have s7 := same_new (o := .lst [V.int ap, V.int ap, V.int ap]) hL3
    refine ⟨.ref L3, .list [.int ap, .int ap, .int ap], rfl, .dp (.lst (SqL.of upd_same) (dp3 _)), i1, i2, .inr i3, rfl, ?_⟩
    rw [decide_eq_true rfl]
    exact k _ (((hP4.same s5).same s6).same s7) (f4.trans (same_fr ((s5.trans s6).trans s7)))

--CUT
/-! ### what is heard of a call: its value in a list, or the value that a BadNumber tells -/
/-- what the written part says of the classes that are asked for -/
structure Caught (K : PySem.W.Frag) (mg : Str → Option Value) (C : Addr) where
  R : Addr
  m_R : mg "ReachError" = some (.ref R)
  ex : PySem.W.exmOne K (.ref C) (.ref R) = some true
  err : ErrC K C
  k1 : PySem.W.kitOne K (.ref C) (.ref C) = some true
  k2 : PySem.W.kitOne K (.ref C) (.type "ValueError") = some true
theorem takes_len {X : Cx} {W : WX} (t : Takes X W) : Takes X (fun cls d σ H => σ.length = X.N.length → W cls d σ H) := fun u s' ⟨a, B, sI, pins, σ, H, cls, d, e, I, nb, up, sky, na, os, ag, w⟩ =>
  t u s' ⟨a, B, sI, pins, σ, H, cls, d, e, I, nb, up, sky, na, os, ag, w I.len⟩
/-- the reading: the call returns v, or raises a BadNumber that tells v -/
def TTheard (K : PySem.W.Frag) (C : Addr) : (XK → Hp → VK → Prop) → Hp → VK → Prop := fun tl H Q =>
  tl (fun cls d H' => ∃ (dx : Addr) (v : V) (dd : PyData), cls = .ref C ∧ d = some dx ∧ H' dx = some (.xd [("value", v)]) ∧ (∀ H2, Same H' H2 → Dq K H2 v dd) ∧ dd.showable = true ∧ dd.depth ≤ 60 ∧ dd.shown.length ≤ sizeLine ∧ ∀ H2, Same H' H2 → Q (.str dd.shown) H2)
    H (fun v H1 => 1 ≤ sizeLine ∧ ∀ L, H1 L = Option.none → Q (.ref L) (upd H1 L (.lst [v])))
theorem heard_gives {X : Cx} (T : Txt X.K X.mg) (B : Caught X.K X.mg T.bad.C) (gu : X.A.guards = some []) {k : Nat} (hr : Room (k + 1) X.A) {g : Addr} {cdg : Value} {q : Str} :
    LamX.GivesTo X ["_law_ask", "_law_raised", "error"] "_law_heard" (defScope s_heard) g cdg (defBody s_heard) "_law_ask" q (TTheard X.K T.bad.C) := by
  intro f c' s H Q tl act hc h
  have hr1 : Room k (cxOf CX0 X.prog X.w X.K X.mg X.base ["_law_ask", "_law_raised", "error"] "_law_heard" (defScope s_heard) g cdg X.A X.stack s H E0).nox.A := hr.deeper _
  have gu1 : (cxOf CX0 X.prog X.w X.K X.mg X.base ["_law_ask", "_law_raised", "error"] "_law_heard" (defScope s_heard) g cdg X.A X.stack s H E0).nox.A.guards = some [] := gu
  refine ⟨_, pss_cons (ps_set (i := 1) sc_heard.nd rfl (Or.inl rfl) pe_non) (pss_cons (ps_try_keep (i := 2) (c := .ref B.R)
      (tb := fun W D σ H => ∃ Ech : XK, (∀ cls d σ' H', Ech cls d H' → σ'.length = 3 → W cls d σ' H') ∧ σ[0]? = some (some (.ref f)) ∧ H c' = some (LamX.CodeO c' q) ∧ tl Ech H (fun v H1 => 1 ≤ sizeLine ∧ ∀ L, H1 L = Option.none → D.rt (.ref L) (upd H1 L (.lst [v]))))
      rfl rfl rfl sc_heard.nd rfl rfl ⟨rfl, by decide, .inl B.m_R⟩ (fun W pn xe tk _ => ?_) (fun a oe cls d pn _ _ => pss_one (ps_set (i := 1) sc_heard.nd rfl (Or.inl rfl) (pv 2)))) (pss_one (ps_ret (pe_ifExp
        (PW.pt (pw_and (pt_val (pe_callB call_isK (by rfl) T.n_isinstance (by decide +kernel) (pa_cons (pv 1) (pa_cons (pe_glob (v := .ref T.bad.C) rfl T.bad.m rfl) pa_nil))))
          (pw_and1 (pt_val (pe_callB call_isK (by rfl) T.n_isinstance (by decide +kernel) (pa_cons (pv 1) (pa_cons (pe_bltn (v := .ty "ValueError") (u := .type "ValueError") (by rfl) T.n_ValueError (by decide +kernel) rfl) pa_nil)))))))
        (pe_callB (call_rep gu1 hr1.units) (by rfl) T.n_repr (by decide +kernel) (pa_cons (pe_fldK (pv 1)) pa_nil)) pe_non)))), ?_⟩
  · refine ⟨fun pins s' σ H' D I h' => ?_⟩
    obtain ⟨Ech, hW, h1, h2, h3⟩ := h'
    refine PSs.run (pss_one (ps_ret (pe_lst (pa_cons (act _ pn xe Ech _ _ (takes_len tk) hW) pa_nil)))) pins s' σ H' D I ?_
    exact ⟨h1, h2, h3⟩
  · refine ⟨fun cls d H' => ∃ (dx : Addr) (v : V) (dd : PyData), cls = .ref T.bad.C ∧ d = some dx ∧ H' dx = some (.xd [("value", v)]) ∧ (∀ H2, Same H' H2 → Dq X.K H2 v dd) ∧ dd.showable = true ∧ dd.depth ≤ 60 ∧ dd.shown.length ≤ sizeLine ∧ ∀ H2, Same H' H2 → Q (.str dd.shown) H2, ?_, rfl, hc, ?_⟩
    · rintro cls d σ' H' ⟨dx, v, dd, rfl, rfl, hdx, hD, d1, d2, d3, k⟩ hl
      match σ', hl with
      | [x, y, z], _ =>
        refine ⟨B.ex, fun a na => ⟨_, rfl, fun na2 => ?_⟩⟩
        have sa : Same H' (upd H' a (XO a (.ref T.bad.C) (some dx))) := same_new na2
        have ea : (upd H' a (XO a (.ref T.bad.C) (some dx))) a = some (XO a (.ref T.bad.C) (some dx)) := upd_same
        have ed := sa _ _ hdx
        have hD2 := hD _ sa
        have k2 := k _ sa
        generalize upd H' a (XO a (.ref T.bad.C) (some dx)) = H2 at sa ea ed hD2 k2 ⊢
        refine ⟨_, rfl, ?_⟩
        refine ⟨a, T.bad.C, dx, _, _, _, true, rfl, ea, ed, B.err, fun u hu => hu, B.k1, true, rfl, iteT ?_⟩
        refine ⟨_, rfl, a, T.bad.C, dx, _, _, _, true, rfl, ea, ed, B.err, fun u hu => hu, B.k2, true, rfl, iteT ?_⟩
        exact ⟨_, rfl, a, T.bad.C, dx, _, v, rfl, ea, ed, B.err, T.bad.no, rfl, v, dd, rfl, hD2, d1, d2, .inr d3, k2⟩
    · exact h

--CUT
def spPick (K : PySem.W.Frag) : Sp := fun vs H Q _ => ∃ (p l : Addr) (xs : List V) (n : Nat), vs = [.ref p, .ref l] ∧ SqL K H l xs ∧ l ≠ p ∧ 0 < xs.length ∧ xs.length < 1000000 ∧ Pen H p n ∧ n < 100000 ∧ ∀ (x : V) (H' : Hp), x ∈ xs → Pen H' p (n + 1) → Fr p H H' → Q x H'
theorem ok_pick (T : Txt K mg) : FnOk P w K mg base CX0 2 T.a_pick T.fd_pick ["_law_pen_here", "_law_some"] (spPick K) := by
  refine T.F_pick.ok sc_pick (fun vs H Q E h => ?_) (fun cdv A outer s H vs Q E hr h => ?_)
  · obtain ⟨p, l, xs, n, rfl, _⟩ := h; rfl
  · obtain ⟨p, l, xs, n, rfl, hS, hne, h0, h1, hP, hn, k⟩ := h
    refine ⟨_, pss_one (ps_ret (pe_ix ix_list (pv 1) (pe_call (ok_draw T) (hr.mono (by decide)) rfl T.m_draw T.F_draw.kp (b_draw T) .nil pass0 (pa_cons (pv 0) (pa_cons (pe_callB call_len_seq (by rfl) T.n_len (by decide +kernel) (pa_cons (pv 1) (pa_nil))) (pa_nil)))) (fun _ _ => rfl))), ?_⟩
    refine ⟨_, rfl, _, rfl, _, rfl, l, xs, rfl, .inl hS, p, _, n, rfl, (by omega), (by omega), hP, hn, fun r H' r0 r1 hP' fr => ?_⟩
    obtain ⟨x, hx, he⟩ := atI_any r0 r1
    exact ⟨l, xs, _, x, rfl, rfl, fr.seq hne hS, he, k x H' hx hP' fr⟩
/-! ### what is neither the pen nor a table stays -/
open Classical in
noncomputable def core (p : Addr) (H : Hp) : Hp := fun b => if b = p ∨ ∃ ps, H b = some (.tbl ps) then Option.none else H b
theorem core_sub {p : Addr} {H : Hp} : Same (core p H) H := fun b o e => by
  unfold core at e
  split at e
  · cases e
  · exact e
theorem core_at {p : Addr} {H : Hp} {a : Addr} {o : HO} (h : H a = some o) (n : a ≠ p) (nt : ∀ ps, o ≠ .tbl ps) : core p H a = some o := by
  unfold core
  rw [if_neg]
  · exact h
  · rintro (z | ⟨ps, z⟩)
    · exact n z
    · rw [h] at z
      exact nt ps (Option.some.inj z)
theorem core_of {p : Addr} {H : Hp} {a : Addr} {o : HO} (h : core p H a = some o) : a ≠ p ∧ (∀ ps, o ≠ .tbl ps) ∧ H a = some o := by
  have h2 := core_sub _ _ h
  unfold core at h
  split at h
  · cases h
  · rename_i n
    exact ⟨fun z => n (.inl z), fun ps z => n (.inr ⟨ps, z ▸ h2⟩), h2⟩
theorem core_ext {p : Addr} {H H' : Hp} (e : LamX.ExtN H H') : Same (core p H) H' := fun b o q => by
  obtain ⟨_, q2, q3⟩ := core_of q
  exact e b o q3 q2
theorem core_fr {p : Addr} {H H' : Hp} (e : Fr p H H') : Same (core p H) H' := fun b o q => by
  obtain ⟨q1, _, q3⟩ := core_of q
  exact e b o q1 q3
theorem core_same {p : Addr} {H H' : Hp} (e : Same H H') : Same (core p H) H' := fun b o q => e b o (core_of q).2.2
theorem core_up {p : Addr} {H H' : Hp} (e : Same (core p H) H') : Same (core p H) (core p H') := fun b o q => by
  obtain ⟨q1, q2, _⟩ := core_of q
  exact core_at (e b o q) q1 q2
theorem Pen.extN {H H' : Hp} {p : Addr} {n : Nat} (h : Pen H p n) (s : LamX.ExtN H H') : Pen H' p n := by
  obtain ⟨c, ns, i, g, h1, h2, h3⟩ := h
  exact ⟨c, ns, i, g, s _ _ h1 (fun ps z => nomatch z), s _ _ h2 (fun ps z => nomatch z), h3⟩
theorem SqL.sameR {K : PySem.W.Frag} {H H' : Hp} {a : Addr} {xs : List V} (s : Same H H') (h : SqL K H a xs) : SqL K H' a xs := by
  rcases h with (h | ⟨o, h⟩) | h
  · exact .inl (.inl (s _ _ h))
  · exact .inl (.inr ⟨o, s _ _ h⟩)
  · exact .inr h
theorem SqT.same {K : PySem.W.Frag} {H H' : Hp} {a : Addr} {xs : List V} (s : Same H H') (h : SqT K H a xs) : SqT K H' a xs := by
  rcases h with (h | ⟨o, h⟩) | h
  · exact .inl (.inl (s _ _ h))
  · exact .inl (.inr ⟨o, s _ _ h⟩)
  · exact .inr h
mutual
theorem dp_same {K : PySem.W.Frag} {H H' : Hp} (s : Same H H') : ∀ (d : PyData) (v : V), Dp K H v d → Dp K H' v d
  | .none, _, h => by cases h; exact .non
  | .bool _, _, h => by cases h; exact .bl _
  | .int _, _, h => by cases h; exact .int _
  | .str _, _, h => by cases h; exact .str _
  | .list ds, _, h => by
    cases h with
    | lst h1 ha => exact .lst (SqL.sameR s h1) (dp_sameAll s ds _ ha)
  | .tuple ds, _, h => by
    cases h with
    | tup h1 ha => exact .tup (SqT.same s h1) (dp_sameAll s ds _ ha)
  | .dict _, _, h => by cases h
theorem dp_sameAll {K : PySem.W.Frag} {H H' : Hp} (s : Same H H') : ∀ (ds : List PyData) (vs : List V), DpAll K H vs ds → DpAll K H' vs ds
  | [], _, h => by cases h; exact .nil
  | d :: ds, _, h => by
    cases h with
    | cons h1 h2 => exact .cons (dp_same s d _ h1) (dp_sameAll s ds _ h2)
end
theorem Dq.same {K : PySem.W.Frag} {H H' : Hp} (s : Same H H') {v : V} {d : PyData} (h : Dq K H v d) : Dq K H' v d := by
  cases h with
  | dp h => exact .dp (dp_same s _ _ h)
  | d0 h => exact .d0 (s _ _ h)
/-- v is of a built-in kind, and shows as d -/
structure Odd2 (K : PySem.W.Frag) (H : Hp) (v : V) (d : PyData) : Prop where
  nt : ∃ t, NT H v t
  dq : Dq K H v d
  sh : d.showable = true
  dep : d.depth ≤ 60
  len : d.shown.length ≤ sizeLine
  ok : PyData.strOk d.shown = true
theorem Odd2.same {K : PySem.W.Frag} {H H' : Hp} (s : Same H H') {v : V} {d : PyData} (h : Odd2 K H v d) : Odd2 K H' v d := by
  obtain ⟨t, ht⟩ := h.nt
  exact ⟨⟨t, ht.same s⟩, h.dq.same s, h.sh, h.dep, h.len, h.ok⟩
theorem tabs_fr {T : List (Addr × Str)} {p : Addr} {H H' : Hp} {n : Nat} (f : Fr p H H') (hP : Pen H p n) (t : LamX.Tabs T H) : LamX.Tabs T H' := fun q hq => by
  obtain ⟨xs, hp⟩ := hP.at
  obtain ⟨ps, h1, h2, h3⟩ := t q hq
  refine ⟨ps, f _ _ (fun z => by rw [z, hp] at h1; cases h1) h1, h2, fun pos cv hc => ?_⟩
  obtain ⟨c, e1, e2⟩ := h3 pos cv hc
  exact ⟨c, e1, f _ _ (fun z => by rw [z, hp] at e2; exact absurd (Option.some.inj e2) (by unfold LamX.CodeO; exact fun z => nomatch z)) e2⟩
theorem tabs_upd {T : List (Addr × Str)} {H : Hp} {L : Addr} {xs ys : List V} (hL : H L = some (.lst xs)) (t : LamX.Tabs T H) : LamX.Tabs T (upd H L (.lst ys)) := fun q hq => by
  obtain ⟨ps, h1, h2, h3⟩ := t q hq
  refine ⟨ps, by rw [upd_ne (fun z => by rw [z, hL] at h1; cases h1)]; exact h1, h2, fun pos cv hc => ?_⟩
  obtain ⟨c, e1, e2⟩ := h3 pos cv hc
  exact ⟨c, e1, by rw [upd_ne (fun z => by rw [z, hL] at e2; exact absurd (Option.some.inj e2) (by unfold LamX.CodeO; exact fun z => nomatch z))]; exact e2⟩
/-- a def whose one argument is a lambda is told -/
theorem pe_heard {X : Cx} (T : Txt X.K X.mg) (B : Caught X.K X.mg T.bad.C) (gu : X.A.guards = some []) {k : Nat} (hr : Room (k + 2) X.A) {c P : Addr} (TB : LamX.TabB X.base X.mg c P) (hcode : X.env.code = .ref c) {params : Arguments} {body : Expr} {scope : Scope} {t : XK → TE} {p lpos pos : Pos}
    (hg : Gl X "_law_heard") (L : LamX.LamS X.env.scope scope) (hdef : defaultsOf params X.env = ([], []))
    (hbind : ∀ (q : Str) (cl : List (Str × Addr)) (pm cv ctv : Value), bindArgs (PySem.W.kla_fn "<lambda>" q params body scope cl pm cv ctv) ⟨[], []⟩ = pure [])
    (hbody : ∀ (A : Around) (outer : List Env) (s : Shared) (H : Hp) (E : XK) (f c' : Addr), Room k (A.deeper (LamX.lamEnv X scope s.heap.objs.size f c')) → PE (LamX.lamCx X A outer s H E scope f c') body (t E)) :
    PE X (.Call (.Name "_law_heard" p) [.Lambda params body scope lpos] [] pos) (LamX.tLam [(P, X.env.qual ++ "<lambda>")] (TTheard X.K T.bad.C) t) := by
  obtain ⟨oc, od, kV, doc, pm, an, cdv, ct, osl, e, lk, hcd⟩ := T.F_heard.ex
  have Bd := b_heard T
  rw [e] at lk Bd
  exact LamX.pe_lamcall hg T.m_heard T.F_heard.kp lk hcd Bd sc_heard rfl (.inl rfl) (heard_gives (k := k + 1) T B gu hr) TB hcode List.mem_cons_self (fun p hp _ => by rw [List.mem_singleton.mp hp]) hr L hdef hbind hbody
theorem shaped5 {a b : Str} (h : PyData.strOk a = true) (h' : PyData.strOk b = true) : SeqAt.shaped (.list [.str a, .str a, .str b, .str a, .str b]) = true := by
  simp [SeqAt.shaped, h, h', PyData.canLay0, PyData.canLayAll0, PyData.depth, PyData.depthAll]
theorem eqv5 (a b : Str) : PyData.eqv (.list [.str a, .str a, .str b, .str a, .str b]) (.list [.str a, .str a, .str b, .str a, .str b]) = true := by
  simp [PyData.eqv, PyData.eqvAll]
def kone {α : Type} : List α → List α → List α
  | [], [a] => [a]
  | _, _ => []
theorem kb_is_whole (T : Txt K mg) : KBinds K T.fd_is_whole ["value"] ["value"] kone kone := by
  obtain ⟨oc, od, kV, doc, pm, an, cdv, ct, osl, e, lk, hcd⟩ := T.F_is_whole.ex
  refine ⟨fun s us ws hK hl => ?_, fun {vs us zs ws} r rz => ?_⟩
  · match us, ws, hl with
    | [], [a], _ => rw [e]; exact .of_eq rfl
    | [], [], h => simp [kone] at h
    | [], _ :: _ :: _, h => simp [kone] at h
    | _ :: _, _, h => simp [kone] at h
  · cases r with
    | nil =>
      cases rz with
      | nil => exact .nil
      | cons r1 rz =>
        cases rz with
        | nil => exact .cons r1 .nil
        | cons _ _ => exact .nil
    | cons _ _ => exact .nil
/-- the one True, the one False -/
theorem op_isB {X : Cx} : OpR X (compareOp .Is) (fun x y H Q => ∃ a b, x = .bl a ∧ y = .bl b ∧ Q (.bl (decide (a = b))) H) := by
  intro pins s σ H x y v u Q I rx ry h
  obtain ⟨a, b, rfl, rfl, q⟩ := h
  cases (show v = Value.bool a from rx)
  cases (show u = Value.bool b from ry)
  exact wpAny_is_plain rfl (fin_bl I q (by cases a <;> cases b <;> rfl))
--CUT
def spRefused (P : Addr) (q : Str) : Sp := fun vs H Q _ => ∃ (p : Addr) (n : Nat), vs = [.ref p] ∧ Pen H p n ∧ n < 90000 ∧ LamX.Tabs [(P, q)] H ∧ ∀ H', Pen H' p (n + 3) → LamX.Tabs [(P, q)] H' → Q (.bl true) H'
theorem ok_refused_right (T : Txt K mg) (B : Caught K mg T.bad.C) {f c P1 : Addr} {oc : Value} {od an : Option Addr} {osl : Array (Option Value)} {kV doc pm ct : Value}
    (lk : K.lookup f = some ⟨oc, od, .func (PySem.W.fnOf "_law_refused_right" "_law_refused_right" (defArgs s_refused_right) (defBody s_refused_right) (defScope s_refused_right) .none kV doc pm an (.ref c) ct), osl⟩) (hcd : PySem.W.codeIn K (.ref c) "_law_refused_right" = true)
    (Bd : Binds K (PySem.W.fnOf "_law_refused_right" "_law_refused_right" (defArgs s_refused_right) (defBody s_refused_right) (defScope s_refused_right) .none kV doc pm an (.ref c) ct) ["_law_pen_here"] []) (TB : LamX.TabB base mg c P1) :
    FnG P w K mg base CX0 9 f (spRefused P1 "_law_refused_right.<locals>.<lambda>") := by
  refine FnG.mkL lk hcd sc_refused_right Bd (fun vs H Q E h => ?_) (fun A outer s H vs Q E gu hr h => ?_)
  · obtain ⟨p, n, rfl, _⟩ := h; rfl
  · obtain ⟨p, n, rfl, hP, hn, hT, k⟩ := h
    refine ⟨_, pss_cons (ps_asg (pe_tup (pa_cons (pe_call (ok_pick T) (hr.mono (by decide)) rfl T.m_pick T.F_pick.kp (b_pick T) .nil pass0 (pa_cons (pv 0) (pa_cons (pe_lst (pa_cons (pe_non) (pa_cons (pe_bl) (pa_cons (pe_str) (pa_cons (pe_tup (pa_cons (pe_int) (pa_nil))) (pa_cons (pe_lst (pa_nil)) (pa_cons (pe_dnewK) (pa_nil)))))))) (pa_nil)))) (pa_cons (pe_call (ok_pick T) (hr.mono (by decide)) rfl T.m_pick T.F_pick.kp (b_pick T) .nil pass0 (pa_cons (pv 0) (pa_cons (pe_lst (pa_cons (pe_non) (pa_cons (pe_bl) (pa_cons (pe_str) (pa_cons (pe_int) (pa_cons (pe_un un_neg (pe_int)) (pa_cons (pe_lst (pa_cons (pe_int) (pa_nil))) (pa_nil)))))))) (pa_nil)))) (pa_nil)))) (pg_tup rfl (pgs_cons (pg_name (i := 1) sc_refused_right.nd rfl (Or.inr rfl)) (pgs_cons (pg_name (i := 2) sc_refused_right.nd rfl (Or.inr rfl)) (pgs_nil)))))
      (pss_cons (ps_set (i := 3) sc_refused_right.nd rfl (Or.inl rfl) (pe_lst (pa_cons (pe_heard (k := 6) T B gu hr TB rfl rfl (LamX.lamS_by (by show LamX.lamSB (defScope s_refused_right) _ = true; decide +kernel)) rfl (fun _ _ _ _ _ => rfl) (fun A2 o2 s2 H2 E2 f2 c2 hr3 => (pe_callR (ok_common T) (hr3.mono (by decide)) T.F_common.kp rfl T.m_common (passes_call (takes_of rfl rfl rfl rfl) (fun _ _ _ _ h => h)) (pa_cons (pe_int) (pa_cons (pv 1) (pa_cons (pv 2) (pa_nil))))))) (pa_nil))))
      (pss_cons (ps_expr (pe_bm PySem.F.plainAttrs_list PySem.F.slot_list_append PySem.F.type_list_append mt_append (pv 3) (pa_cons (pe_heard (k := 6) T B gu hr TB rfl rfl (LamX.lamS_by (by show LamX.lamSB (defScope s_refused_right) _ = true; decide +kernel)) rfl (fun _ _ _ _ _ => rfl) (fun A2 o2 s2 H2 E2 f2 c2 hr3 => (pe_callR (ok_common T) (hr3.mono (by decide)) T.F_common.kp rfl T.m_common (passes_call (takes_of rfl rfl rfl rfl) (fun _ _ _ _ h => h)) (pa_cons (pv 1) (pa_nil))))) (pa_nil))))
      (pss_cons (ps_expr (pe_bm PySem.F.plainAttrs_list PySem.F.slot_list_append PySem.F.type_list_append mt_append (pv 3) (pa_cons (pe_heard (k := 6) T B gu hr TB rfl rfl (LamX.lamS_by (by show LamX.lamSB (defScope s_refused_right) _ = true; decide +kernel)) rfl (fun _ _ _ _ _ => rfl) (fun A2 o2 s2 H2 E2 f2 c2 hr3 => (pe_callR (ok_multiple T) (hr3.mono (by decide)) T.F_multiple.kp rfl T.m_multiple (passes_call (takes_of rfl rfl rfl rfl) (fun _ _ _ _ h => h)) (pa_cons (pe_int) (pa_cons (pv 2) (pa_cons (pv 1) (pa_nil))))))) (pa_nil))))
      (pss_cons (ps_expr (pe_bm PySem.F.plainAttrs_list PySem.F.slot_list_append PySem.F.type_list_append mt_append (pv 3) (pa_cons (pe_heard (k := 6) T B gu hr TB rfl rfl (LamX.lamS_by (by show LamX.lamSB (defScope s_refused_right) _ = true; decide +kernel)) rfl (fun _ _ _ _ _ => rfl) (fun A2 o2 s2 H2 E2 f2 c2 hr3 => (pe_call (ok_apart T) (hr3.mono (by decide)) rfl T.m_apart T.F_apart.kp (b_apart T) .nil (passes_call (takes_of rfl rfl rfl rfl) (fun _ _ _ _ h => h)) (pa_cons (pv 1) (pa_cons (pv 2) (pa_nil)))))) (pa_nil))))
      (pss_cons (ps_expr (pe_bm PySem.F.plainAttrs_list PySem.F.slot_list_append PySem.F.type_list_append mt_append (pv 3) (pa_cons (pe_heard (k := 6) T B gu hr TB rfl rfl (LamX.lamS_by (by show LamX.lamSB (defScope s_refused_right) _ = true; decide +kernel)) rfl (fun _ _ _ _ _ => rfl) (fun A2 o2 s2 H2 E2 f2 c2 hr3 => (pe_call (ok_apart T) (hr3.mono (by decide)) rfl T.m_apart T.F_apart.kp (b_apart T) .nil (passes_call (takes_of rfl rfl rfl rfl) (fun _ _ _ _ h => h)) (pa_cons (pe_int) (pa_cons (pv 2) (pa_nil)))))) (pa_nil))))
      (pss_cons (ps_if (pt_cmpR (op_neD hr.units) (pv 3) (pe_lst (pa_cons (pe_callB (call_rep gu hr.units) (by rfl) T.n_repr (by decide +kernel) (pa_cons (pv 1) (pa_nil))) (pa_cons (pe_callB (call_rep gu hr.units) (by rfl) T.n_repr (by decide +kernel) (pa_cons (pv 1) (pa_nil))) (pa_cons (pe_callB (call_rep gu hr.units) (by rfl) T.n_repr (by decide +kernel) (pa_cons (pv 2) (pa_nil))) (pa_cons (pe_callB (call_rep gu hr.units) (by rfl) T.n_repr (by decide +kernel) (pa_cons (pv 1) (pa_nil))) (pa_cons (pe_callB (call_rep gu hr.units) (by rfl) T.n_repr (by decide +kernel) (pa_cons (pv 2) (pa_nil))) (pa_nil))))))) (nomark _)) (pss_one (ps_ret (pe_bl))) (pss_nil))
      (pss_one (ps_ret (pe_and (pe_cmpR op_isB (pe_call (ok_is_whole T) (hr.mono (by decide)) rfl T.m_is_whole T.F_is_whole.kp (b_is_whole T) .nil pass0 (pa_cons (pv 1) (pa_nil))) (pe_bl) (nomark _)) (pe_and (pe_cmpR op_isB (pe_call (ok_is_whole T) (hr.mono (by decide)) rfl T.m_is_whole T.F_is_whole.kp (b_is_whole T) .nil pass0 (pa_cons (pe_op op_sub (pe_call (ok_draw T) (hr.mono (by decide)) rfl T.m_draw T.F_draw.kp (b_draw T) .nil pass0 (pa_cons (pv 0) (pa_cons (pe_int) (pa_nil)))) (pe_int)) (pa_nil))) (pe_bl) (nomark _)) (pe_one (pe_cmpR op_isB (pe_callK0 (ok_is_whole T) (hr.mono (by decide)) rfl T.m_is_whole T.F_is_whole.kp (kb_is_whole T) pass0 (pk_cons (pe_op op_mulW (pe_op op_pow (pe_int) (pe_int)) (pe_op op_pow (pe_int) (pe_int))) (pk_nil))) (pe_bl) (nomark _))))))))))))), ?_⟩
    have hP0 := hP
    have hT0 := hT
    refine ⟨_, rfl, (by show 1 ≤ sizeLine; decide), fun a0 h0 => ?_⟩
    have s0 := same_new (o := .tup [V.int 4]) h0
    have n0 : a0 ≠ p := hP0.neq h0
    have hP1 := hP0.same s0
    have hT1 := hT0.ext s0
    have e0 : (upd H a0 (.tup [V.int 4])) a0 = some (.tup [V.int 4]) := upd_same
    generalize upd H a0 (.tup [V.int 4]) = G0 at s0 hP1 hT1 e0 ⊢
    refine ⟨(by show 0 ≤ sizeLine; decide), fun a1 h1 => ?_⟩
    have s1 := same_new (o := .lst []) h1
    have n1 : a1 ≠ p := hP1.neq h1
    have hP2 := hP1.same s1
    have hT2 := hT1.ext s1
    have e1 : (upd G0 a1 (.lst [])) a1 = some (.lst []) := upd_same
    have e0 := s1 _ _ e0
    generalize upd G0 a1 (.lst []) = G1 at s1 hP2 hT2 e0 e1 ⊢
    intro a2 h2
    have s2 := same_new (o := .dK []) h2
    have n2 : a2 ≠ p := hP2.neq h2
    have hP3 := hP2.same s2
    have hT3 := hT2.ext s2
    have e2 : (upd G1 a2 (.dK [])) a2 = some (.dK []) := upd_same
    have e0 := s2 _ _ e0
    have e1 := s2 _ _ e1
    generalize upd G1 a2 (.dK []) = G2 at s2 hP3 hT3 e0 e1 e2 ⊢
    refine ⟨(by show 6 ≤ sizeLine; decide), fun L hL => ?_⟩
    have nL : L ≠ p := hP3.neq hL
    have sL := same_new (o := .lst [V.non, V.bl true, V.str "4", V.ref a0, V.ref a1, V.ref a2]) hL
    have hPL := hP3.same sL
    have hTL := hT3.ext sL
    have e0 := core_at (p := p) (sL _ _ e0) n0 (fun _ z => nomatch z)
    have e1 := core_at (p := p) (sL _ _ e1) n1 (fun _ z => nomatch z)
    have e2 := core_at (p := p) (sL _ _ e2) n2 (fun _ z => nomatch z)
    have eL : (upd G2 L (.lst [V.non, V.bl true, V.str "4", V.ref a0, V.ref a1, V.ref a2])) L = some (.lst [V.non, V.bl true, V.str "4", V.ref a0, V.ref a1, V.ref a2]) := upd_same
    generalize upd G2 L (.lst [V.non, V.bl true, V.str "4", V.ref a0, V.ref a1, V.ref a2]) = GL at sL hPL hTL eL e0 e1 e2 ⊢
    refine ⟨p, L, _, n, rfl, SqL.of eL, nL, (by show 0 < 6; decide), (by show 6 < 1000000; decide), hPL, by omega, fun x H1 hx hP1' f1 => ?_⟩
    have odd : ∃ dd, Odd2 K (core p GL) x dd ∧ intB x = false := by
      simp only [List.mem_cons, List.not_mem_nil, or_false] at hx
      rcases hx with rfl | rfl | rfl | rfl | rfl | rfl
      · exact ⟨.none, ⟨⟨_, .non⟩, .dp .non, by decide +kernel, by decide +kernel, by decide +kernel, by decide +kernel⟩, rfl⟩
      · exact ⟨.bool true, ⟨⟨_, .bl _⟩, .dp (.bl _), by decide +kernel, by decide +kernel, by decide +kernel, by decide +kernel⟩, rfl⟩
      · exact ⟨.str "4", ⟨⟨_, .str _⟩, .dp (.str _), by decide +kernel, by decide +kernel, by decide +kernel, by decide +kernel⟩, rfl⟩
      · exact ⟨.tuple [.int 4], ⟨⟨_, .tup e0⟩, .dp (.tup (SqT.of e0) (.cons (.int _) .nil)), by decide +kernel, by decide +kernel, by decide +kernel, by decide +kernel⟩, rfl⟩
      · exact ⟨.list [], ⟨⟨_, .lst e1⟩, .dp (.lst (SqL.of e1) .nil), by decide +kernel, by decide +kernel, by decide +kernel, by decide +kernel⟩, rfl⟩
      · exact ⟨.dict [], ⟨⟨_, .dic e2⟩, .d0 e2, by decide +kernel, by decide +kernel, by decide +kernel, by decide +kernel⟩, rfl⟩
    obtain ⟨dx, oddx, nx⟩ := odd
    have hT1 : LamX.Tabs [(P1, "_law_refused_right.<locals>.<lambda>")] H1 := tabs_fr f1 hPL hTL
    have oddx := oddx.same (core_up (core_fr f1))
    -- the second list
    refine ⟨_, rfl, 3, rfl, (by show 1 ≤ sizeLine; decide), fun b0 g0 => ?_⟩
    have t0 := same_new (o := .lst [V.int 2]) g0
    have m0 : b0 ≠ p := hP1'.neq g0
    have hQ0 := hP1'.same t0
    have hU0 := hT1.ext t0
    have oddx := oddx.same (core_up (core_same (p := p) t0))
    have i0 : (upd H1 b0 (.lst [V.int 2])) b0 = some (.lst [V.int 2]) := upd_same
    generalize upd H1 b0 (.lst [V.int 2]) = F0 at t0 hQ0 hU0 oddx i0 ⊢
    refine ⟨(by show 6 ≤ sizeLine; decide), fun M hM => ?_⟩
    have nM : M ≠ p := hQ0.neq hM
    have sM := same_new (o := .lst [V.non, V.bl false, V.str "", V.int 0, V.int (-3), V.ref b0]) hM
    have hPM := hQ0.same sM
    have hTM := hU0.ext sM
    have oddx := oddx.same (core_up (core_same (p := p) sM))
    have i0 := core_at (p := p) (sM _ _ i0) m0 (fun _ z => nomatch z)
    have eM : (upd F0 M (.lst [V.non, V.bl false, V.str "", V.int 0, V.int (-3), V.ref b0])) M = some (.lst [V.non, V.bl false, V.str "", V.int 0, V.int (-3), V.ref b0]) := upd_same
    generalize upd F0 M (.lst [V.non, V.bl false, V.str "", V.int 0, V.int (-3), V.ref b0]) = GM at sM hPM hTM eM oddx i0 ⊢
    refine ⟨p, M, _, n + 1, rfl, SqL.of eM, nM, (by show 0 < 6; decide), (by show 6 < 1000000; decide), hPM, by omega, fun y H2 hy hP2' f2 => ?_⟩
    have bad : ∃ dd, Odd2 K (core p GM) y dd ∧ fromB 1 y = false := by
      simp only [List.mem_cons, List.not_mem_nil, or_false] at hy
      rcases hy with rfl | rfl | rfl | rfl | rfl | rfl
      · exact ⟨.none, ⟨⟨_, .non⟩, .dp .non, by decide +kernel, by decide +kernel, by decide +kernel, by decide +kernel⟩, rfl⟩
      · exact ⟨.bool false, ⟨⟨_, .bl _⟩, .dp (.bl _), by decide +kernel, by decide +kernel, by decide +kernel, by decide +kernel⟩, rfl⟩
      · exact ⟨.str "", ⟨⟨_, .str _⟩, .dp (.str _), by decide +kernel, by decide +kernel, by decide +kernel, by decide +kernel⟩, rfl⟩
      · exact ⟨.int 0, ⟨⟨_, .int _⟩, .dp (.int _), by decide +kernel, by decide +kernel, by decide +kernel, by decide +kernel⟩, rfl⟩
      · exact ⟨.int (-3), ⟨⟨_, .int _⟩, .dp (.int _), by decide +kernel, by decide +kernel, by decide +kernel, by decide +kernel⟩, rfl⟩
      · exact ⟨.list [.int 2], ⟨⟨_, .lst i0⟩, .dp (.lst (SqL.of i0) (.cons (.int _) .nil)), by decide +kernel, by decide +kernel, by decide +kernel, by decide +kernel⟩, rfl⟩
    obtain ⟨dy, oddy, ny⟩ := bad
    have hT2 : LamX.Tabs [(P1, "_law_refused_right.<locals>.<lambda>")] H2 := tabs_fr f2 hPM hTM
    have oddx := oddx.same (core_up (core_fr f2))
    have oddy := oddy.same (core_up (core_fr f2))
    refine ⟨(by show 2 ≤ sizeLine; decide), fun tp htp => ⟨_, _, rfl, SqT.of upd_same, rfl, _, _, rfl, _, _, rfl, rfl, ?_⟩⟩
    have sT := same_new (o := .tup [x, y]) htp
    have oddx := oddx.same (core_up (core_same (p := p) sT))
    have oddy := oddy.same (core_up (core_same (p := p) sT))
    have hPT := hP2'.same sT
    have hTT := hT2.ext sT
    generalize upd H2 tp (.tup [x, y]) = B0 at sT oddx oddy hPT hTT ⊢
    obtain ⟨cc, ns, ci, cg, pc1, pc2, pc3⟩ := id hPT
    have R : Same (core p B0) B0 := core_sub
    have okX := oddx.ok
    have okY := oddy.ok
    refine ⟨hTT, fun A0 x0 hT0 => ?_⟩
    have hTT : LamX.Tabs [(P1, "_law_refused_right.<locals>.<lambda>")] A0 := hT0
    have R : Same (core p B0) A0 := fun b o q => core_ext x0 b o (core_up R b o q)
    have pc1 := x0 _ _ pc1 (fun _ z => nomatch z)
    have pc2 := x0 _ _ pc2 (fun _ z => nomatch z)
    have ox := oddx.same R
    have oy := oddy.same R
    obtain ⟨tx, htx⟩ := ox.nt
    obtain ⟨ty, hty⟩ := oy.nt
    refine ⟨_, rfl, _, rfl, (by show 3 ≤ sizeLine; decide), .inr ⟨x, ⟨1, rfl, fun i y hi e => (by
        match i, hi, e with
        | 0, _, e => cases e; exact ⟨by decide, _, .int _⟩), nx, _, htx⟩, fun d H4 s4 hd hdx => ?_⟩⟩
    have R4 : Same (core p B0) H4 := fun b o q => s4 b o (R b o q)
    refine ⟨d, x, dx, rfl, rfl, hdx, fun G s => (oddx.same (fun b o q => s b o (R4 b o q))).dq, oddx.sh, oddx.dep, oddx.len, fun C0 s5 => ?_⟩
    have sA := s4.trans s5
    have R : Same (core p B0) C0 := fun b o q => sA b o (R b o q)
    have hTT := hTT.ext sA
    have pc1 := sA _ _ pc1
    have pc2 := sA _ _ pc2
    clear s4 s5 sA R4 hdx hd ox oy htx hty
    refine ⟨(by show 1 ≤ sizeLine; decide), fun L1 hL1 => ?_⟩
    have hPC : Pen C0 p (n + 2) := ⟨cc, ns, ci, cg, pc1, pc2, pc3⟩
    have n1p : L1 ≠ p := hPC.neq hL1
    have ncL : cc ≠ L1 := ne_of_none pc2 hL1
    have nb1 : ∀ b o, core p B0 b = some o → b ≠ L1 := fun b o q => ne_of_none (R b o q) hL1
    have s6 := same_new (o := .lst [V.str dx.shown]) hL1
    have R : Same (core p B0) (upd C0 L1 (.lst [V.str dx.shown])) := fun b o q => s6 b o (R b o q)
    have hTT := hTT.ext s6
    have pc1 := s6 _ _ pc1
    have pc2 := s6 _ _ pc2
    have eL1 : (upd C0 L1 (.lst [V.str dx.shown])) L1 = some (.lst [V.str dx.shown]) := upd_same
    generalize upd C0 L1 (.lst [V.str dx.shown]) = D0 at s6 R hTT pc1 pc2 eL1 ⊢
    clear s6 hPC
    refine ⟨_, rfl, .inl ⟨rfl, _, SqL.of eL1⟩, hTT, fun A1 x1 hT1 => ?_⟩
    have hTT : LamX.Tabs [(P1, "_law_refused_right.<locals>.<lambda>")] A1 := hT1
    have R : Same (core p B0) A1 := fun b o q => core_ext x1 b o (core_up R b o q)
    have pc1 := x1 _ _ pc1 (fun _ z => nomatch z)
    have pc2 := x1 _ _ pc2 (fun _ z => nomatch z)
    have eL1 := x1 _ _ eL1 (fun _ z => nomatch z)
    have ox := oddx.same R
    have oy := oddy.same R
    obtain ⟨tx, htx⟩ := ox.nt
    obtain ⟨ty, hty⟩ := oy.nt
    refine ⟨_, rfl, (by show 1 ≤ sizeLine; decide), .inr ⟨x, ⟨0, rfl, fun i y hi e => absurd hi (Nat.not_lt_zero _), nx, _, htx⟩, fun d H4 s4 hd hdx => ?_⟩⟩
    have R4 : Same (core p B0) H4 := fun b o q => s4 b o (R b o q)
    refine ⟨d, x, dx, rfl, rfl, hdx, fun G s => (oddx.same (fun b o q => s b o (R4 b o q))).dq, oddx.sh, oddx.dep, oddx.len, fun C1 s5 => ?_⟩
    have sA := s4.trans s5
    have R : Same (core p B0) C1 := fun b o q => sA b o (R b o q)
    have hTT := hTT.ext sA
    have pc1 := sA _ _ pc1
    have pc2 := sA _ _ pc2
    have eL1 := sA _ _ eL1
    clear s4 s5 sA R4 hdx hd ox oy htx hty
    refine ⟨L1, _, _, rfl, rfl, eL1, (by show 1 < sizeLine; decide), ?_⟩
    have hTT := tabs_upd (ys := [V.str dx.shown] ++ [V.str dx.shown]) eL1 hTT
    have R : Same (core p B0) (upd C1 L1 (.lst ([V.str dx.shown] ++ [V.str dx.shown]))) := fun b o q => by rw [upd_ne (nb1 b o q)]; exact R b o q
    have pc1 : (upd C1 L1 (.lst ([V.str dx.shown] ++ [V.str dx.shown]))) p = _ := (upd_ne n1p.symm).trans pc1
    have pc2 : (upd C1 L1 (.lst ([V.str dx.shown] ++ [V.str dx.shown]))) cc = _ := (upd_ne ncL).trans pc2
    have eL1 : (upd C1 L1 (.lst ([V.str dx.shown] ++ [V.str dx.shown]))) L1 = some (.lst [V.str dx.shown, V.str dx.shown]) := upd_same
    generalize upd C1 L1 (.lst ([V.str dx.shown] ++ [V.str dx.shown])) = D1 at R hTT pc1 pc2 eL1 ⊢
    refine ⟨_, rfl, .inl ⟨rfl, _, SqL.of eL1⟩, hTT, fun A2 x2 hT2 => ?_⟩
    have hTT : LamX.Tabs [(P1, "_law_refused_right.<locals>.<lambda>")] A2 := hT2
    have R : Same (core p B0) A2 := fun b o q => core_ext x2 b o (core_up R b o q)
    have pc1 := x2 _ _ pc1 (fun _ z => nomatch z)
    have pc2 := x2 _ _ pc2 (fun _ z => nomatch z)
    have eL1 := x2 _ _ eL1 (fun _ z => nomatch z)
    have ox := oddx.same R
    have oy := oddy.same R
    obtain ⟨tx, htx⟩ := ox.nt
    obtain ⟨ty, hty⟩ := oy.nt
    refine ⟨_, rfl, _, rfl, (by show 3 ≤ sizeLine; decide), .inr ⟨y, ⟨1, rfl, fun i y hi e => (by
        match i, hi, e with
        | 0, _, e => cases e; exact ⟨by decide, _, .int _⟩), ny, _, hty⟩, fun d H4 s4 hd hdx => ?_⟩⟩
    have R4 : Same (core p B0) H4 := fun b o q => s4 b o (R b o q)
    refine ⟨d, y, dy, rfl, rfl, hdx, fun G s => (oddy.same (fun b o q => s b o (R4 b o q))).dq, oddy.sh, oddy.dep, oddy.len, fun C2 s5 => ?_⟩
    have sA := s4.trans s5
    have R : Same (core p B0) C2 := fun b o q => sA b o (R b o q)
    have hTT := hTT.ext sA
    have pc1 := sA _ _ pc1
    have pc2 := sA _ _ pc2
    have eL1 := sA _ _ eL1
    clear s4 s5 sA R4 hdx hd ox oy htx hty
    refine ⟨L1, _, _, rfl, rfl, eL1, (by show 2 < sizeLine; decide), ?_⟩
    have hTT := tabs_upd (ys := [V.str dx.shown, V.str dx.shown] ++ [V.str dy.shown]) eL1 hTT
    have R : Same (core p B0) (upd C2 L1 (.lst ([V.str dx.shown, V.str dx.shown] ++ [V.str dy.shown]))) := fun b o q => by rw [upd_ne (nb1 b o q)]; exact R b o q
    have pc1 : (upd C2 L1 (.lst ([V.str dx.shown, V.str dx.shown] ++ [V.str dy.shown]))) p = _ := (upd_ne n1p.symm).trans pc1
    have pc2 : (upd C2 L1 (.lst ([V.str dx.shown, V.str dx.shown] ++ [V.str dy.shown]))) cc = _ := (upd_ne ncL).trans pc2
    have eL1 : (upd C2 L1 (.lst ([V.str dx.shown, V.str dx.shown] ++ [V.str dy.shown]))) L1 = some (.lst [V.str dx.shown, V.str dx.shown, V.str dy.shown]) := upd_same
    generalize upd C2 L1 (.lst ([V.str dx.shown, V.str dx.shown] ++ [V.str dy.shown])) = D2 at R hTT pc1 pc2 eL1 ⊢
    refine ⟨_, rfl, .inl ⟨rfl, _, SqL.of eL1⟩, hTT, fun A3 x3 hT3 => ?_⟩
    have hTT : LamX.Tabs [(P1, "_law_refused_right.<locals>.<lambda>")] A3 := hT3
    have R : Same (core p B0) A3 := fun b o q => core_ext x3 b o (core_up R b o q)
    have pc1 := x3 _ _ pc1 (fun _ z => nomatch z)
    have pc2 := x3 _ _ pc2 (fun _ z => nomatch z)
    have eL1 := x3 _ _ eL1 (fun _ z => nomatch z)
    have ox := oddx.same R
    have oy := oddy.same R
    obtain ⟨tx, htx⟩ := ox.nt
    obtain ⟨ty, hty⟩ := oy.nt
    refine ⟨_, rfl, _, rfl, .inr (.inl ⟨x, y, tx, rfl, htx, nx, fun d H4 s4 hd hdx => ?_⟩)⟩
    have R4 : Same (core p B0) H4 := fun b o q => s4 b o (R b o q)
    refine ⟨d, x, dx, rfl, rfl, hdx, fun G s => (oddx.same (fun b o q => s b o (R4 b o q))).dq, oddx.sh, oddx.dep, oddx.len, fun C3 s5 => ?_⟩
    have sA := s4.trans s5
    have R : Same (core p B0) C3 := fun b o q => sA b o (R b o q)
    have hTT := hTT.ext sA
    have pc1 := sA _ _ pc1
    have pc2 := sA _ _ pc2
    have eL1 := sA _ _ eL1
    clear s4 s5 sA R4 hdx hd ox oy htx hty
    refine ⟨L1, _, _, rfl, rfl, eL1, (by show 3 < sizeLine; decide), ?_⟩
    have hTT := tabs_upd (ys := [V.str dx.shown, V.str dx.shown, V.str dy.shown] ++ [V.str dx.shown]) eL1 hTT
    have R : Same (core p B0) (upd C3 L1 (.lst ([V.str dx.shown, V.str dx.shown, V.str dy.shown] ++ [V.str dx.shown]))) := fun b o q => by rw [upd_ne (nb1 b o q)]; exact R b o q
    have pc1 : (upd C3 L1 (.lst ([V.str dx.shown, V.str dx.shown, V.str dy.shown] ++ [V.str dx.shown]))) p = _ := (upd_ne n1p.symm).trans pc1
    have pc2 : (upd C3 L1 (.lst ([V.str dx.shown, V.str dx.shown, V.str dy.shown] ++ [V.str dx.shown]))) cc = _ := (upd_ne ncL).trans pc2
    have eL1 : (upd C3 L1 (.lst ([V.str dx.shown, V.str dx.shown, V.str dy.shown] ++ [V.str dx.shown]))) L1 = some (.lst [V.str dx.shown, V.str dx.shown, V.str dy.shown, V.str dx.shown]) := upd_same
    generalize upd C3 L1 (.lst ([V.str dx.shown, V.str dx.shown, V.str dy.shown] ++ [V.str dx.shown])) = D3 at R hTT pc1 pc2 eL1 ⊢
    refine ⟨_, rfl, .inl ⟨rfl, _, SqL.of eL1⟩, hTT, fun A4 x4 hT4 => ?_⟩
    have hTT : LamX.Tabs [(P1, "_law_refused_right.<locals>.<lambda>")] A4 := hT4
    have R : Same (core p B0) A4 := fun b o q => core_ext x4 b o (core_up R b o q)
    have pc1 := x4 _ _ pc1 (fun _ z => nomatch z)
    have pc2 := x4 _ _ pc2 (fun _ z => nomatch z)
    have eL1 := x4 _ _ eL1 (fun _ z => nomatch z)
    have ox := oddx.same R
    have oy := oddy.same R
    obtain ⟨tx, htx⟩ := ox.nt
    obtain ⟨ty, hty⟩ := oy.nt
    refine ⟨_, rfl, .inr (.inr ⟨4, y, ty, rfl, hty, ny, fun d H4 s4 hd hdx => ?_⟩)⟩
    have R4 : Same (core p B0) H4 := fun b o q => s4 b o (R b o q)
    refine ⟨d, y, dy, rfl, rfl, hdx, fun G s => (oddy.same (fun b o q => s b o (R4 b o q))).dq, oddy.sh, oddy.dep, oddy.len, fun C4 s5 => ?_⟩
    have sA := s4.trans s5
    have R : Same (core p B0) C4 := fun b o q => sA b o (R b o q)
    have hTT := hTT.ext sA
    have pc1 := sA _ _ pc1
    have pc2 := sA _ _ pc2
    have eL1 := sA _ _ eL1
    clear s4 s5 sA R4 hdx hd ox oy htx hty
    refine ⟨L1, _, _, rfl, rfl, eL1, (by show 4 < sizeLine; decide), ?_⟩
    have hTT := tabs_upd (ys := [V.str dx.shown, V.str dx.shown, V.str dy.shown, V.str dx.shown] ++ [V.str dy.shown]) eL1 hTT
    have R : Same (core p B0) (upd C4 L1 (.lst ([V.str dx.shown, V.str dx.shown, V.str dy.shown, V.str dx.shown] ++ [V.str dy.shown]))) := fun b o q => by rw [upd_ne (nb1 b o q)]; exact R b o q
    have pc1 : (upd C4 L1 (.lst ([V.str dx.shown, V.str dx.shown, V.str dy.shown, V.str dx.shown] ++ [V.str dy.shown]))) p = _ := (upd_ne n1p.symm).trans pc1
    have pc2 : (upd C4 L1 (.lst ([V.str dx.shown, V.str dx.shown, V.str dy.shown, V.str dx.shown] ++ [V.str dy.shown]))) cc = _ := (upd_ne ncL).trans pc2
    have eL1 : (upd C4 L1 (.lst ([V.str dx.shown, V.str dx.shown, V.str dy.shown, V.str dx.shown] ++ [V.str dy.shown]))) L1 = some (.lst [V.str dx.shown, V.str dx.shown, V.str dy.shown, V.str dx.shown, V.str dy.shown]) := upd_same
    generalize upd C4 L1 (.lst ([V.str dx.shown, V.str dx.shown, V.str dy.shown, V.str dx.shown] ++ [V.str dy.shown])) = D4 at R hTT pc1 pc2 eL1 ⊢
    have ox := oddx.same R
    have oy := oddy.same R
    refine ⟨_, rfl, _, rfl, x, dx, rfl, ox.dq, ox.sh, ox.dep, .inr ox.len, _, rfl, x, dx, rfl, ox.dq, ox.sh, ox.dep, .inr ox.len, _, rfl, y, dy, rfl, oy.dq, oy.sh, oy.dep, .inr oy.len, _, rfl, x, dx, rfl, ox.dq, ox.sh, ox.dep, .inr ox.len, _, rfl, y, dy, rfl, oy.dq, oy.sh, oy.dep, .inr oy.len, (by show 5 ≤ sizeLine; decide), fun L2 hL2 => ?_⟩
    have s7 := same_new (o := .lst [V.str dx.shown, V.str dx.shown, V.str dy.shown, V.str dx.shown, V.str dy.shown]) hL2
    refine ⟨(.list [.str dx.shown, .str dx.shown, .str dy.shown, .str dx.shown, .str dy.shown]), (.list [.str dx.shown, .str dx.shown, .str dy.shown, .str dx.shown, .str dy.shown]), .lst (SqL.of (s7 _ _ eL1)) (.cons (.str _) (.cons (.str _) (.cons (.str _) (.cons (.str _) (.cons (.str _) .nil))))), .lst (SqL.of upd_same) (.cons (.str _) (.cons (.str _) (.cons (.str _) (.cons (.str _) (.cons (.str _) .nil))))), shaped5 okX okY, shaped5 okX okY, _, rfl, if_false_of (by rw [eqv5]; rfl) ?_⟩
    have R := fun b o (q : core p B0 b = some o) => s7 b o (R b o q)
    have hTT := hTT.ext s7
    have pc1 := s7 _ _ pc1
    have pc2 := s7 _ _ pc2
    have hPZ : Pen (upd D4 L2 (.lst [V.str dx.shown, V.str dx.shown, V.str dy.shown, V.str dx.shown, V.str dy.shown])) p (n + 2) := ⟨cc, ns, ci, cg, pc1, pc2, pc3⟩
    generalize upd D4 L2 (.lst [V.str dx.shown, V.str dx.shown, V.str dy.shown, V.str dx.shown, V.str dy.shown]) = Z at s7 R hTT pc1 pc2 hPZ ⊢
    obtain ⟨tx, htx⟩ := (oddx.same R).nt
    refine ⟨_, rfl, x, tx, rfl, htx, ?_⟩
    rw [intB_nt htx, nx]
    refine ⟨_, _, rfl, rfl, _, rfl, if_true_of (by decide) ?_⟩
    refine ⟨_, rfl, p, 9, n + 2, rfl, by decide, by decide, hPZ, by omega, fun r HE r0 r1 hPE fE => ?_⟩
    have hTE := tabs_fr fE hPZ hTT
    refine ⟨_, _, rfl, rfl, V.int (r - 4), _, rfl, .int _, _, _, rfl, rfl, _, rfl, if_true_of (by decide) ?_⟩
    refine ⟨_, _, rfl, rfl, ⟨by decide, by decide, by decide⟩, _, _, rfl, rfl, ⟨by decide, by decide, by decide⟩, _, _, rfl, rfl, wide_mul (a := 200) (b := 200) (by decide +kernel) (by decide +kernel) (by decide) (by decide) (by decide), ?_⟩
    refine ⟨V.int _, _, rfl, .int _, _, _, rfl, rfl, ?_⟩
    exact k _ hPE hTE

--CUT
def spFifty : Sp := fun vs H Q _ => ∃ z : Int, vs = [.int z] ∧ ∀ H', Same H H' → Q (.int (NM.gcdL [8, 8, 8, 8, 8, 8, 8, 8, 8, 8, 8, 8, 8, 8, 8, 8, 8, 8, 8, 8, 8, 8, 8, 8, 8, 8, 8, 8, 8, 8, 8, 8, 8, 8, 8, 8, 8, 8, 8, 8, 8, 8, 8, 8, 8, 8, 8, 8, 8, z])) H'
theorem ok_fifty (T : Txt K mg) : FnOk P w K mg base CX0 8 T.a_fifty T.fd_fifty ["_law_last"] spFifty := by
  refine T.F_fifty.ok sc_fifty (fun vs H Q E h => ?_) (fun cdv A outer s H vs Q E hr h => ?_)
  · obtain ⟨z, rfl, _⟩ := h; rfl
  · obtain ⟨z, rfl, k⟩ := h
    refine ⟨_, pss_one (ps_ret (pe_callR (ok_common T) (hr.mono (by decide)) T.F_common.kp rfl T.m_common passL (pa_cons (pe_int) (pa_cons (pe_int) (pa_cons (pe_int) (pa_cons (pe_int) (pa_cons (pe_int) (pa_cons (pe_int) (pa_cons (pe_int) (pa_cons (pe_int) (pa_cons (pe_int) (pa_cons (pe_int) (pa_cons (pe_int) (pa_cons (pe_int) (pa_cons (pe_int) (pa_cons (pe_int) (pa_cons (pe_int) (pa_cons (pe_int) (pa_cons (pe_int) (pa_cons (pe_int) (pa_cons (pe_int) (pa_cons (pe_int) (pa_cons (pe_int) (pa_cons (pe_int) (pa_cons (pe_int) (pa_cons (pe_int) (pa_cons (pe_int) (pa_cons (pe_int) (pa_cons (pe_int) (pa_cons (pe_int) (pa_cons (pe_int) (pa_cons (pe_int) (pa_cons (pe_int) (pa_cons (pe_int) (pa_cons (pe_int) (pa_cons (pe_int) (pa_cons (pe_int) (pa_cons (pe_int) (pa_cons (pe_int) (pa_cons (pe_int) (pa_cons (pe_int) (pa_cons (pe_int) (pa_cons (pe_int) (pa_cons (pe_int) (pa_cons (pe_int) (pa_cons (pe_int) (pa_cons (pe_int) (pa_cons (pe_int) (pa_cons (pe_int) (pa_cons (pe_int) (pa_cons (pe_int) (pa_cons (pv 0) (pa_nil))))))))))))))))))))))))))))))))))))))))))))))))))))), ?_⟩
    exact ⟨_, rfl, (by show 50 ≤ sizeLine; decide), .inl ⟨[8, 8, 8, 8, 8, 8, 8, 8, 8, 8, 8, 8, 8, 8, 8, 8, 8, 8, 8, 8, 8, 8, 8, 8, 8, 8, 8, 8, 8, 8, 8, 8, 8, 8, 8, 8, 8, 8, 8, 8, 8, 8, 8, 8, 8, 8, 8, 8, 8, z], rfl, k⟩⟩
def spLaw (K : PySem.W.Frag) (P1 : Addr) : Sp := fun vs H Q _ => ∃ (a : Addr) (ns : List Int), vs = [.ref a] ∧ SqL K H a (ns.map V.int) ∧ ns.length ≤ 63 ∧ LamX.Tabs [(P1, "_law_refused_right.<locals>.<lambda>")] H ∧ ∀ H', Q (.bl true) H'
theorem ok_law (T : Txt K mg) (B : Caught K mg T.bad.C) {c P1 : Addr} {oc : Value} {od an : Option Addr} {osl : Array (Option Value)} {kV doc pm ct : Value}
    (lk : K.lookup T.a_refused_right = some ⟨oc, od, .func (PySem.W.fnOf "_law_refused_right" "_law_refused_right" (defArgs s_refused_right) (defBody s_refused_right) (defScope s_refused_right) .none kV doc pm an (.ref c) ct), osl⟩) (hcd : PySem.W.codeIn K (.ref c) "_law_refused_right" = true)
    (TB : LamX.TabB base mg c P1) : FnG P w K mg base CX0 12 T.a_law (spLaw K P1) := by
  have OR := ok_refused_right (P := P) (w := w) T B lk hcd ((fun_mk (st := s_refused_right) lk hcd T.F_refused_right.kp).binds (ps := ["_law_pen_here"]) fun _ _ _ _ _ _ us hl => match us, hl with | [_], _ => rfl) TB
  have KR := T.F_refused_right.kp
  have MR := T.m_refused_right
  refine FnG.mk0 T.F_law sc_law (b_law T) (fun vs H Q E h => ?_) (fun cdv A outer s H vs Q E gu hr h => ?_)
  · obtain ⟨a, ns, rfl, _⟩ := h; rfl
  · obtain ⟨a, ns, rfl, hS, hl, hT, k⟩ := h
    refine ⟨_, pss_cons (ps_set (i := 1) sc_law.nd rfl (Or.inl rfl) (pe_call (ok_pen T) (hr.mono (by decide)) rfl T.m_pen T.F_pen.kp (b_pen T) .nil pass0 (pa_cons (pv 0) (pa_nil))))
      (pss_cons (ps_for PassesOwn.never rfl (pi_range1 (by rfl) T.n_range (pa_cons (pe_int) (pa_nil))) (pg_name (i := 2) sc_law.nd rfl (Or.inl rfl)) (pss_one (ps_if (PW.pt (pw_or (pt_not (pt_val (pe_callG gu (ok_numbers_right T) (hr.mono (by decide)) T.F_numbers_right.kp rfl T.m_numbers_right pass0 (pa_cons (pv 1) (pa_nil))))) (pw_or (pt_not (pt_val (pe_callG gu (ok_apart_right T) (hr.mono (by decide)) T.F_apart_right.kp rfl T.m_apart_right pass0 (pa_cons (pv 1) (pa_nil))))) (pw_or1 (pt_not (pt_val (pe_callG gu OR (hr.mono (by decide)) KR rfl MR pass0 (pa_cons (pv 1) (pa_nil))))))))) (pss_one (ps_ret (pe_bl))) (pss_nil))))
      (pss_cons (ps_set (i := 3) sc_law.nd rfl (Or.inl rfl) (pe_lst (pa_cons (pe_callR (ok_common T) (hr.mono (by decide)) T.F_common.kp rfl T.m_common passL (pa_cons (pe_int) (pa_cons (pe_int) (pa_cons (pe_int) (pa_cons (pe_int) (pa_cons (pe_int) (pa_cons (pe_int) (pa_nil)))))))) (pa_cons (pe_callR (ok_common T) (hr.mono (by decide)) T.F_common.kp rfl T.m_common passL (pa_cons (pe_int) (pa_cons (pe_int) (pa_cons (pe_int) (pa_cons (pe_int) (pa_cons (pe_int) (pa_cons (pe_int) (pa_cons (pe_un un_neg (pe_int)) (pa_nil))))))))) (pa_cons (pe_callR (ok_multiple T) (hr.mono (by decide)) T.F_multiple.kp rfl T.m_multiple passL (pa_cons (pe_int) (pa_cons (pe_int) (pa_cons (pe_int) (pa_cons (pe_int) (pa_cons (pe_int) (pa_cons (pe_int) (pa_cons (pe_int) (pa_nil))))))))) (pa_nil))))))
      (pss_cons (ps_set (i := 3) sc_law.nd rfl (Or.inl rfl) (pe_op op_cat (pv 3) (pe_lst (pa_cons (pe_callR (ok_multiple T) (hr.mono (by decide)) T.F_multiple.kp rfl T.m_multiple passL (pa_cons (pe_int) (pa_cons (pe_int) (pa_cons (pe_int) (pa_cons (pe_int) (pa_cons (pe_int) (pa_cons (pe_int) (pa_cons (pe_int) (pa_cons (pe_int) (pa_cons (pe_int) (pa_cons (pe_int) (pa_nil)))))))))))) (pa_cons (pe_call (ok_fifty T) (hr.mono (by decide)) rfl T.m_fifty T.F_fifty.kp (b_fifty T) .nil pass0 (pa_cons (pe_int) (pa_nil))) (pa_cons (pe_call (ok_fifty T) (hr.mono (by decide)) rfl T.m_fifty T.F_fifty.kp (b_fifty T) .nil pass0 (pa_cons (pe_int) (pa_nil))) (pa_nil)))))))
      (pss_cons (ps_if (pt_cmpR (op_neD hr.units) (pv 3) (pe_lst (pa_cons (pe_int) (pa_cons (pe_int) (pa_cons (pe_int) (pa_cons (pe_int) (pa_cons (pe_int) (pa_cons (pe_int) (pa_nil)))))))) (nomark _)) (pss_one (ps_ret (pe_bl))) (pss_nil))
      (pss_one (ps_ret (pe_cmpR (op_eqD hr.units) (pe_lst (pa_cons (pe_callR (ok_common T) (hr.mono (by decide)) T.F_common.kp rfl T.m_common passL (pa_cons (pe_int) (pa_cons (pe_un un_neg (pe_int)) (pa_nil)))) (pa_cons (pe_callR0 (ok_common T) (hr.mono (by decide)) T.F_common.kp rfl T.m_common passL) (pa_cons (pe_callR (ok_common T) (hr.mono (by decide)) T.F_common.kp rfl T.m_common passL (pa_cons (pe_int) (pa_cons (pe_int) (pa_nil)))) (pa_cons (pe_callR (ok_common T) (hr.mono (by decide)) T.F_common.kp rfl T.m_common passL (pa_cons (pe_int) (pa_cons (pe_un un_neg (pe_int)) (pa_nil)))) (pa_cons (pe_callR (ok_multiple T) (hr.mono (by decide)) T.F_multiple.kp rfl T.m_multiple passL (pa_cons (pe_int) (pa_cons (pe_int) (pa_cons (pe_int) (pa_nil))))) (pa_cons (pe_callR0 (ok_multiple T) (hr.mono (by decide)) T.F_multiple.kp rfl T.m_multiple passL) (pa_nil)))))))) (pe_lst (pa_cons (pe_int) (pa_cons (pe_int) (pa_cons (pe_int) (pa_cons (pe_int) (pa_cons (pe_int) (pa_cons (pe_int) (pa_nil)))))))) (nomark _)))))))), ?_⟩
    refine ⟨_, rfl, a, ns, rfl, hS, hl, fun p H1 s1 hP => ?_⟩
    refine ⟨8, rfl, by decide, by decide, for_range (n := 8) (fun i σ H' => ∃ x2 x3 : Option V, σ = [some (.ref a), some (.ref p), x2, x3] ∧ Pen H' p (26 * i) ∧ LamX.Tabs [(P1, "_law_refused_right.<locals>.<lambda>")] H')
      ⟨_, _, rfl, hP, hT.ext s1⟩ ?_ ?_⟩
    · rintro i σ H2 hi ⟨x2, x3, rfl, hP2, hT2⟩
      refine ⟨_, rfl, p, 26 * i, rfl, hP2, by omega, fun H3 hP3 f3 => ⟨true, rfl, iteF ?_⟩⟩
      have hT3 := tabs_fr f3 hP2 hT2
      refine ⟨_, rfl, p, 26 * i + 20, rfl, hP3, by omega, fun H4 hP4 f4 => ⟨true, rfl, iteF ?_⟩⟩
      have hT4 := tabs_fr f4 hP3 hT3
      refine ⟨_, rfl, p, 26 * i + 20 + 3, rfl, hP4, by omega, hT4, fun H5 hP5 hT5 => ⟨true, rfl, iteF ?_⟩⟩
      exact ⟨_, _, rfl, hP5.mono (by omega), hT5⟩
    · rintro σ H2 ⟨x2, x3, rfl, hP2, hT2⟩
      refine ⟨(by show 6 ≤ sizeLine; decide), .inl ⟨[60, 30, 90, 120, 150, 210], rfl, fun W0 w0 => ?_⟩⟩
      rw [show ((NM.gcdL [60, 30, 90, 120, 150, 210] : Nat) : Int) = 30 from by decide +kernel]
      refine ⟨14, rfl, (by show 7 ≤ sizeLine; decide), .inl ⟨[60, 30, 90, 120, 150, 210, (-14)], rfl, fun W1 w1 => ?_⟩⟩
      rw [show ((NM.gcdL [60, 30, 90, 120, 150, 210, (-14)] : Nat) : Int) = 2 from by decide +kernel]
      refine ⟨(by show 7 ≤ sizeLine; decide), .inl ⟨[1, 2, 3, 4, 5, 6, 7], rfl, fun z hz => by
        simp only [List.mem_cons, List.not_mem_nil, or_false] at hz
        rcases hz with rfl | rfl | rfl | rfl | rfl | rfl | rfl <;> exact ⟨by decide, by decide +kernel⟩, by decide, fun W2 w2 => ?_⟩⟩
      rw [show ((NM.lcmL [1, 2, 3, 4, 5, 6, 7] : Nat) : Int) = 420 from by decide +kernel]
      refine ⟨(by show 3 ≤ sizeLine; decide), fun L1 hL1 => ?_⟩
      have zL1 := same_new (o := .lst [V.int 30, V.int 2, V.int 420]) hL1
      have eL1 : (upd W2 L1 (.lst [V.int 30, V.int 2, V.int 420])) L1 = some (.lst [V.int 30, V.int 2, V.int 420]) := upd_same
      generalize upd W2 L1 (.lst [V.int 30, V.int 2, V.int 420]) = XL1 at zL1 eL1  ⊢
      refine ⟨_, rfl, ?_⟩
      refine ⟨(by show 10 ≤ sizeLine; decide), .inl ⟨[1, 2, 3, 4, 5, 6, 7, 8, 9, 10], rfl, fun z hz => by
        simp only [List.mem_cons, List.not_mem_nil, or_false] at hz
        rcases hz with rfl | rfl | rfl | rfl | rfl | rfl | rfl | rfl | rfl | rfl <;> exact ⟨by decide, by decide +kernel⟩, by decide, fun W3 w3 => ?_⟩⟩
      rw [show ((NM.lcmL [1, 2, 3, 4, 5, 6, 7, 8, 9, 10] : Nat) : Int) = 2520 from by decide +kernel]
      have eL1 := w3 _ _ eL1
      refine ⟨6, rfl, fun W4 w4 => ?_⟩
      rw [show ((NM.gcdL [8, 8, 8, 8, 8, 8, 8, 8, 8, 8, 8, 8, 8, 8, 8, 8, 8, 8, 8, 8, 8, 8, 8, 8, 8, 8, 8, 8, 8, 8, 8, 8, 8, 8, 8, 8, 8, 8, 8, 8, 8, 8, 8, 8, 8, 8, 8, 8, 8, 6] : Nat) : Int) = 2 from by decide +kernel]
      have eL1 := w4 _ _ eL1
      refine ⟨0, rfl, fun W5 w5 => ?_⟩
      rw [show ((NM.gcdL [8, 8, 8, 8, 8, 8, 8, 8, 8, 8, 8, 8, 8, 8, 8, 8, 8, 8, 8, 8, 8, 8, 8, 8, 8, 8, 8, 8, 8, 8, 8, 8, 8, 8, 8, 8, 8, 8, 8, 8, 8, 8, 8, 8, 8, 8, 8, 8, 8, 0] : Nat) : Int) = 8 from by decide +kernel]
      have eL1 := w5 _ _ eL1
      refine ⟨(by show 3 ≤ sizeLine; decide), fun L2 hL2 => ?_⟩
      have zL2 := same_new (o := .lst [V.int 2520, V.int 2, V.int 8]) hL2
      have eL1 := zL2 _ _ eL1
      have eL2 : (upd W5 L2 (.lst [V.int 2520, V.int 2, V.int 8])) L2 = some (.lst [V.int 2520, V.int 2, V.int 8]) := upd_same
      generalize upd W5 L2 (.lst [V.int 2520, V.int 2, V.int 8]) = XL2 at zL2 eL2 eL1 ⊢
      refine ⟨L1, L2, _, _, rfl, rfl, eL1, eL2, (by show 3 + 3 ≤ sizeLine; decide), fun L3 hL3 => ?_⟩
      have eL3 : (upd XL2 L3 (.lst ([V.int 30, V.int 2, V.int 420] ++ [V.int 2520, V.int 2, V.int 8]))) L3 = some (.lst [V.int 30, V.int 2, V.int 420, V.int 2520, V.int 2, V.int 8]) := upd_same
      generalize upd XL2 L3 (.lst ([V.int 30, V.int 2, V.int 420] ++ [V.int 2520, V.int 2, V.int 8])) = XL3 at eL3 ⊢
      refine ⟨_, rfl, ?_⟩
      refine ⟨(by show 6 ≤ sizeLine; decide), fun L4 hL4 => ?_⟩
      have zL4 := same_new (o := .lst [V.int 30, V.int 2, V.int 420, V.int 2520, V.int 2, V.int 8]) hL4
      have eL3 := zL4 _ _ eL3
      have eL4 : (upd XL3 L4 (.lst [V.int 30, V.int 2, V.int 420, V.int 2520, V.int 2, V.int 8])) L4 = some (.lst [V.int 30, V.int 2, V.int 420, V.int 2520, V.int 2, V.int 8]) := upd_same
      generalize upd XL3 L4 (.lst [V.int 30, V.int 2, V.int 420, V.int 2520, V.int 2, V.int 8]) = XL4 at zL4 eL4 eL3 ⊢
      refine ⟨(.list ([30, 2, 420, 2520, 2, 8].map PyData.int)), (.list ([30, 2, 420, 2520, 2, 8].map PyData.int)), .lst (SqL.of eL3) (dp_ints [30, 2, 420, 2520, 2, 8]), .lst (SqL.of eL4) (dp_ints [30, 2, 420, 2520, 2, 8]), by decide +kernel, by decide +kernel, _, rfl, if_false_of (by decide +kernel) ?_⟩
      refine ⟨18, rfl, (by show 2 ≤ sizeLine; decide), .inl ⟨[12, (-18)], rfl, fun W6 w6 => ?_⟩⟩
      rw [show ((NM.gcdL [12, (-18)] : Nat) : Int) = 6 from by decide +kernel]
      refine ⟨(by show 0 ≤ sizeLine; decide), .inl ⟨[], rfl, fun W7 w7 => ?_⟩⟩
      rw [show ((NM.gcdL [] : Nat) : Int) = 0 from by decide +kernel]
      refine ⟨(by show 2 ≤ sizeLine; decide), .inl ⟨[0, 0], rfl, fun W8 w8 => ?_⟩⟩
      rw [show ((NM.gcdL [0, 0] : Nat) : Int) = 0 from by decide +kernel]
      refine ⟨5, rfl, (by show 2 ≤ sizeLine; decide), .inl ⟨[0, (-5)], rfl, fun W9 w9 => ?_⟩⟩
      rw [show ((NM.gcdL [0, (-5)] : Nat) : Int) = 5 from by decide +kernel]
      refine ⟨(by show 3 ≤ sizeLine; decide), .inl ⟨[4, 6, 10], rfl, fun z hz => by
        simp only [List.mem_cons, List.not_mem_nil, or_false] at hz
        rcases hz with rfl | rfl | rfl <;> exact ⟨by decide, by decide +kernel⟩, by decide, fun W10 w10 => ?_⟩⟩
      rw [show ((NM.lcmL [4, 6, 10] : Nat) : Int) = 60 from by decide +kernel]
      refine ⟨(by show 0 ≤ sizeLine; decide), .inl ⟨[], rfl, fun z hz => (List.not_mem_nil hz).elim, by decide, fun W11 w11 => ?_⟩⟩
      rw [show ((NM.lcmL [] : Nat) : Int) = 1 from by decide +kernel]
      refine ⟨(by show 6 ≤ sizeLine; decide), fun L5 hL5 => ?_⟩
      have zL5 := same_new (o := .lst [V.int 6, V.int 0, V.int 0, V.int 5, V.int 60, V.int 1]) hL5
      have eL5 : (upd W11 L5 (.lst [V.int 6, V.int 0, V.int 0, V.int 5, V.int 60, V.int 1])) L5 = some (.lst [V.int 6, V.int 0, V.int 0, V.int 5, V.int 60, V.int 1]) := upd_same
      generalize upd W11 L5 (.lst [V.int 6, V.int 0, V.int 0, V.int 5, V.int 60, V.int 1]) = XL5 at zL5 eL5  ⊢
      refine ⟨(by show 6 ≤ sizeLine; decide), fun L6 hL6 => ?_⟩
      have zL6 := same_new (o := .lst [V.int 6, V.int 0, V.int 0, V.int 5, V.int 60, V.int 1]) hL6
      have eL5 := zL6 _ _ eL5
      have eL6 : (upd XL5 L6 (.lst [V.int 6, V.int 0, V.int 0, V.int 5, V.int 60, V.int 1])) L6 = some (.lst [V.int 6, V.int 0, V.int 0, V.int 5, V.int 60, V.int 1]) := upd_same
      generalize upd XL5 L6 (.lst [V.int 6, V.int 0, V.int 0, V.int 5, V.int 60, V.int 1]) = XL6 at zL6 eL6 eL5 ⊢
      refine ⟨(.list ([6, 0, 0, 5, 60, 1].map PyData.int)), (.list ([6, 0, 0, 5, 60, 1].map PyData.int)), .lst (SqL.of eL5) (dp_ints [6, 0, 0, 5, 60, 1]), .lst (SqL.of eL6) (dp_ints [6, 0, 0, 5, 60, 1]), by decide +kernel, by decide +kernel, ?_⟩
      exact k _


end
theorem all_mk {l : PySem.W.OpenLaw} {w : World} {K : PySem.W.Frag} {h : Heap} {mg : Str → Option Value} {fa : Addr} (X : K.In h) (G : h.Ns mainGlobals mg) (hfa : mg "law" = some (.ref fa)) (tabs : ∀ x ∈ (["_law_refused_right"] : List Str), TabOf K mg h x)
    {f_is_whole : Addr} {od_is_whole an_is_whole : Option Addr} {sl_is_whole : Array (Option Value)} {oc_is_whole kV_is_whole dc_is_whole pm_is_whole cd_is_whole ct_is_whole : Value}
    {f_is_from : Addr} {od_is_from an_is_from : Option Addr} {sl_is_from : Array (Option Value)} {oc_is_from kV_is_from dc_is_from pm_is_from cd_is_from ct_is_from : Value}
    {f_common : Addr} {od_common an_common : Option Addr} {sl_common : Array (Option Value)} {oc_common kV_common dc_common pm_common cd_common ct_common : Value}
    {f_multiple : Addr} {od_multiple an_multiple : Option Addr} {sl_multiple : Array (Option Value)} {oc_multiple kV_multiple dc_multiple pm_multiple cd_multiple ct_multiple : Value}
    {f_apart : Addr} {od_apart an_apart : Option Addr} {sl_apart : Array (Option Value)} {oc_apart kV_apart dc_apart pm_apart cd_apart ct_apart : Value}
    {f_pen : Addr} {od_pen an_pen : Option Addr} {sl_pen : Array (Option Value)} {oc_pen kV_pen dc_pen pm_pen cd_pen ct_pen : Value}
    {f_draw : Addr} {od_draw an_draw : Option Addr} {sl_draw : Array (Option Value)} {oc_draw kV_draw dc_draw pm_draw cd_draw ct_draw : Value}
    {f_pick : Addr} {od_pick an_pick : Option Addr} {sl_pick : Array (Option Value)} {oc_pick kV_pick dc_pick pm_pick cd_pick ct_pick : Value}
    {f_heard : Addr} {od_heard an_heard : Option Addr} {sl_heard : Array (Option Value)} {oc_heard kV_heard dc_heard pm_heard cd_heard ct_heard : Value}
    {f_asked : Addr} {od_asked an_asked : Option Addr} {sl_asked : Array (Option Value)} {oc_asked kV_asked dc_asked pm_asked cd_asked ct_asked : Value}
    {f_by_common : Addr} {od_by_common an_by_common : Option Addr} {sl_by_common : Array (Option Value)} {oc_by_common kV_by_common dc_by_common pm_by_common cd_by_common ct_by_common : Value}
    {f_by_multiple : Addr} {od_by_multiple an_by_multiple : Option Addr} {sl_by_multiple : Array (Option Value)} {oc_by_multiple kV_by_multiple dc_by_multiple pm_by_multiple cd_by_multiple ct_by_multiple : Value}
    {f_by_apart : Addr} {od_by_apart an_by_apart : Option Addr} {sl_by_apart : Array (Option Value)} {oc_by_apart kV_by_apart dc_by_apart pm_by_apart cd_by_apart ct_by_apart : Value}
    {f_numbers_right : Addr} {od_numbers_right an_numbers_right : Option Addr} {sl_numbers_right : Array (Option Value)} {oc_numbers_right kV_numbers_right dc_numbers_right pm_numbers_right cd_numbers_right ct_numbers_right : Value}
    {f_apart_right : Addr} {od_apart_right an_apart_right : Option Addr} {sl_apart_right : Array (Option Value)} {oc_apart_right kV_apart_right dc_apart_right pm_apart_right cd_apart_right ct_apart_right : Value}
    {f_refused_right : Addr} {od_refused_right an_refused_right : Option Addr} {sl_refused_right : Array (Option Value)} {oc_refused_right kV_refused_right dc_refused_right pm_refused_right ct_refused_right : Value}
    {f_fifty : Addr} {od_fifty an_fifty : Option Addr} {sl_fifty : Array (Option Value)} {oc_fifty kV_fifty dc_fifty pm_fifty cd_fifty ct_fifty : Value}
    {f_law : Addr} {od_law an_law : Option Addr} {sl_law : Array (Option Value)} {oc_law kV_law dc_law pm_law cd_law ct_law : Value}
    {f_BadNumber_init : Addr} {od_BadNumber_init an_BadNumber_init : Option Addr} {sl_BadNumber_init : Array (Option Value)} {oc_BadNumber_init kV_BadNumber_init dc_BadNumber_init pm_BadNumber_init cd_BadNumber_init ct_BadNumber_init : Value}
    {C_BadNumber C_ReachError : Addr} {nmb qb : Str} {Nb : Addr} {bsb bmb : List Value} {snb : List Str} {subb : List Value} {abb : Bool} {colb : Option Bool} {ddb : Option Addr} {mb0 mb1 mb2 mb3 mb5 : Option Value}
    {cc_refused_right pp_refused_right : Addr} {e_refused_right : Value} {dd_refused_right : Option Addr} {vs_refused_right : Array Value} {sl2_refused_right : Array (Option Value)}
    (a_is_whole : PySem.W.nsIn K mainGlobals "is_whole" = some (some (.ref f_is_whole)))
    (l_is_whole : K.lookup f_is_whole = some ⟨oc_is_whole, od_is_whole, .func (PySem.W.fnOf "is_whole" "is_whole" (defArgs s_is_whole) (defBody s_is_whole) (defScope s_is_whole) .none kV_is_whole dc_is_whole pm_is_whole an_is_whole cd_is_whole ct_is_whole), sl_is_whole⟩)
    (c_is_whole : PySem.W.codeIn K cd_is_whole "is_whole" = true)
    (k_is_whole : PySem.W.keepIn K (.ref f_is_whole) = true)
    (a_is_from : PySem.W.nsIn K mainGlobals "is_from" = some (some (.ref f_is_from)))
    (l_is_from : K.lookup f_is_from = some ⟨oc_is_from, od_is_from, .func (PySem.W.fnOf "is_from" "is_from" (defArgs s_is_from) (defBody s_is_from) (defScope s_is_from) .none kV_is_from dc_is_from pm_is_from an_is_from cd_is_from ct_is_from), sl_is_from⟩)
    (c_is_from : PySem.W.codeIn K cd_is_from "is_from" = true)
    (k_is_from : PySem.W.keepIn K (.ref f_is_from) = true)
    (a_common : PySem.W.nsIn K mainGlobals "common" = some (some (.ref f_common)))
    (l_common : K.lookup f_common = some ⟨oc_common, od_common, .func (PySem.W.fnOf "common" "common" (defArgs s_common) (defBody s_common) (defScope s_common) .none kV_common dc_common pm_common an_common cd_common ct_common), sl_common⟩)
    (c_common : PySem.W.codeIn K cd_common "common" = true)
    (k_common : PySem.W.keepIn K (.ref f_common) = true)
    (a_multiple : PySem.W.nsIn K mainGlobals "multiple" = some (some (.ref f_multiple)))
    (l_multiple : K.lookup f_multiple = some ⟨oc_multiple, od_multiple, .func (PySem.W.fnOf "multiple" "multiple" (defArgs s_multiple) (defBody s_multiple) (defScope s_multiple) .none kV_multiple dc_multiple pm_multiple an_multiple cd_multiple ct_multiple), sl_multiple⟩)
    (c_multiple : PySem.W.codeIn K cd_multiple "multiple" = true)
    (k_multiple : PySem.W.keepIn K (.ref f_multiple) = true)
    (a_apart : PySem.W.nsIn K mainGlobals "apart" = some (some (.ref f_apart)))
    (l_apart : K.lookup f_apart = some ⟨oc_apart, od_apart, .func (PySem.W.fnOf "apart" "apart" (defArgs s_apart) (defBody s_apart) (defScope s_apart) .none kV_apart dc_apart pm_apart an_apart cd_apart ct_apart), sl_apart⟩)
    (c_apart : PySem.W.codeIn K cd_apart "apart" = true)
    (k_apart : PySem.W.keepIn K (.ref f_apart) = true)
    (a_pen : PySem.W.nsIn K mainGlobals "_law_pen" = some (some (.ref f_pen)))
    (l_pen : K.lookup f_pen = some ⟨oc_pen, od_pen, .func (PySem.W.fnOf "_law_pen" "_law_pen" (defArgs s_pen) (defBody s_pen) (defScope s_pen) .none kV_pen dc_pen pm_pen an_pen cd_pen ct_pen), sl_pen⟩)
    (c_pen : PySem.W.codeIn K cd_pen "_law_pen" = true)
    (k_pen : PySem.W.keepIn K (.ref f_pen) = true)
    (a_draw : PySem.W.nsIn K mainGlobals "_law_draw" = some (some (.ref f_draw)))
    (l_draw : K.lookup f_draw = some ⟨oc_draw, od_draw, .func (PySem.W.fnOf "_law_draw" "_law_draw" (defArgs s_draw) (defBody s_draw) (defScope s_draw) .none kV_draw dc_draw pm_draw an_draw cd_draw ct_draw), sl_draw⟩)
    (c_draw : PySem.W.codeIn K cd_draw "_law_draw" = true)
    (k_draw : PySem.W.keepIn K (.ref f_draw) = true)
    (a_pick : PySem.W.nsIn K mainGlobals "_law_pick" = some (some (.ref f_pick)))
    (l_pick : K.lookup f_pick = some ⟨oc_pick, od_pick, .func (PySem.W.fnOf "_law_pick" "_law_pick" (defArgs s_pick) (defBody s_pick) (defScope s_pick) .none kV_pick dc_pick pm_pick an_pick cd_pick ct_pick), sl_pick⟩)
    (c_pick : PySem.W.codeIn K cd_pick "_law_pick" = true)
    (k_pick : PySem.W.keepIn K (.ref f_pick) = true)
    (a_heard : PySem.W.nsIn K mainGlobals "_law_heard" = some (some (.ref f_heard)))
    (l_heard : K.lookup f_heard = some ⟨oc_heard, od_heard, .func (PySem.W.fnOf "_law_heard" "_law_heard" (defArgs s_heard) (defBody s_heard) (defScope s_heard) .none kV_heard dc_heard pm_heard an_heard cd_heard ct_heard), sl_heard⟩)
    (c_heard : PySem.W.codeIn K cd_heard "_law_heard" = true)
    (k_heard : PySem.W.keepIn K (.ref f_heard) = true)
    (a_asked : PySem.W.nsIn K mainGlobals "_law_asked" = some (some (.ref f_asked)))
    (l_asked : K.lookup f_asked = some ⟨oc_asked, od_asked, .func (PySem.W.fnOf "_law_asked" "_law_asked" (defArgs s_asked) (defBody s_asked) (defScope s_asked) .none kV_asked dc_asked pm_asked an_asked cd_asked ct_asked), sl_asked⟩)
    (c_asked : PySem.W.codeIn K cd_asked "_law_asked" = true)
    (k_asked : PySem.W.keepIn K (.ref f_asked) = true)
    (a_by_common : PySem.W.nsIn K mainGlobals "_law_common" = some (some (.ref f_by_common)))
    (l_by_common : K.lookup f_by_common = some ⟨oc_by_common, od_by_common, .func (PySem.W.fnOf "_law_common" "_law_common" (defArgs s_by_common) (defBody s_by_common) (defScope s_by_common) .none kV_by_common dc_by_common pm_by_common an_by_common cd_by_common ct_by_common), sl_by_common⟩)
    (c_by_common : PySem.W.codeIn K cd_by_common "_law_common" = true)
    (k_by_common : PySem.W.keepIn K (.ref f_by_common) = true)
    (a_by_multiple : PySem.W.nsIn K mainGlobals "_law_multiple" = some (some (.ref f_by_multiple)))
    (l_by_multiple : K.lookup f_by_multiple = some ⟨oc_by_multiple, od_by_multiple, .func (PySem.W.fnOf "_law_multiple" "_law_multiple" (defArgs s_by_multiple) (defBody s_by_multiple) (defScope s_by_multiple) .none kV_by_multiple dc_by_multiple pm_by_multiple an_by_multiple cd_by_multiple ct_by_multiple), sl_by_multiple⟩)
    (c_by_multiple : PySem.W.codeIn K cd_by_multiple "_law_multiple" = true)
    (k_by_multiple : PySem.W.keepIn K (.ref f_by_multiple) = true)
    (a_by_apart : PySem.W.nsIn K mainGlobals "_law_apart" = some (some (.ref f_by_apart)))
    (l_by_apart : K.lookup f_by_apart = some ⟨oc_by_apart, od_by_apart, .func (PySem.W.fnOf "_law_apart" "_law_apart" (defArgs s_by_apart) (defBody s_by_apart) (defScope s_by_apart) .none kV_by_apart dc_by_apart pm_by_apart an_by_apart cd_by_apart ct_by_apart), sl_by_apart⟩)
    (c_by_apart : PySem.W.codeIn K cd_by_apart "_law_apart" = true)
    (k_by_apart : PySem.W.keepIn K (.ref f_by_apart) = true)
    (a_numbers_right : PySem.W.nsIn K mainGlobals "_law_numbers_right" = some (some (.ref f_numbers_right)))
    (l_numbers_right : K.lookup f_numbers_right = some ⟨oc_numbers_right, od_numbers_right, .func (PySem.W.fnOf "_law_numbers_right" "_law_numbers_right" (defArgs s_numbers_right) (defBody s_numbers_right) (defScope s_numbers_right) .none kV_numbers_right dc_numbers_right pm_numbers_right an_numbers_right cd_numbers_right ct_numbers_right), sl_numbers_right⟩)
    (c_numbers_right : PySem.W.codeIn K cd_numbers_right "_law_numbers_right" = true)
    (k_numbers_right : PySem.W.keepIn K (.ref f_numbers_right) = true)
    (a_apart_right : PySem.W.nsIn K mainGlobals "_law_apart_right" = some (some (.ref f_apart_right)))
    (l_apart_right : K.lookup f_apart_right = some ⟨oc_apart_right, od_apart_right, .func (PySem.W.fnOf "_law_apart_right" "_law_apart_right" (defArgs s_apart_right) (defBody s_apart_right) (defScope s_apart_right) .none kV_apart_right dc_apart_right pm_apart_right an_apart_right cd_apart_right ct_apart_right), sl_apart_right⟩)
    (c_apart_right : PySem.W.codeIn K cd_apart_right "_law_apart_right" = true)
    (k_apart_right : PySem.W.keepIn K (.ref f_apart_right) = true)
    (a_refused_right : PySem.W.nsIn K mainGlobals "_law_refused_right" = some (some (.ref f_refused_right)))
    (l_refused_right : K.lookup f_refused_right = some ⟨oc_refused_right, od_refused_right, .func (PySem.W.fnOf "_law_refused_right" "_law_refused_right" (defArgs s_refused_right) (defBody s_refused_right) (defScope s_refused_right) .none kV_refused_right dc_refused_right pm_refused_right an_refused_right (.ref cc_refused_right) ct_refused_right), sl_refused_right⟩)
    (c_refused_right : PySem.W.codeIn K (.ref cc_refused_right) "_law_refused_right" = true)
    (k_refused_right : PySem.W.keepIn K (.ref f_refused_right) = true)
    (a_fifty : PySem.W.nsIn K mainGlobals "_law_fifty" = some (some (.ref f_fifty)))
    (l_fifty : K.lookup f_fifty = some ⟨oc_fifty, od_fifty, .func (PySem.W.fnOf "_law_fifty" "_law_fifty" (defArgs s_fifty) (defBody s_fifty) (defScope s_fifty) .none kV_fifty dc_fifty pm_fifty an_fifty cd_fifty ct_fifty), sl_fifty⟩)
    (c_fifty : PySem.W.codeIn K cd_fifty "_law_fifty" = true)
    (k_fifty : PySem.W.keepIn K (.ref f_fifty) = true)
    (a_law : PySem.W.nsIn K mainGlobals "law" = some (some (.ref f_law)))
    (l_law : K.lookup f_law = some ⟨oc_law, od_law, .func (PySem.W.fnOf "law" "law" (defArgs s_law) (defBody s_law) (defScope s_law) .none kV_law dc_law pm_law an_law cd_law ct_law), sl_law⟩)
    (c_law : PySem.W.codeIn K cd_law "law" = true)
    (k_law : PySem.W.keepIn K (.ref f_law) = true)
    (a_BadNumber_init : PySem.W.findIn K (.ref C_BadNumber) "__init__" = some (some (.ref f_BadNumber_init)))
    (l_BadNumber_init : K.lookup f_BadNumber_init = some ⟨oc_BadNumber_init, od_BadNumber_init, .func (PySem.W.fnOf "__init__" "BadNumber.__init__" (defArgs s_BadNumber_init) (defBody s_BadNumber_init) (defScope s_BadNumber_init) .none kV_BadNumber_init dc_BadNumber_init pm_BadNumber_init an_BadNumber_init cd_BadNumber_init ct_BadNumber_init), sl_BadNumber_init⟩)
    (c_BadNumber_init : PySem.W.codeIn K cd_BadNumber_init "BadNumber.__init__" = true)
    (k_BadNumber_init : PySem.W.keepIn K (.ref f_BadNumber_init) = true)
    (i_gcd : PySem.W.nsIn K mainGlobals "gcd" = some (some (.builtin "math.gcd")))
    (z_ValueError : PySem.W.nsIn K mainGlobals "ValueError" = some none)
    (z_abs : PySem.W.nsIn K mainGlobals "abs" = some none)
    (z_bool : PySem.W.nsIn K mainGlobals "bool" = some none)
    (z_int : PySem.W.nsIn K mainGlobals "int" = some none)
    (z_isinstance : PySem.W.nsIn K mainGlobals "isinstance" = some none)
    (z_len : PySem.W.nsIn K mainGlobals "len" = some none)
    (z_list : PySem.W.nsIn K mainGlobals "list" = some none)
    (z_min : PySem.W.nsIn K mainGlobals "min" = some none)
    (z_range : PySem.W.nsIn K mainGlobals "range" = some none)
    (z_repr : PySem.W.nsIn K mainGlobals "repr" = some none)
    (t_refused_right : K.lookup cc_refused_right = some ⟨e_refused_right, dd_refused_right, .fields vs_refused_right, sl2_refused_right⟩)
    (p_refused_right : vs_refused_right[11]? = some (.ref pp_refused_right))
    (q_refused_right : K.lookup pp_refused_right = Option.none)
    (x_C : PySem.W.nsIn K mainGlobals "BadNumber" = some (some (.ref C_BadNumber)))
    (x_R : PySem.W.nsIn K mainGlobals "ReachError" = some (some (.ref C_ReachError)))
    (x_L : K.lookup C_BadNumber = some (excClassObj nmb qb C_BadNumber Nb bsb bmb true snb subb abb colb ddb mb0 mb1 mb2 mb3 mb5 "ValueError.__new__"))
    (x_b : PySem.HandSPX.refsVE bmb = true)
    (x_sa : PySem.W.findIn K (.ref C_BadNumber) "__setattr__" = some (some (.builtin "object.__setattr__")))
    (x_ex : PySem.W.subIn K (.ref C_BadNumber) (.type "BaseException") = some true)
    (x_ty : PySem.W.typeIn K (.ref C_BadNumber) = some (.type "type"))
    (x_k : PySem.W.keepIn K (.ref C_BadNumber) = true)
    (x_tI : PySem.W.typeIn K (.ref f_BadNumber_init) = some (.type "function"))
    (x_no : PySem.W.findIn K (.ref C_BadNumber) "value" = some Option.none)
    (x_cl : PySem.W.isClsIn K C_BadNumber = true)
    (x_ga : PySem.W.findIn K (.ref C_BadNumber) "__getattribute__" = some (some (.builtin "BaseException.__getattribute__")))
    (x_gg : PySem.W.findIn K (.ref C_BadNumber) "__getattr__" = some Option.none)
    (x_hd : PySem.W.hasDictIn K C_BadNumber = true)
    (x_ha : PySem.W.findIn K (.ref C_BadNumber) "__class__" = some (some (.builtin "object.__class__")))
    (x_hn : PySem.W.specialIn K (.builtin "object.__class__") "__get__" = some (some (.builtin "getset_descriptor.__get__")))
    (x_ht : PySem.W.takesIn K (.builtin "object.__class__") = some true)
    (x_hm : PySem.W.mroIn K C_BadNumber (.type "object") = some true)
    (x_Rx : PySem.W.subIn K (.ref C_ReachError) (.type "BaseException") = some true)
    (x_Rh : PySem.W.hasDictIn K C_ReachError = true)
    (x_Rt : PySem.W.typeIn K (.ref C_ReachError) = some (.type "type"))
    (x_RC : PySem.W.subIn K (.ref C_BadNumber) (.ref C_ReachError) = some true)
    (x_k1 : PySem.W.kitOne K (.ref C_BadNumber) (.ref C_BadNumber) = some true)
    (x_k2 : PySem.W.kitOne K (.ref C_BadNumber) (.type "ValueError") = some true) :
    LawG l w K 12 mg fa h := by
  have e := hfa.symm.trans (PySem.W.mg_of X G a_law)
  cases e
  obtain ⟨hP_refused_right, hd_refused_right⟩ := tabs "_law_refused_right" (by decide) f_refused_right cc_refused_right pp_refused_right _ _ _ _ _ _ (PySem.W.mg_of X G a_refused_right) l_refused_right rfl rfl t_refused_right p_refused_right
  let T : Txt K mg := { a_is_whole := f_is_whole, fd_is_whole := _, F_is_whole := fun_mk (st := s_is_whole) l_is_whole c_is_whole k_is_whole, m_is_whole := PySem.W.mg_of X G a_is_whole, a_is_from := f_is_from, fd_is_from := _, F_is_from := fun_mk (st := s_is_from) l_is_from c_is_from k_is_from, m_is_from := PySem.W.mg_of X G a_is_from, a_common := f_common, fd_common := _, F_common := fun_mk (st := s_common) l_common c_common k_common, m_common := PySem.W.mg_of X G a_common, a_multiple := f_multiple, fd_multiple := _, F_multiple := fun_mk (st := s_multiple) l_multiple c_multiple k_multiple, m_multiple := PySem.W.mg_of X G a_multiple, a_apart := f_apart, fd_apart := _, F_apart := fun_mk (st := s_apart) l_apart c_apart k_apart, m_apart := PySem.W.mg_of X G a_apart, a_pen := f_pen, fd_pen := _, F_pen := fun_mk (st := s_pen) l_pen c_pen k_pen, m_pen := PySem.W.mg_of X G a_pen, a_draw := f_draw, fd_draw := _, F_draw := fun_mk (st := s_draw) l_draw c_draw k_draw, m_draw := PySem.W.mg_of X G a_draw, a_pick := f_pick, fd_pick := _, F_pick := fun_mk (st := s_pick) l_pick c_pick k_pick, m_pick := PySem.W.mg_of X G a_pick, a_heard := f_heard, fd_heard := _, F_heard := fun_mk (st := s_heard) l_heard c_heard k_heard, m_heard := PySem.W.mg_of X G a_heard, a_asked := f_asked, fd_asked := _, F_asked := fun_mk (st := s_asked) l_asked c_asked k_asked, m_asked := PySem.W.mg_of X G a_asked, a_by_common := f_by_common, fd_by_common := _, F_by_common := fun_mk (st := s_by_common) l_by_common c_by_common k_by_common, m_by_common := PySem.W.mg_of X G a_by_common, a_by_multiple := f_by_multiple, fd_by_multiple := _, F_by_multiple := fun_mk (st := s_by_multiple) l_by_multiple c_by_multiple k_by_multiple, m_by_multiple := PySem.W.mg_of X G a_by_multiple, a_by_apart := f_by_apart, fd_by_apart := _, F_by_apart := fun_mk (st := s_by_apart) l_by_apart c_by_apart k_by_apart, m_by_apart := PySem.W.mg_of X G a_by_apart, a_numbers_right := f_numbers_right, fd_numbers_right := _, F_numbers_right := fun_mk (st := s_numbers_right) l_numbers_right c_numbers_right k_numbers_right, m_numbers_right := PySem.W.mg_of X G a_numbers_right, a_apart_right := f_apart_right, fd_apart_right := _, F_apart_right := fun_mk (st := s_apart_right) l_apart_right c_apart_right k_apart_right, m_apart_right := PySem.W.mg_of X G a_apart_right, a_refused_right := f_refused_right, fd_refused_right := _, F_refused_right := fun_mk (st := s_refused_right) l_refused_right c_refused_right k_refused_right, m_refused_right := PySem.W.mg_of X G a_refused_right, a_fifty := f_fifty, fd_fifty := _, F_fifty := fun_mk (st := s_fifty) l_fifty c_fifty k_fifty, m_fifty := PySem.W.mg_of X G a_fifty, a_law := fa, fd_law := _, F_law := fun_mk (st := s_law) l_law c_law k_law, m_law := PySem.W.mg_of X G a_law, a_BadNumber_init := f_BadNumber_init, fd_BadNumber_init := _, F_BadNumber_init := fun_mk (st := s_BadNumber_init) l_BadNumber_init c_BadNumber_init k_BadNumber_init, m_gcd := PySem.W.mg_of X G i_gcd, n_ValueError := PySem.W.mg_none_of X G z_ValueError, n_abs := PySem.W.mg_none_of X G z_abs, n_bool := PySem.W.mg_none_of X G z_bool, n_int := PySem.W.mg_none_of X G z_int, n_isinstance := PySem.W.mg_none_of X G z_isinstance, n_len := PySem.W.mg_none_of X G z_len, n_list := PySem.W.mg_none_of X G z_list, n_min := PySem.W.mg_none_of X G z_min, n_range := PySem.W.mg_none_of X G z_range, n_repr := PySem.W.mg_none_of X G z_repr, bad := { C := C_BadNumber, f := f_BadNumber_init, fd := _, oex := ⟨⟨_, _, _, _, _, _, _, _, _, _, _, _, _, _, _, x_L, x_b⟩, x_sa, x_ex, x_ty, x_k⟩, iC := a_BadNumber_init, tI := x_tI, F := fun_mk (st := s_BadNumber_init) l_BadNumber_init c_BadNumber_init k_BadNumber_init, no := x_no, m := PySem.W.mg_of X G x_C } }
  have B : Caught K mg T.bad.C := { R := C_ReachError, m_R := PySem.W.mg_of X G x_R, ex := PySem.W.exm_ref x_Rx x_Rh x_Rt x_RC, err := ⟨x_cl, x_ga, x_gg, x_ex, x_hd, x_ha, x_hn, x_ht, x_hm⟩, k1 := x_k1, k2 := x_k2 }
  refine ⟨[(cc_refused_right, pp_refused_right)], spLaw K pp_refused_right, fun p hp => ?_, fun p hp => ?_, fun p hp => ?_, fun H a ns hl hb tt hS => ⟨a, ns, rfl, hS, hl, fun p hp => ?_, fun _ => rfl⟩, fun base KB NB TBs => ?_⟩
  · rw [List.mem_singleton.mp hp]; exact hP_refused_right
  · rw [List.mem_singleton.mp hp]; exact q_refused_right
  · rw [List.mem_singleton.mp hp]; exact hd_refused_right
  · rw [List.mem_singleton.mp hp]; exact LamX.TabS.nil (tt (cc_refused_right, pp_refused_right) List.mem_cons_self)
  · exact ok_law T B l_refused_right c_refused_right (TBs (cc_refused_right, pp_refused_right) List.mem_cons_self)
end My
open PySem PySem.W PyProof.Rows in
set_option maxRecDepth 100000 in
set_option maxHeartbeats 0 in
theorem PySem.Challenge.cw_wheelreach_k02_divisors_and_multiples_by_holds : PySem.Challenge.rw_wheelreach_k02_divisors_and_multiples_by.Holds := by
  w_on; o_law; k_head; (case hw => w_witness2)
  k_fill
  refine My.walkG (l := PySem.Challenge.rw_wheelreach_k02_divisors_and_multiples_by) (k := 12) ["_law_refused_right"] (by decide +kernel) rfl rfl ⟨rfl, by decide, by decide⟩ (fun w h Y => PySem.W.km_in_of Y) ?F
  case F =>
    intro w mg fa h KX G hmg tabs
    refine' My.all_mk KX G hmg tabs ?a_is_whole ?l_is_whole ?c_is_whole ?k_is_whole ?a_is_from ?l_is_from ?c_is_from ?k_is_from ?a_common ?l_common ?c_common ?k_common ?a_multiple ?l_multiple ?c_multiple ?k_multiple ?a_apart ?l_apart ?c_apart ?k_apart ?a_pen ?l_pen ?c_pen ?k_pen ?a_draw ?l_draw ?c_draw ?k_draw ?a_pick ?l_pick ?c_pick ?k_pick ?a_heard ?l_heard ?c_heard ?k_heard ?a_asked ?l_asked ?c_asked ?k_asked ?a_by_common ?l_by_common ?c_by_common ?k_by_common ?a_by_multiple ?l_by_multiple ?c_by_multiple ?k_by_multiple ?a_by_apart ?l_by_apart ?c_by_apart ?k_by_apart ?a_numbers_right ?l_numbers_right ?c_numbers_right ?k_numbers_right ?a_apart_right ?l_apart_right ?c_apart_right ?k_apart_right ?a_refused_right ?l_refused_right ?c_refused_right ?k_refused_right ?a_fifty ?l_fifty ?c_fifty ?k_fifty ?a_law ?l_law ?c_law ?k_law ?a_BadNumber_init ?l_BadNumber_init ?c_BadNumber_init ?k_BadNumber_init ?i_gcd ?z_ValueError ?z_abs ?z_bool ?z_int ?z_isinstance ?z_len ?z_list ?z_min ?z_range ?z_repr ?t_refused_right ?p_refused_right ?q_refused_right ?x_C ?x_R ?x_L ?x_b ?x_sa ?x_ex ?x_ty ?x_k ?x_tI ?x_no ?x_cl ?x_ga ?x_gg ?x_hd ?x_ha ?x_hn ?x_ht ?x_hm ?x_Rx ?x_Rh ?x_Rt ?x_RC ?x_k1 ?x_k2
    (case x_C => k_is)
    (case x_R => k_is)
    (case a_is_whole => k_is)
    (case l_is_whole => k_is)
    (case c_is_whole => k_is)
    (case k_is_whole => k_is)
    (case a_is_from => k_is)
    (case l_is_from => k_is)
    (case c_is_from => k_is)
    (case k_is_from => k_is)
    (case a_common => k_is)
    (case l_common => k_is)
    (case c_common => k_is)
    (case k_common => k_is)
    (case a_multiple => k_is)
    (case l_multiple => k_is)
    (case c_multiple => k_is)
    (case k_multiple => k_is)
    (case a_apart => k_is)
    (case l_apart => k_is)
    (case c_apart => k_is)
    (case k_apart => k_is)
    (case a_pen => k_is)
    (case l_pen => k_is)
    (case c_pen => k_is)
    (case k_pen => k_is)
    (case a_draw => k_is)
    (case l_draw => k_is)
    (case c_draw => k_is)
    (case k_draw => k_is)
    (case a_pick => k_is)
    (case l_pick => k_is)
    (case c_pick => k_is)
    (case k_pick => k_is)
    (case a_heard => k_is)
    (case l_heard => k_is)
    (case c_heard => k_is)
    (case k_heard => k_is)
    (case a_asked => k_is)
    (case l_asked => k_is)
    (case c_asked => k_is)
    (case k_asked => k_is)
    (case a_by_common => k_is)
    (case l_by_common => k_is)
    (case c_by_common => k_is)
    (case k_by_common => k_is)
    (case a_by_multiple => k_is)
    (case l_by_multiple => k_is)
    (case c_by_multiple => k_is)
    (case k_by_multiple => k_is)
    (case a_by_apart => k_is)
    (case l_by_apart => k_is)
    (case c_by_apart => k_is)
    (case k_by_apart => k_is)
    (case a_numbers_right => k_is)
    (case l_numbers_right => k_is)
    (case c_numbers_right => k_is)
    (case k_numbers_right => k_is)
    (case a_apart_right => k_is)
    (case l_apart_right => k_is)
    (case c_apart_right => k_is)
    (case k_apart_right => k_is)
    (case a_refused_right => k_is)
    (case l_refused_right => k_is)
    (case c_refused_right => k_is)
    (case k_refused_right => k_is)
    (case a_fifty => k_is)
    (case l_fifty => k_is)
    (case c_fifty => k_is)
    (case k_fifty => k_is)
    (case a_law => k_is)
    (case l_law => k_is)
    (case c_law => k_is)
    (case k_law => k_is)
    (case a_BadNumber_init => k_is)
    (case l_BadNumber_init => k_is)
    (case c_BadNumber_init => k_is)
    (case k_BadNumber_init => k_is)
    (case i_gcd => k_is)
    (case z_ValueError => k_is)
    (case z_abs => k_is)
    (case z_bool => k_is)
    (case z_int => k_is)
    (case z_isinstance => k_is)
    (case z_len => k_is)
    (case z_list => k_is)
    (case z_min => k_is)
    (case z_range => k_is)
    (case z_repr => k_is)
    (case t_refused_right => k_is)
    (case p_refused_right => first | rfl | k_is | decide +kernel)
    (case q_refused_right => first | k_is | rfl | decide +kernel)
    (case x_L => k_is)
    (case x_b => first | rfl | decide +kernel)
    (case x_sa => k_is)
    (case x_ex => k_is)
    (case x_ty => k_is)
    (case x_k => k_is)
    (case x_tI => k_is)
    (case x_no => k_is)
    (case x_cl => k_is)
    (case x_ga => k_is)
    (case x_gg => k_is)
    (case x_hd => k_is)
    (case x_ha => k_is)
    (case x_hn => k_is)
    (case x_ht => k_is)
    (case x_hm => k_is)
    (case x_Rx => k_is)
    (case x_Rh => k_is)
    (case x_Rt => k_is)
    (case x_RC => first | k_is | rfl | decide +kernel)
    (case x_k1 => first | k_is | rfl | decide +kernel)
    (case x_k2 => first | k_is | rfl | decide +kernel)
