import PyProof.Rows.All
import Wide.All
import OpenK.AllK
import Wide.FinOn
import HandS.ForMost
import HandS.ForExc
import HandS.Star
import HandS.Gcd
import HandS.Wide
import HandS.IsInst
import HandS.Style
import HandS.Codes
import HandS.Sort
import HandS.TupAny
import HandS.OwnEq
import HandS.ClsMeth
import HandS.MakeKw
import HandS.MakeKwOnly
import HandS.IterVal
import HandS.Lambda
import KE.KOwnIter
import HandS.EndTab
import KE.KExcIs
import PySem.Challenge.RW_wheelreach_k06_lots_around_multiples
set_option Elab.async false
set_option linter.all false
set_option maxRecDepth 100000
set_option maxHeartbeats 4000000
/-! Numbers: divisors, multiples, remainders put together, as plain functions, and what holds of them. -/
namespace NM

/-! ### common, multiple -/
def gcdL (ns : List Int) : Nat := ns.foldl (fun g n => Nat.gcd g n.natAbs) 0
def lcmL (ns : List Int) : Nat := ns.foldl (fun g n => Nat.lcm g n.natAbs) 1
theorem gcdL_snoc (l : List Int) (z : Int) : gcdL (l ++ [z]) = Nat.gcd (gcdL l) z.natAbs := by
  unfold gcdL; rw [List.foldl_append]; rfl
theorem lcmL_snoc (l : List Int) (z : Int) : lcmL (l ++ [z]) = Nat.lcm (lcmL l) z.natAbs := by
  unfold lcmL; rw [List.foldl_append]; rfl
theorem take_snoc {α : Type} : ∀ {l : List α} {i : Nat} {x : α}, l[i]? = some x → l.take (i + 1) = l.take i ++ [x]
  | [], i, x, h => by simp at h
  | a :: l, 0, x, h => by
    have e : a = x := Option.some.inj h
    subst e
    rfl
  | a :: l, i + 1, x, h => by
    have ih := take_snoc (l := l) (i := i) (x := x) h
    show a :: l.take (i + 1) = a :: l.take i ++ [x]
    rw [ih]
    rfl
theorem lcm_step {f n : Int} (hf : 0 < f) (hn : 0 < n) : f / ((Nat.gcd f.natAbs n.natAbs : Nat) : Int) * n = ((Nat.lcm f.natAbs n.natAbs : Nat) : Int) := by
  obtain ⟨a, rfl⟩ : ∃ a : Nat, f = (a : Int) := ⟨f.toNat, by omega⟩
  obtain ⟨b, rfl⟩ : ∃ b : Nat, n = (b : Int) := ⟨n.toNat, by omega⟩
  simp only [Int.natAbs_natCast]
  have h := Nat.gcd_dvd_left a b
  rw [← Int.natCast_ediv, ← Int.natCast_mul]
  congr 1
  unfold Nat.lcm
  rw [Nat.mul_comm (a / _) b, Nat.mul_comm a b, Nat.mul_div_assoc _ h]
theorem lcmL_pos {l : List Int} (h : ∀ z ∈ l, 0 < z) : 0 < lcmL l := by
  unfold lcmL
  suffices ∀ (l : List Int) (a : Nat), 0 < a → (∀ z ∈ l, 0 < z) → 0 < l.foldl (fun g n => Nat.lcm g n.natAbs) a from this l 1 (by decide) h
  intro l
  induction l with
  | nil => intro a ha _; exact ha
  | cons z l ih =>
    intro a ha h
    refine ih _ ?_ (fun y hy => h y (List.mem_cons_of_mem _ hy))
    have hz := h z List.mem_cons_self
    exact Nat.lcm_pos ha (by omega)
theorem lcm_le_mul {a b : Nat} (ha : 0 < a) (hb : 0 < b) : Nat.lcm a b ≤ a * b := Nat.le_of_dvd (Nat.mul_pos ha hb) (Nat.lcm_dvd_mul a b)

/-! ### how far from a multiple -/
def apartI (d p : Int) : Int := if p - d % p < d % p then p - d % p else d % p
theorem apart_nn {d p : Int} (hp : 0 < p) : 0 ≤ apartI d p := by
  unfold apartI
  have h1 := Int.emod_nonneg d (show p ≠ 0 by omega)
  have h2 := Int.emod_lt_of_pos d hp
  split <;> omega
theorem apart_half {d p : Int} (hp : 0 < p) : 2 * apartI d p ≤ p := by
  unfold apartI
  have h1 := Int.emod_nonneg d (show p ≠ 0 by omega)
  have h2 := Int.emod_lt_of_pos d hp
  split <;> omega
/-- the nearest multiple is that far away -/
theorem apart_at {d p : Int} (hp : 0 < p) : ∃ k, d = p * k + apartI d p ∨ d = p * k - apartI d p := by
  have e := Int.mul_ediv_add_emod d p
  unfold apartI
  split
  · refine ⟨d / p + 1, .inr ?_⟩
    rw [Int.mul_add]; omega
  · exact ⟨d / p, .inl (by omega)⟩
/-- no multiple is nearer -/
theorem apart_le {d p : Int} (hp : 0 < p) (k a : Int) (h : d = p * k + a) : apartI d p ≤ (a.natAbs : Int) := by
  have e1 : d % p = a % p := by rw [h, Int.add_comm, Int.add_mul_emod_self_left]
  have h1 := Int.emod_nonneg a (show p ≠ 0 by omega)
  have h2 := Int.emod_lt_of_pos a hp
  have e := Int.mul_ediv_add_emod a p
  unfold apartI
  rw [e1]
  by_cases h0 : 0 ≤ a
  · have : a % p ≤ a := by
      have : 0 ≤ a / p := Int.ediv_nonneg h0 (by omega)
      have := Int.mul_nonneg (show 0 ≤ p by omega) this
      omega
    split <;> omega
  · have hq : a / p ≤ -1 := by
      have := Int.ediv_lt_of_lt_mul hp (show a < 0 * p by omega)
      omega
    have : p * (a / p) ≤ p * (-1) := Int.mul_le_mul_of_nonneg_left hq (by omega)
    split <;> omega
theorem apart_neg {d p : Int} (hp : 0 < p) : apartI (-d) p = apartI d p := by
  have aux : ∀ x : Int, apartI (-x) p ≤ apartI x p := fun x => by
    obtain ⟨k, h | h⟩ := apart_at (d := x) hp
    · have := apart_le (d := -x) hp (-k) (-apartI x p) (by rw [Int.mul_neg]; omega)
      have := apart_nn (d := x) hp
      omega
    · have := apart_le (d := -x) hp (-k) (apartI x p) (by rw [Int.mul_neg]; omega)
      have := apart_nn (d := x) hp
      omega
  have h1 := aux d
  have h2 := aux (-d)
  rw [Int.neg_neg] at h2
  omega
theorem apart_round {d p : Int} (hp : 0 < p) (k : Int) : apartI (d + p * k) p = apartI d p := by
  unfold apartI
  rw [Int.add_mul_emod_self_left]
theorem apart_tri {d e p : Int} (hp : 0 < p) : apartI (d + e) p ≤ apartI d p + apartI e p := by
  have n1 := apart_nn (d := d) hp
  have n2 := apart_nn (d := e) hp
  obtain ⟨k, h⟩ := apart_at (d := d) hp
  obtain ⟨l, g⟩ := apart_at (d := e) hp
  have fin : ∀ a : Int, d + e = p * (k + l) + a → (a.natAbs : Int) ≤ apartI d p + apartI e p → apartI (d + e) p ≤ apartI d p + apartI e p := fun a ha hb =>
    Int.le_trans (apart_le hp (k + l) a ha) hb
  have ex : p * (k + l) = p * k + p * l := Int.mul_add _ _ _
  rcases h with h | h <;> rcases g with g | g
  · exact fin (apartI d p + apartI e p) (by rw [ex]; omega) (by omega)
  · exact fin (apartI d p - apartI e p) (by rw [ex]; omega) (by omega)
  · exact fin (-apartI d p + apartI e p) (by rw [ex]; omega) (by omega)
  · exact fin (-apartI d p - apartI e p) (by rw [ex]; omega) (by omega)
theorem apart_mult {p k : Int} (hp : 0 < p) : apartI (p * k) p = 0 := by
  unfold apartI
  rw [Int.mul_emod_right]
  split <;> omega
theorem apart_self {p : Int} (hp : 0 < p) : apartI p p = 0 := by
  have h := apart_mult (k := 1) hp
  rwa [Int.mul_one] at h
theorem apart_reach {d p : Int} (hp : 0 < p) : apartI (d - apartI d p) p = 0 ∨ apartI (d + apartI d p) p = 0 := by
  obtain ⟨k, h | h⟩ := apart_at (d := d) hp
  · left
    have e : d - apartI d p = p * k := by omega
    rw [e]; exact apart_mult hp
  · right
    have e : d + apartI d p = p * k := by omega
    rw [e]; exact apart_mult hp

theorem gcd_emod (a b : Int) : Int.gcd (a % b) b = Int.gcd a b := by
  have e := Int.mul_ediv_add_emod a b
  have h : a % b = a - a / b * b := by rw [Int.mul_comm]; omega
  rw [h]; exact Int.gcd_sub_mul_right_left _ _ _
/-! ### the inverse, by Euclid's division -/
structure Euc (number divisor left right found following : Int) : Prop where
  l : 0 < left
  r : 0 ≤ right
  rl : right < left ∨ left = divisor
  le : left ≤ divisor
  rd : right < divisor
  g : Nat.gcd left.natAbs right.natAbs = Nat.gcd divisor.natAbs number.natAbs
  c1 : divisor ∣ found * number - left
  c2 : divisor ∣ following * number - right
  s : (found ≤ 0 ∧ 0 ≤ following ∧ left * following - right * found = divisor) ∨ (0 ≤ found ∧ following ≤ 0 ∧ right * found - left * following = divisor)
theorem Euc.start {number divisor : Int} (hd : 0 < divisor) : Euc number divisor divisor (number % divisor) 0 1 where
  l := hd
  r := Int.emod_nonneg _ (by omega)
  rl := .inr rfl
  le := Int.le_refl _
  rd := Int.emod_lt_of_pos _ hd
  g := by
    have e := Int.mul_ediv_add_emod number divisor
    have h : ((Nat.gcd divisor.natAbs (number % divisor).natAbs : Nat) : Int) = ((Nat.gcd divisor.natAbs number.natAbs : Nat) : Int) := by
      show ((Int.gcd divisor (number % divisor) : Nat) : Int) = ((Int.gcd divisor number : Nat) : Int)
      congr 1
      rw [Int.gcd_comm, Int.gcd_comm divisor number]
      exact gcd_emod _ _
    exact Int.natCast_inj.mp h
  c1 := ⟨-1, by omega⟩
  c2 := by
    have e := Int.mul_ediv_add_emod number divisor
    exact ⟨number / divisor, by omega⟩
  s := .inl ⟨Int.le_refl _, by omega, by omega⟩
theorem Euc.turn {number divisor left right found following : Int} (E : Euc number divisor left right found following) (h : right ≠ 0) :
    Euc number divisor right (left - left / right * right) following (found - left / right * following) := by
  have hr : 0 < right := by have := E.r; omega
  have e := Int.mul_ediv_add_emod left right
  have em : left - left / right * right = left % right := by rw [Int.mul_comm]; omega
  have h1 := Int.emod_nonneg left (show right ≠ 0 by omega)
  have h2 := Int.emod_lt_of_pos left hr
  have hq : 0 ≤ left / right := Int.ediv_nonneg (Int.le_of_lt E.l) (by omega)
  have lrd := E.rd
  refine ⟨hr, by omega, .inl (by omega), by omega, by omega, ?_, E.c2, ?_, ?_⟩
  · rw [← E.g, em]
    show Int.gcd right (left % right) = Int.gcd left right
    rw [Int.gcd_comm]
    exact gcd_emod _ _
  · obtain ⟨a, ha⟩ := E.c1
    obtain ⟨b, hb⟩ := E.c2
    refine ⟨a - left / right * b, ?_⟩
    rw [Int.sub_mul, Int.mul_sub]
    have x1 : left / right * following * number = left / right * (following * number) := Int.mul_assoc _ _ _
    have x2 : divisor * (left / right * b) = left / right * (divisor * b) := by rw [← Int.mul_assoc, Int.mul_comm divisor, Int.mul_assoc]
    rw [x1, x2, ← hb, ← ha, Int.mul_sub]
    omega
  · have hm : ∀ x : Int, 0 ≤ x → 0 ≤ left / right * x := fun x hx => Int.mul_nonneg hq hx
    have hn : ∀ x : Int, x ≤ 0 → left / right * x ≤ 0 := fun x hx => by
      have := Int.mul_nonneg hq (show 0 ≤ -x by omega)
      rw [Int.mul_neg] at this
      omega
    have y1 : right * (found - left / right * following) = right * found - right * (left / right * following) := Int.mul_sub _ _ _
    have y2 : (left - left / right * right) * following = left * following - left / right * right * following := Int.sub_mul _ _ _
    have y3 : left / right * right * following = right * (left / right * following) := by rw [Int.mul_comm (left / right) right, Int.mul_assoc]
    rcases E.s with ⟨s1, s2, s3⟩ | ⟨s1, s2, s3⟩
    · refine .inr ⟨s2, by have := hm _ s2; omega, ?_⟩
      rw [y1, y2, y3]; omega
    · refine .inl ⟨s2, by have := hn _ s2; omega, ?_⟩
      rw [y1, y2, y3]; omega
theorem Euc.less {number divisor left right found following : Int} (E : Euc number divisor left right found following) (h : right ≠ 0) : (left - left / right * right).toNat < right.toNat := by
  have hr : 0 < right := by have := E.r; omega
  have e := Int.mul_ediv_add_emod left right
  have em : left - left / right * right = left % right := by rw [Int.mul_comm]; omega
  have h1 := Int.emod_nonneg left (show right ≠ 0 by omega)
  have h2 := Int.emod_lt_of_pos left hr
  omega
/-- the sizes -/
theorem Euc.size {number divisor left right found following : Int} (E : Euc number divisor left right found following) : following.natAbs ≤ divisor.natAbs ∧ (right ≠ 0 → found.natAbs ≤ divisor.natAbs) := by
  have l := E.l
  have r := E.r
  have key : ∀ a b c e : Int, 0 < a → 0 ≤ b → 0 ≤ c → 0 ≤ e → a * c + b * e = divisor → c ≤ divisor ∧ (b ≠ 0 → e ≤ divisor) := fun a b c e ha hb hc he h => by
    have p1 := Int.mul_nonneg hb he
    have p2 : c ≤ a * c := by
      have := Int.mul_le_mul_of_nonneg_right (show 1 ≤ a by omega) hc
      omega
    refine ⟨by omega, fun hb0 => ?_⟩
    have p3 : e ≤ b * e := by
      have := Int.mul_le_mul_of_nonneg_right (show 1 ≤ b by omega) he
      omega
    have p4 := Int.mul_nonneg (Int.le_of_lt ha) hc
    omega
  rcases E.s with ⟨s1, s2, s3⟩ | ⟨s1, s2, s3⟩
  · have k := key left right following (-found) l r s2 (by omega) (by rw [Int.mul_neg]; omega)
    exact ⟨by omega, fun h => by have := k.2 h; omega⟩
  · have k := key left right (-following) found l r (by omega) s1 (by rw [Int.mul_neg]; omega)
    exact ⟨by omega, fun h => by have := k.2 h; omega⟩
theorem Euc.fin {number divisor left found following : Int} (E : Euc number divisor left 0 found following) (hg : Nat.gcd divisor.natAbs number.natAbs = 1) : divisor ∣ found * number - 1 := by
  have g := E.g
  rw [hg] at g
  have l := E.l
  have : left = 1 := by
    simp at g
    omega
  have c := E.c1
  rwa [this] at c
end NM

namespace NM
/-- the runs of a round: maximal, ascending, they begin from 0 to the period - 1; or all integers -/
structure Rnd (per : Int) (rs : List (Int × Int)) : Prop where
  pos : 0 < per
  beg : ∀ q ∈ rs, 0 ≤ q.1 ∧ q.1 < per ∧ q.1 ≤ q.2
  gap : ∀ (i j : Nat) (p q : Int × Int), i < j → rs[i]? = some p → rs[j]? = some q → p.2 + 1 < q.1
  wrap : ∀ p ∈ rs, ∀ q ∈ rs, q.2 + 1 < p.1 + per ∨ (rs = [(0, per - 1)])
/-- x is a member -/
def Mem (per : Int) (rs : List (Int × Int)) (x : Int) : Prop := ∃ k : Int, ∃ q ∈ rs, q.1 + per * k ≤ x ∧ x ≤ q.2 + per * k
/-- what is told of the end of the run of x -/
def EndIs (per : Int) (rs : List (Int × Int)) (x : Int) : Option Int → Prop
  | .some e => x ≤ e ∧ ∃ k : Int, ∃ q ∈ rs, q.1 + per * k ≤ x ∧ e = q.2 + per * k
  | .none => ¬ Mem per rs x
theorem Rnd.lt {per : Int} {rs : List (Int × Int)} (R : Rnd per rs) {q : Int × Int} (h : q ∈ rs) : q.2 < 2 * per := by
  have b := R.beg q h
  have p := R.pos
  rcases R.wrap q h q h with w | w
  · omega
  · rw [w] at h
    rw [List.mem_singleton.mp h]
    show per - 1 < 2 * per
    omega
/-- a member lies in a run of its own round or of the round ahead -/
theorem Rnd.turn {per : Int} {rs : List (Int × Int)} (R : Rnd per rs) {q : Int × Int} (h : q ∈ rs) {k x : Int} (h1 : q.1 + per * k ≤ x) (h2 : x ≤ q.2 + per * k) : k = x / per ∨ k = x / per - 1 := by
  have p := R.pos
  have b := R.beg q h
  have l := R.lt h
  have em := Int.mul_ediv_add_emod x per
  have m0 := Int.emod_nonneg x (show per ≠ 0 by omega)
  have m1 := Int.emod_lt_of_pos x p
  have e1 : per * (k - x / per) < 1 * per := by rw [Int.mul_sub]; omega
  have e2 : -(2 * per) < per * (k - x / per) := by rw [Int.mul_sub]; omega
  have a1 : k - x / per < 1 := by
    apply Int.lt_of_mul_lt_mul_left (a := per) _ (by omega)
    rw [Int.mul_one]; omega
  have a2 : -2 < k - x / per := by
    apply Int.lt_of_mul_lt_mul_left (a := per) _ (by omega)
    have : per * -2 = -(2 * per) := by rw [Int.mul_neg, Int.mul_comm]
    omega
  omega
theorem Rnd.endB {per : Int} {rs : List (Int × Int)} (R : Rnd per rs) {x : Int} {n : Nat} (hn : n ≤ rs.length) (lo : ∀ (i : Nat) (q : Int × Int), i < n → rs[i]? = some q → q.1 ≤ x % per) (hi : ∀ (i : Nat) (q : Int × Int), n ≤ i → rs[i]? = some q → x % per < q.1)
    {q : Int × Int} {base : Int} (hq : (0 < n ∧ rs[n - 1]? = some q ∧ base = x - x % per) ∨ (n = 0 ∧ rs[rs.length - 1]? = some q ∧ base = x - x % per - per)) : EndIs per rs x (if base + q.2 ≥ x then .some (base + q.2) else .none) := by
  have p := R.pos
  have em := Int.mul_ediv_add_emod x per
  have m0 := Int.emod_nonneg x (show per ≠ 0 by omega)
  have m1 := Int.emod_lt_of_pos x p
  have hmem : q ∈ rs := by rcases hq with ⟨_, h, _⟩ | ⟨_, h, _⟩ <;> exact List.mem_of_getElem? h
  have bq := R.beg q hmem
  split
  · rename_i hge
    refine ⟨hge, ?_⟩
    rcases hq with ⟨h0, h1, rfl⟩ | ⟨rfl, h1, rfl⟩
    · have := lo (n - 1) q (by omega) h1
      exact ⟨x / per, q, hmem, by omega, by omega⟩
    · refine ⟨x / per - 1, q, hmem, ?_, ?_⟩ <;> rw [Int.mul_sub, Int.mul_one] <;> omega
  · rename_i hlt
    rintro ⟨k, q', hm', h1, h2⟩
    obtain ⟨i, hi'⟩ := List.mem_iff_getElem?.mp hm'
    have bq' := R.beg q' hm'
    rcases R.turn hm' h1 h2 with rfl | rfl
    · -- in its own round
      have ple : q'.1 ≤ x % per := by omega
      have iln : i < n := by
        apply Nat.lt_of_not_le
        intro z
        have := hi i q' z hi'
        omega
      rcases hq with ⟨h0, hq1, rfl⟩ | ⟨rfl, hq1, rfl⟩
      · rcases Nat.lt_or_eq_of_le (show i ≤ n - 1 by omega) with z | z
        · have g := R.gap i (n - 1) q' q z hi' hq1
          have := lo (n - 1) q (by omega) hq1
          omega
        · rw [z, hq1] at hi'
          cases hi'
          omega
      · omega
    · rw [Int.mul_sub, Int.mul_one] at h1 h2
      have far : x % per + per ≤ q'.2 := by omega
      rcases hq with ⟨h0, hq1, rfl⟩ | ⟨rfl, hq1, rfl⟩
      · rcases R.wrap q hmem q' hm' with w | w
        · have := lo (n - 1) q (by omega) hq1
          omega
        · rw [w] at hm'
          rw [List.mem_singleton.mp hm'] at far
          have : x % per + per ≤ per - 1 := far
          omega
      · have hil : i < rs.length := (List.getElem?_eq_some_iff.mp hi').1
        rcases Nat.lt_or_eq_of_le (show i ≤ rs.length - 1 by omega) with z | z
        · have g := R.gap i (rs.length - 1) q' q z hi' hq1
          omega
        · rw [z, hq1] at hi'
          cases hi'
          omega
/-- y is the least member from x on -/
def NextIs (per : Int) (rs : List (Int × Int)) (x y : Int) : Prop := x ≤ y ∧ Mem per rs y ∧ ∀ z, x ≤ z → z < y → ¬ Mem per rs z
theorem next_here {per : Int} {rs : List (Int × Int)} {x : Int} (h : Mem per rs x) : NextIs per rs x x := ⟨Int.le_refl _, h, fun z h1 h2 => by omega⟩
theorem Rnd.next {per : Int} {rs : List (Int × Int)} (R : Rnd per rs) {x : Int} (hx : ¬ Mem per rs x) {n : Nat} (lo : ∀ (i : Nat) (q : Int × Int), i < n → rs[i]? = some q → q.1 ≤ x % per) (hi : ∀ (i : Nat) (q : Int × Int), n ≤ i → rs[i]? = some q → x % per < q.1)
    {q : Int × Int} {y : Int} (hq : (rs[n]? = some q ∧ y = x - x % per + q.1) ∨ (n = rs.length ∧ rs[0]? = some q ∧ y = x - x % per + per + q.1)) : NextIs per rs x y := by
  have p := R.pos
  have em := Int.mul_ediv_add_emod x per
  have m0 := Int.emod_nonneg x (show per ≠ 0 by omega)
  have m1 := Int.emod_lt_of_pos x p
  have hmem : q ∈ rs := by rcases hq with ⟨h, _⟩ | ⟨_, h, _⟩ <;> exact List.mem_of_getElem? h
  have bq := R.beg q hmem
  have asc : ∀ (i j : Nat) (p q : Int × Int), i < j → rs[i]? = some p → rs[j]? = some q → p.1 < q.1 := fun i j p q hij h1 h2 => by
    have := R.gap i j p q hij h1 h2
    have := R.beg p (List.mem_of_getElem? h1)
    omega
  have hxy : x ≤ y := by
    rcases hq with ⟨h, rfl⟩ | ⟨_, h, rfl⟩
    · have := hi n q (Nat.le_refl _) h
      omega
    · omega
  refine ⟨hxy, ?_, fun z hz1 hz2 => ?_⟩
  · rcases hq with ⟨h, rfl⟩ | ⟨_, h, rfl⟩
    · exact ⟨x / per, q, hmem, by omega, by omega⟩
    · refine ⟨x / per + 1, q, hmem, ?_, ?_⟩ <;> rw [Int.mul_add, Int.mul_one] <;> omega
  · rintro ⟨k, q', hm', h1, h2⟩
    obtain ⟨i, hi'⟩ := List.mem_iff_getElem?.mp hm'
    have bq' := R.beg q' hm'
    have beyond : x < q'.1 + per * k := by
      apply Int.lt_of_not_ge
      intro h
      exact hx ⟨k, q', hm', h, by omega⟩
    -- the round of that run
    have k1 : x / per ≤ k := by
      apply Int.le_of_lt_add_one
      apply Int.lt_of_mul_lt_mul_left (a := per) _ (by omega)
      rw [Int.mul_add, Int.mul_one]; omega
    rcases Int.lt_or_eq_of_le k1 with k2 | k2
    · have k3 : per * (x / per + 1) ≤ per * k := Int.mul_le_mul_of_nonneg_left (by omega) (by omega)
      rw [Int.mul_add, Int.mul_one] at k3
      rcases hq with ⟨h, rfl⟩ | ⟨e, h, rfl⟩
      · omega
      · rcases Nat.eq_zero_or_pos i with z0 | z0
        · rw [z0, h] at hi'
          cases hi'
          omega
        · have := asc 0 i q q' z0 h hi'
          omega
    · rw [← k2] at beyond h1 h2
      have inn : n ≤ i := by
        apply Nat.le_of_not_lt
        intro z0
        have := lo i q' z0 hi'
        omega
      rcases hq with ⟨h, rfl⟩ | ⟨e, h, rfl⟩
      · rcases Nat.lt_or_eq_of_le inn with z0 | z0
        · have := asc n i q q' z0 h hi'
          omega
        · rw [← z0, h] at hi'
          cases hi'
          omega
      · have := (List.getElem?_eq_some_iff.mp hi').1
        omega
/-- y is the greatest member up to x -/
def PrevIs (per : Int) (rs : List (Int × Int)) (x y : Int) : Prop := y ≤ x ∧ Mem per rs y ∧ ∀ z, y < z → z ≤ x → ¬ Mem per rs z
theorem prev_here {per : Int} {rs : List (Int × Int)} {x : Int} (h : Mem per rs x) : PrevIs per rs x x := ⟨Int.le_refl _, h, fun z h1 h2 => by omega⟩
theorem Rnd.prev {per : Int} {rs : List (Int × Int)} (R : Rnd per rs) {x : Int} (hx : ¬ Mem per rs x) {n : Nat} (_ : n ≤ rs.length) (lo : ∀ (i : Nat) (q : Int × Int), i < n → rs[i]? = some q → q.1 ≤ x % per) (hi : ∀ (i : Nat) (q : Int × Int), n ≤ i → rs[i]? = some q → x % per < q.1)
    {q : Int × Int} {y : Int} (hq : (0 < n ∧ rs[n - 1]? = some q ∧ y = x - x % per + q.2) ∨ (n = 0 ∧ rs[rs.length - 1]? = some q ∧ y = x - x % per - per + q.2)) : PrevIs per rs x y := by
  have p := R.pos
  have em := Int.mul_ediv_add_emod x per
  have m0 := Int.emod_nonneg x (show per ≠ 0 by omega)
  have m1 := Int.emod_lt_of_pos x p
  have hmem : q ∈ rs := by rcases hq with ⟨_, h, _⟩ | ⟨_, h, _⟩ <;> exact List.mem_of_getElem? h
  have bq := R.beg q hmem
  have ends : ∀ (i j : Nat) (p q : Int × Int), i ≤ j → rs[i]? = some p → rs[j]? = some q → p.2 ≤ q.2 := fun i j p q hij h1 h2 => by
    rcases Nat.lt_or_eq_of_le hij with z | z
    · have := R.gap i j p q z h1 h2
      have := R.beg q (List.mem_of_getElem? h2)
      omega
    · rw [z, h2] at h1
      cases h1
      exact Int.le_refl _
  have hyx : y < x ∧ Mem per rs y := by
    rcases hq with ⟨h0, h, rfl⟩ | ⟨_, h, rfl⟩
    · have l := lo (n - 1) q (by omega) h
      refine ⟨?_, x / per, q, hmem, by omega, by omega⟩
      apply Int.lt_of_not_ge
      intro z
      exact hx ⟨x / per, q, hmem, by omega, by omega⟩
    · refine ⟨?_, x / per - 1, q, hmem, ?_, ?_⟩
      · apply Int.lt_of_not_ge
        intro z
        refine hx ⟨x / per - 1, q, hmem, ?_, ?_⟩ <;> rw [Int.mul_sub, Int.mul_one] <;> omega
      · rw [Int.mul_sub, Int.mul_one]; omega
      · rw [Int.mul_sub, Int.mul_one]; omega
  refine ⟨Int.le_of_lt hyx.1, hyx.2, fun z hz1 hz2 => ?_⟩
  rintro ⟨k, q', hm', h1, h2⟩
  obtain ⟨i, hi'⟩ := List.mem_iff_getElem?.mp hm'
  have bq' := R.beg q' hm'
  have l2 := R.lt hm'
  have k1 : k ≤ x / per := by
    apply Int.le_of_lt_add_one
    apply Int.lt_of_mul_lt_mul_left (a := per) _ (by omega)
    rw [Int.mul_add, Int.mul_one]; omega
  rcases Int.lt_or_eq_of_le k1 with k2 | k2
  · have k3 : per * k ≤ per * (x / per - 1) := Int.mul_le_mul_of_nonneg_left (by omega) (by omega)
    rw [Int.mul_sub, Int.mul_one] at k3
    rcases hq with ⟨h0, h, rfl⟩ | ⟨e, h, rfl⟩
    · rcases R.wrap q hmem q' hm' with w | w
      · omega
      · rw [w] at hm' hmem
        have e1 := List.mem_singleton.mp hm'
        have e2 := List.mem_singleton.mp hmem
        have e3 : q'.2 = per - 1 := by rw [e1]
        have e4 : q.2 = per - 1 := by rw [e2]
        omega
    · have := ends i (rs.length - 1) q' q (by have := (List.getElem?_eq_some_iff.mp hi').1; omega) hi' h
      omega
  · subst k2
    have iln : i < n := by
      apply Nat.lt_of_not_le
      intro z0
      have := hi i q' z0 hi'
      omega
    rcases hq with ⟨h0, h, rfl⟩ | ⟨e, h, rfl⟩
    · have := ends i (n - 1) q' q (by omega) hi' h
      omega
    · omega
end NM

namespace NM
/-! what is near the multiples of p, at most q apart -/
def nearB (p q i : Nat) : Bool := decide (min i (p - i) ≤ q)
def nears (p q : Nat) : List Nat := (List.range p).filter (nearB p q)
def insides (p q : Nat) : List Bool := (List.range p).map (nearB p q)
def dueNear (p q : Nat) : Int × List (Int × Int) := if p ≤ 2 * q + 1 then (1, [(0, 0)]) else (p, [if q = 0 then (0, 0) else ((p : Int) - q, (p : Int) + q)])
theorem nearB_iff {p q i : Nat} (hi : i < p) : nearB p q i = true ↔ i ≤ q ∨ p - q ≤ i := by
  unfold nearB
  rw [decide_eq_true_iff]
  omega
theorem nears_all {p q : Nat} (h : p ≤ 2 * q + 1) : nears p q = List.range p := by
  unfold nears
  rw [List.filter_eq_self]
  intro i hi
  rw [List.mem_range] at hi
  rw [nearB_iff hi]
  omega
theorem nears_less {p q : Nat} (h : 2 * q + 1 < p) : (nears p q).length < p := by
  have e : (nears p q).length ≠ (List.range p).length := fun e => by
    have s : nears p q = List.range p := List.Sublist.eq_of_length List.filter_sublist e
    have m : q + 1 ∈ nears p q := by rw [s, List.mem_range]; omega
    unfold nears at m
    rw [List.mem_filter, List.mem_range] at m
    have := (nearB_iff m.1).mp m.2
    omega
  have l : (nears p q).length ≤ (List.range p).length := List.length_filter_le _ _
  rw [List.length_range] at e l
  omega
theorem nears_zero {p q : Nat} (h : 0 < p) : 0 ∈ nears p q := by
  unfold nears
  rw [List.mem_filter, List.mem_range]
  exact ⟨h, (nearB_iff h).mpr (.inl (Nat.zero_le _))⟩
theorem mem_nears {p q i : Nat} (hi : i < p) : i ∈ nears p q ↔ nearB p q i = true := by
  unfold nears
  rw [List.mem_filter, List.mem_range]
  exact ⟨fun z => z.2, fun z => ⟨hi, z⟩⟩
theorem insides_len {p q : Nat} : (insides p q).length = p := by
  unfold insides
  rw [List.length_map, List.length_range]
theorem insides_at {p q i : Nat} (hi : i < p) : (insides p q)[i]? = some (nearB p q i) := by
  unfold insides
  rw [List.getElem?_map, List.getElem?_range hi]
  rfl
theorem rot_at {p q k i : Nat} (hk : k ≤ p) (hi : i < p) : ((insides p q).drop k ++ (insides p q).take k)[i]? = some (nearB p q ((i + k) % p)) := by
  have l : ((insides p q).drop k).length = p - k := by rw [List.length_drop, insides_len]
  by_cases h : i < p - k
  · rw [List.getElem?_append_left (by rw [l]; exact h), List.getElem?_drop, insides_at (by omega), Nat.mod_eq_of_lt (by omega), Nat.add_comm k i]
  · rw [List.getElem?_append_right (by rw [l]; omega), l, List.getElem?_take_of_lt (by omega), insides_at (by omega)]
    congr 1
    have e : i + k = (i - (p - k)) + p := by omega
    rw [e, Nat.add_mod_right, Nat.mod_eq_of_lt (by omega)]
/-- no turn by less than the period leaves it as it is -/
theorem rot_ne {p q k : Nat} (h : 2 * q + 1 < p) (k0 : 0 < k) (kp : k < p) : (insides p q).drop k ++ (insides p q).take k ≠ insides p q := by
  intro e
  have at_ : ∀ i, i < p → nearB p q ((i + k) % p) = nearB p q i := fun i hi => by
    have a := rot_at (q := q) (Nat.le_of_lt kp) hi
    rw [e, insides_at hi] at a
    exact (Option.some.inj a).symm
  have hp : 0 < p := by omega
  have m1 : (q + k) % p < p := Nat.mod_lt _ hp
  have n1 : nearB p q ((q + k) % p) = true := by
    rw [at_ q (by omega)]
    exact (nearB_iff (by omega)).mpr (.inl (Nat.le_refl _))
  have n2 : nearB p q ((q + 1 + k) % p) = false := by
    rw [at_ (q + 1) (by omega)]
    rw [← Bool.not_eq_true, nearB_iff (by omega)]
    omega
  have m2 : (q + 1 + k) % p < p := Nat.mod_lt _ hp
  rw [nearB_iff m1] at n1
  rw [← Bool.not_eq_true, nearB_iff m2] at n2
  by_cases c : q + k < p
  · rw [Nat.mod_eq_of_lt c] at n1
    by_cases c2 : q + 1 + k < p
    · rw [Nat.mod_eq_of_lt c2] at n2; omega
    · have e2 : q + 1 + k = p := by omega
      rw [e2, Nat.mod_self] at n2; omega
  · have e1 : (q + k) % p = q + k - p := by rw [Nat.mod_eq_sub_mod (by omega), Nat.mod_eq_of_lt (by omega)]
    have e2 : (q + 1 + k) % p = q + 1 + k - p := by rw [Nat.mod_eq_sub_mod (by omega), Nat.mod_eq_of_lt (by omega)]
    rw [e1] at n1
    rw [e2] at n2
    omega
theorem rot_all {p q : Nat} : (insides p q).drop p ++ (insides p q).take p = insides p q := by
  rw [List.drop_of_length_le (by rw [insides_len]; exact Nat.le_refl _), List.take_of_length_le (by rw [insides_len]; exact Nat.le_refl _)]
  rfl
/-- where the run begins -/
def stNear (p q : Nat) : Nat := if q = 0 then 0 else p - q
def before (p b : Nat) : Nat := if b = 0 then p - 1 else b - 1
theorem start_iff {p q b : Nat} (h : 2 * q + 1 < p) (hb : b < p) : (nearB p q b = true ∧ nearB p q (before p b) = false) ↔ b = stNear p q := by
  have hb' : before p b < p := by unfold before; split <;> omega
  rw [← Bool.not_eq_true, nearB_iff hb, nearB_iff hb']
  unfold before stNear
  split <;> split <;> omega
theorem run_in {p q j : Nat} (h : 2 * q + 1 < p) (hj : j < 2 * q) : nearB p q ((stNear p q + j + 1) % p) = true := by
  have e : stNear p q = p - q := by unfold stNear; rw [if_neg (by omega)]
  rw [nearB_iff (Nat.mod_lt _ (by omega)), e]
  by_cases c : p - q + j + 1 < p
  · rw [Nat.mod_eq_of_lt c]; omega
  · rw [Nat.mod_eq_sub_mod (by omega), Nat.mod_eq_of_lt (by omega)]; omega
theorem run_out {p q : Nat} (h : 2 * q + 1 < p) : nearB p q ((stNear p q + 2 * q + 1) % p) = false := by
  rw [← Bool.not_eq_true, nearB_iff (Nat.mod_lt _ (by omega))]
  unfold stNear
  split
  · rename_i e
    subst e
    rw [Nat.mod_eq_of_lt (by omega)]; omega
  · rw [show p - q + 2 * q + 1 = (q + 1) + p by omega, Nat.add_mod_right, Nat.mod_eq_of_lt (by omega)]; omega
end NM

namespace NM
theorem nears_count {p q : Nat} (h : 2 * q + 1 < p) : (nears p q).length = 2 * q + 1 := by
  obtain ⟨m, rfl⟩ : ∃ m, p = (q + 1) + (m + q) := ⟨p - (2 * q + 1), by omega⟩
  have e1 : (List.range (q + 1)).filter (nearB ((q + 1) + (m + q)) q) = List.range (q + 1) := by
    rw [List.filter_eq_self]
    intro i hi
    rw [List.mem_range] at hi
    rw [nearB_iff (by omega)]
    omega
  have e2 : ((List.range m).map fun i => (q + 1) + i).filter (nearB ((q + 1) + (m + q)) q) = [] := by
    rw [List.filter_eq_nil_iff]
    intro i hi
    obtain ⟨j, hj, rfl⟩ := List.mem_map.mp hi
    rw [List.mem_range] at hj
    rw [nearB_iff (by omega)]
    omega
  have e3 : (((List.range q).map fun i => m + i).map fun i => (q + 1) + i).filter (nearB ((q + 1) + (m + q)) q) = ((List.range q).map fun i => m + i).map fun i => (q + 1) + i := by
    rw [List.filter_eq_self]
    intro i hi
    obtain ⟨j, hj, rfl⟩ := List.mem_map.mp hi
    obtain ⟨k, hk, rfl⟩ := List.mem_map.mp hj
    rw [List.mem_range] at hk
    rw [nearB_iff (by omega)]
    omega
  unfold nears
  rw [List.range_add, List.filter_append, List.range_add (n := m), List.map_append, List.filter_append, e1, e2, e3]
  simp only [List.length_append, List.length_map, List.length_range, List.length_nil]
  omega
/-- as many as are told -/
theorem near_sizes {p q : Nat} (h0 : 0 < p) : ((((dueNear p q).2.map fun r => r.2 - r.1 + 1).sum) * p : Int) = ((nears p q).length : Nat) * (dueNear p q).1 := by
  unfold dueNear
  by_cases h : p ≤ 2 * q + 1
  · rw [if_pos h, nears_all h, List.length_range]
    show (((0 - 0 + 1) + 0) * (p : Int)) = (p : Int) * 1
    omega
  · rw [if_neg h, nears_count (by omega)]
    by_cases z : q = 0
    · subst z
      show (((0 - 0 + 1) + 0) * (p : Int)) = ((2 * 0 + 1 : Nat) : Int) * (p : Int)
      omega
    · rw [if_neg z]
      show ((((p : Int) + q) - ((p : Int) - q) + 1 + 0) * (p : Int)) = ((2 * q + 1 : Nat) : Int) * (p : Int)
      congr 1
      omega
end NM

namespace My
open PySem PySem.Spec PyProof.Rows L2 StX
def top (i : Nat) : Stmt := PySem.Challenge.pw_wheelreach_k06_lots_around_multiples.main.body.getD i (.Pass ⟨0, 0, 0, 0⟩)
abbrev s_is_whole : Stmt := top 10
abbrev s_is_from : Stmt := top 11
abbrev s_is_run : Stmt := top 21
abbrev s_is_full : Stmt := top 22
abbrev s_size_of : Stmt := top 23
abbrev s_round_of : Stmt := top 24
abbrev s_closed : Stmt := top 25
abbrev s_least_form : Stmt := top 26
abbrev s_begun : Stmt := top 28
abbrev s_end_behind : Stmt := top 29
abbrev s_next_member : Stmt := top 30
abbrev s_form_of : Stmt := top 50
abbrev s_pen : Stmt := top 54
abbrev s_draw : Stmt := top 55
abbrev s_pick : Stmt := top 56
abbrev s_least : Stmt := top 57
abbrev s_is : Stmt := top 58
abbrev s_small_right : Stmt := top 59
abbrev s_great_right : Stmt := top 60
abbrev s_law : Stmt := top 61
abbrev s_Lot_init : Stmt := inClass (top 49) 1
abbrev s_Lot_every : Stmt := inClass (top 49) 2
abbrev s_Lot_none : Stmt := inClass (top 49) 3
abbrev s_Lot_around : Stmt := inClass (top 49) 4
abbrev s_Lot_multiples : Stmt := inClass (top 49) 5
abbrev s_Lot_len : Stmt := inClass (top 49) 7
abbrev s_Lot_iter : Stmt := inClass (top 49) 8
abbrev s_Lot_eq : Stmt := inClass (top 49) 10
abbrev s_Lot_contains : Stmt := inClass (top 49) 12
theorem sc_is_whole : FnScope ["value"] ["value"] (defScope s_is_whole) := ⟨rfl, rfl, rfl, by decide +kernel, rfl, by decide +kernel, by decide +kernel⟩
theorem sc_is_from : FnScope ["value", "low"] ["value", "low"] (defScope s_is_from) := ⟨rfl, rfl, rfl, by decide +kernel, rfl, by decide +kernel, by decide +kernel⟩
theorem sc_is_run : FnScope ["value"] ["value"] (defScope s_is_run) := ⟨rfl, rfl, rfl, by decide +kernel, rfl, by decide +kernel, by decide +kernel⟩
theorem sc_is_full : FnScope ["table", "period", "runs"] ["table"] (defScope s_is_full) := ⟨rfl, rfl, rfl, by decide +kernel, rfl, by decide +kernel, by decide +kernel⟩
theorem sc_size_of : FnScope ["runs", "begin", "end"] ["runs"] (defScope s_size_of) := ⟨rfl, rfl, rfl, by decide +kernel, rfl, by decide +kernel, by decide +kernel⟩
theorem sc_round_of : FnScope ["period", "runs", "rows", "begin", "end", "grown"] ["period", "runs"] (defScope s_round_of) := ⟨rfl, rfl, rfl, by decide +kernel, rfl, by decide +kernel, by decide +kernel⟩
theorem sc_closed : FnScope ["period", "runs", "begin", "end", "first"] ["period", "runs"] (defScope s_closed) := ⟨rfl, rfl, rfl, by decide +kernel, rfl, by decide +kernel, by decide +kernel⟩
theorem sc_least_form : FnScope ["table", "period", "runs", "many", "begins", "begin", "end", "steps", "at", "part"] ["table"] (defScope s_least_form) := ⟨rfl, rfl, rfl, by decide +kernel, rfl, by decide +kernel, by decide +kernel⟩
theorem sc_begun : FnScope ["rows", "place", "low", "high", "middle"] ["rows", "place"] (defScope s_begun) := ⟨rfl, rfl, rfl, by decide +kernel, rfl, by decide +kernel, by decide +kernel⟩
theorem sc_end_behind : FnScope ["table", "number", "period", "runs", "place", "at", "base", "end"] ["table", "number"] (defScope s_end_behind) := ⟨rfl, rfl, rfl, by decide +kernel, rfl, by decide +kernel, by decide +kernel⟩
theorem sc_next_member : FnScope ["table", "number", "period", "runs", "place", "at"] ["table", "number"] (defScope s_next_member) := ⟨rfl, rfl, rfl, by decide +kernel, rfl, by decide +kernel, by decide +kernel⟩
theorem sc_form_of : FnScope ["lot"] ["lot"] (defScope s_form_of) := ⟨rfl, rfl, rfl, by decide +kernel, rfl, by decide +kernel, by decide +kernel⟩
theorem sc_pen : FnScope ["_law_script"] ["_law_script"] (defScope s_pen) := ⟨rfl, rfl, rfl, by decide +kernel, rfl, by decide +kernel, by decide +kernel⟩
theorem sc_draw : FnScope ["_law_pen_here", "_law_many", "_law_digit", "_law_tick", "_law_cell", "_law_great", "_law_mixed"] ["_law_pen_here", "_law_many"] (defScope s_draw) := ⟨rfl, rfl, rfl, by decide +kernel, rfl, by decide +kernel, by decide +kernel⟩
theorem sc_pick : FnScope ["_law_pen_here", "_law_some"] ["_law_pen_here", "_law_some"] (defScope s_pick) := ⟨rfl, rfl, rfl, by decide +kernel, rfl, by decide +kernel, by decide +kernel⟩
theorem sc_least : FnScope ["_law_period", "_law_members", "_law_inside", "_law_at", "_law_turn", "_law_k", "_law_found", "_law_begin", "_law_end"] ["_law_period", "_law_members"] (defScope s_least) := ⟨rfl, rfl, rfl, by decide +kernel, rfl, by decide +kernel, by decide +kernel⟩
theorem sc_is : FnScope ["_law_lot", "_law_period", "_law_members", "_law_due", "_law_run"] ["_law_lot", "_law_period", "_law_members"] (defScope s_is) := ⟨rfl, rfl, rfl, by decide +kernel, rfl, by decide +kernel, by decide +kernel⟩
theorem sc_small_right : FnScope ["_law_pen_here", "_law_period", "_law_play", "_law_made", "_law_at", "_law_near"] ["_law_pen_here"] (defScope s_small_right) := ⟨rfl, rfl, rfl, by decide +kernel, rfl, by decide +kernel, by decide +kernel⟩
theorem sc_great_right : FnScope ["_law_pen_here", "_law_period", "_law_play", "_law_made", "_law_due"] ["_law_pen_here"] (defScope s_great_right) := ⟨rfl, rfl, rfl, by decide +kernel, rfl, by decide +kernel, by decide +kernel⟩
theorem sc_law : FnScope ["_law_script", "_law_pen_here", "_law_turn", "_law_n", "_law_told"] ["_law_script"] (defScope s_law) := ⟨rfl, rfl, rfl, by decide +kernel, rfl, by decide +kernel, by decide +kernel⟩
theorem sc_Lot_init : FnScope ["self", "period", "runs", "run", "found", "least"] ["self", "period", "runs"] (defScope s_Lot_init) := ⟨rfl, rfl, rfl, by decide +kernel, rfl, by decide +kernel, by decide +kernel⟩
theorem sc_Lot_every : FnScope [] [] (defScope s_Lot_every) := ⟨rfl, rfl, rfl, by decide +kernel, rfl, by decide +kernel, by decide +kernel⟩
theorem sc_Lot_none : FnScope [] [] (defScope s_Lot_none) := ⟨rfl, rfl, rfl, by decide +kernel, rfl, by decide +kernel, by decide +kernel⟩
theorem sc_Lot_around : FnScope ["period", "play"] ["period", "play"] (defScope s_Lot_around) := ⟨rfl, rfl, rfl, by decide +kernel, rfl, by decide +kernel, by decide +kernel⟩
theorem sc_Lot_multiples : FnScope ["n"] ["n"] (defScope s_Lot_multiples) := ⟨rfl, rfl, rfl, by decide +kernel, rfl, by decide +kernel, by decide +kernel⟩
theorem sc_Lot_len : FnScope ["self"] ["self"] (defScope s_Lot_len) := ⟨rfl, rfl, rfl, by decide +kernel, rfl, by decide +kernel, by decide +kernel⟩
theorem sc_Lot_iter : FnScope ["self"] ["self"] (defScope s_Lot_iter) := ⟨rfl, rfl, rfl, by decide +kernel, rfl, by decide +kernel, by decide +kernel⟩
theorem sc_Lot_eq : FnScope ["self", "other"] ["self", "other"] (defScope s_Lot_eq) := ⟨rfl, rfl, rfl, by decide +kernel, rfl, by decide +kernel, by decide +kernel⟩
theorem sc_Lot_contains : FnScope ["self", "value"] ["self", "value"] (defScope s_Lot_contains) := ⟨rfl, rfl, rfl, by decide +kernel, rfl, by decide +kernel, by decide +kernel⟩
section
variable {P : Program} {w : World} {K : PySem.W.Frag} {mg : Str → Option Value} {base : Heap}
/-! ### rules and words of our own -/
/-- x(e, ..), x a def whose promise is told of the arguments as they are passed -/
theorem pe_callR {X : Cx} {CX : CXT} {k : Nat} {f : Addr} {sp : Sp} {E : XK} {x : Str} {e : Expr} {es : List Expr} {t : TA} {p pos : Pos} (F : FnR X.prog X.w X.K X.mg X.base CX k f sp) (hr : Room k X.A) (hk : PySem.W.keepIn X.K (.ref f) = true) (hg : Gl X x) (hm : X.mg x = some (.ref f)) (hx : Passes CX X E)
    (ha : PA X (e :: es) t) (hd : (x == ("__debug__" : Str)) = false := by decide) (he : starEach (e :: es) X.env = (false, eval e X.env) :: starEach es X.env := by rfl) (hpl : (backTo pos (starEach es X.env)).any (·.1) = false := by rfl) :
    PE X (.Call (.Name x p) (e :: es) [] pos) (fun σ H Q => t σ H fun vs H1 => sp vs H1 Q E) := by
  refine ⟨fun pins s σ H Q I h => ?_⟩
  refine wpAny_Call_Name_kw (ld_glob I hg hm ?_ hd)
  refine PySem.W.callWith_K (h₀ := X.base) I.ok.mod.kin hk (thn (ha.run pos pins s σ H _ I h) fun us s1 ⟨vs, H1, I1, r, q⟩ => ⟨I1.kIn, ?_⟩) he hpl
  exact wpAny_call (run_fnR F hr hx I1 r q)
theorem pe_callR0 {X : Cx} {CX : CXT} {k : Nat} {f : Addr} {sp : Sp} {E : XK} {x : Str} {p pos : Pos} (F : FnR X.prog X.w X.K X.mg X.base CX k f sp) (hr : Room k X.A) (hk : PySem.W.keepIn X.K (.ref f) = true) (hg : Gl X x) (hm : X.mg x = some (.ref f)) (hx : Passes CX X E)
    (hd : (x == ("__debug__" : Str)) = false := by decide) : PE X (.Call (.Name x p) [] [] pos) (fun σ H Q => sp [] H Q E) := by
  refine ⟨fun pins s σ H Q I h => ?_⟩
  refine wpAny_Call_Name_kw (ld_glob I hg hm ?_ hd)
  exact PySem.W.callWith_K0 I.kIn hk (wpAny_call (run_fnR (us := []) F hr hx I .nil h))
/-- def f(*v) of the text -/
theorem star_ok {P : Program} {w : World} {K : PySem.W.Frag} {mg : Str → Option Value} {base : Heap} {k : Nat} {x qual pv : Str} {st : Stmt} {f : Addr} {fd : FuncData} {N : List Str} {sp : List V → Hp → VK → XK → Prop}
    (F : Fun K x qual st f fd) (S : FnScope N [pv] (defScope st))
    (hb : ∀ (kV doc pm : Value) (an : Option Addr) (cdv ct : Value) (rest : List Value), bindArgs (PySem.W.fnOf x qual (defArgs st) (defBody st) (defScope st) .none kV doc pm an cdv ct) ⟨rest, []⟩ = (newTuple rest >>= fun t => pure [(pv, t)]))
    (hbody : ∀ (cdv : Value) (A : Around) (outer : List Env) (s : Shared) (H : Hp) (vs : List V) (p : Addr) (H0 : Hp) (Q : VK) (E : XK), Room k (A.deeper (envOfC qual (defScope st) s.heap.objs.size f cdv)) → sp vs H0 Q E → vs.length ≤ sizeLine → H0 p = Option.none → H = upd H0 p (.tup vs) →
      ∃ t, PSs (cxOf CX0 P w K mg base N qual (defScope st) f cdv A outer s H E).nox (defBody st) t ∧ t { nx := fun _ H' => Q .non H', rt := Q } (start N [V.ref p]) H) :
    FnR P w K mg base CX0 (k + 1) f (fun vs H Q E => vs.length ≤ sizeLine ∧ sp vs H Q E) := by
  obtain ⟨oc, od, kV, doc, pm, an, cdv, ct, osl, rfl, lk, hcd⟩ := F.ex
  refine FnR.imp (fn_star (ps := []) (pv := pv) (CX := CX0) (sp := fun ws H Q E => ∃ (vs : List V) (p : Addr) (H0 : Hp), ws = [V.ref p] ∧ sp vs H0 Q E ∧ vs.length ≤ sizeLine ∧ H0 p = Option.none ∧ H = upd H0 p (.tup vs)) lk hcd S cxUp_none (fun us rest hl => ?_) fun A outer s H vs Q E hr h => ?_) fun vs H Q E h => ?_
  · have e : us = [] := List.length_eq_zero_iff.mp hl
    subst e
    show bindArgs _ ⟨rest, []⟩ = _
    rw [hb]
    rfl
  · obtain ⟨ws, p, H0, rfl, hs, hl, hp, rfl⟩ := h
    obtain ⟨t, ht, hq⟩ := hbody cdv A outer s _ ws p H0 Q E hr hs hl hp rfl
    exact ⟨t, ht.nox, hq⟩
  · exact ⟨[], vs, rfl, rfl, h.1, fun p hp => ⟨vs, p, H, rfl, h.2, h.1, hp, rfl⟩⟩
/-- all but p is as it was -/
structure Fr (p : Addr) (H H' : Hp) : Prop where
  keep : ∀ b o, b ≠ p → H b = some o → H' b = some o
  head : ∀ v xs, H p = some (.lst (v :: xs)) → ∃ ys, H' p = some (.lst (v :: ys))
instance {p : Addr} {H H' : Hp} : CoeFun (Fr p H H') fun _ => ∀ b o, b ≠ p → H b = some o → H' b = some o := ⟨Fr.keep⟩
theorem Fr.refl (p : Addr) (H : Hp) : Fr p H H := ⟨fun _ _ _ h => h, fun _ xs h => ⟨xs, h⟩⟩
theorem Fr.trans {p : Addr} {H H1 H2 : Hp} (a : Fr p H H1) (b : Fr p H1 H2) : Fr p H H2 := ⟨fun c o n h => b.keep c o n (a.keep c o n h), fun v xs h => by
  obtain ⟨ys, h1⟩ := a.head v xs h
  exact b.head v ys h1⟩
theorem same_fr {p : Addr} {H H' : Hp} (s : Same H H') : Fr p H H' := ⟨fun b o _ h => s b o h, fun _ xs h => ⟨xs, s _ _ h⟩⟩
theorem same_new {H : Hp} {p : Addr} {o : HO} (h : H p = Option.none) : Same H (upd H p o) := fun b u e => by
  rw [upd_ne (ne_of_none e h)]; exact e
theorem fr_upd {H : Hp} {p : Addr} {v : V} {xs ys : List V} (hp : H p = some (.lst (v :: xs))) : Fr p H (upd H p (.lst (v :: ys))) := ⟨fun b u n e => by rw [upd_ne n]; exact e, fun v' xs' e => by
  rw [hp] at e
  cases e
  exact ⟨ys, upd_same⟩⟩
theorem Fr.seq {K : PySem.W.Frag} {p a : Addr} {H H' : Hp} {xs : List V} (e : Fr p H H') (n : a ≠ p) (h : SqL K H a xs) : SqL K H' a xs := by
  rcases h with (h | ⟨o, h⟩) | h
  · exact .inl (.inl (e _ _ n h))
  · exact .inl (.inr ⟨o, e _ _ n h⟩)
  · exact .inr h
/-- the state of the draws: the cells, the index, what is left of a great one -/
def Pen (H : Hp) (p : Addr) (n : Nat) : Prop := ∃ (c : Addr) (ns : List Int) (i g : Int), H p = some (.lst [.ref c, .int i, .int g]) ∧ H c = some (.lst (ns.map V.int)) ∧ 0 ≤ i ∧ i ≤ (n : Int) ∧ 0 ≤ g ∧ ns.length ≤ 63
theorem Pen.same {H H' : Hp} {p : Addr} {n : Nat} (h : Pen H p n) (s : Same H H') : Pen H' p n := by
  obtain ⟨c, ns, i, g, h1, h2, h3⟩ := h
  exact ⟨c, ns, i, g, s _ _ h1, s _ _ h2, h3⟩
theorem Pen.mono {H : Hp} {p : Addr} {n m : Nat} (h : Pen H p n) (l : n ≤ m) : Pen H p m := by
  obtain ⟨c, ns, i, g, h1, h2, h3, h4, h5⟩ := h
  exact ⟨c, ns, i, g, h1, h2, h3, by omega, h5⟩
theorem pen_ne {H : Hp} {p c : Addr} {x y : V} {a : Addr} {ns : List Int} (h1 : H p = some (.lst [.ref a, x, y])) (h2 : H c = some (.lst (ns.map V.int))) : c ≠ p := fun e => by
  rw [e, h1] at h2
  cases ns with
  | nil => cases h2
  | cons z r => injection h2 with h2; injection h2 with h2; injection h2 with h2; cases h2
theorem Pen.at {H : Hp} {p : Addr} {n : Nat} (h : Pen H p n) : ∃ xs, H p = some (.lst xs) := by
  obtain ⟨c, ns, i, g, h1, _⟩ := h
  exact ⟨_, h1⟩
theorem Pen.neq {H : Hp} {p a : Addr} {n : Nat} (h : Pen H p n) (e : H a = Option.none) : a ≠ p := fun z => by
  obtain ⟨xs, h⟩ := h.at
  rw [z, h] at e; cases e
theorem if_true_of {c : Bool} {A B : Prop} (hc : c = true) (h : A) : if c = true then A else B := by
  rw [if_pos hc]; exact h
theorem if_false_of {c : Bool} {A B : Prop} (hc : c = false) (h : B) : if c = true then A else B := by
  rw [hc, if_neg Bool.false_ne_true]; exact h
theorem atI_in {ns : List Int} {j : Int} (h0 : 0 ≤ j) (h1 : j < (ns.length : Int)) : ∃ z, atI (ns.map V.int) j = some (V.int z) := by
  have h : j.toNat < ns.length := by omega
  exact ⟨ns[j.toNat], at_of (j := j.toNat) (by omega) (by rw [List.getElem?_map]; simp [h])⟩
theorem atI_any {xs : List V} {j : Int} (h0 : 0 ≤ j) (h1 : j < (xs.length : Int)) : ∃ z, z ∈ xs ∧ atI xs j = some z := by
  have h : j.toNat < xs.length := by omega
  exact ⟨xs[j.toNat], List.getElem_mem h, at_of (j := j.toNat) (by omega) (by simp [h])⟩
theorem cut_ints (ns : List Int) (lo hi : Option Int) : ∃ ms : List Int, cutV (ns.map V.int) lo hi = ms.map V.int ∧ ms.length ≤ ns.length := by
  refine ⟨(ns.drop (HT.sIx (ns.map V.int).length 0 lo)).take (HT.sIx (ns.map V.int).length (ns.map V.int).length hi - HT.sIx (ns.map V.int).length 0 lo), ?_, ?_⟩
  · unfold cutV
    rw [List.map_take, List.map_drop]
  · rw [List.length_take, List.length_drop]
    omega
theorem stir1 {r b d e : Int} (h0 : 0 ≤ r) (h1 : r < 2147483648) (b0 : 0 ≤ b) (b1 : b ≤ 100000) (d0 : 0 ≤ d) (d1 : d ≤ 100000) (e0 : 0 ≤ e) (e1 : e ≤ 100000) : (r + d * b + e).natAbs < 2 ^ 64 := by
  have h2 := Int.mul_nonneg d0 b0
  have h3 : d * b ≤ d * 100000 := Int.mul_le_mul_of_nonneg_left b1 d0
  omega
theorem stir2 {s b c d e : Int} (h0 : 0 ≤ s) (h1 : s < 2147483648) (b0 : 0 ≤ b) (b1 : b ≤ 100000) (c0 : 0 ≤ c) (c1 : c ≤ 100000) (d0 : 0 ≤ d) (d1 : d ≤ 100000) (e0 : 0 ≤ e) (e1 : e ≤ 100000) : (s * (2 * b + c) + d * b * b + e).natAbs < 2 ^ 64 := by
  have h2 := Int.mul_nonneg h0 (show 0 ≤ 2 * b + c by omega)
  have h3 : s * (2 * b + c) ≤ 2147483648 * (2 * b + c) := Int.mul_le_mul_of_nonneg_right (by omega) (by omega)
  have h4 := Int.mul_nonneg d0 b0
  have h5 := Int.mul_nonneg h4 b0
  have h6 : d * b ≤ d * 100000 := Int.mul_le_mul_of_nonneg_left b1 d0
  have h7 : d * b * b ≤ d * b * 100000 := Int.mul_le_mul_of_nonneg_left b1 h4
  omega
theorem small64 {i : Int} (h0 : 0 ≤ i) (h1 : i < 2147483648) : -(2 ^ 64) < i ∧ i < 2 ^ 64 := by omega
theorem fmod_pos {x m : Int} (hm : 0 < m) : 0 ≤ x.fmod m ∧ x.fmod m < m := by
  rw [Int.fmod_eq_emod_of_nonneg x (by omega)]
  exact ⟨Int.emod_nonneg _ (by omega), Int.emod_lt_of_pos _ hm⟩
theorem dp_ints {K : PySem.W.Frag} {H : Hp} : ∀ ns : List Int, DpAll K H (ns.map V.int) (ns.map PyData.int)
  | [] => .nil
  | z :: r => .cons (.int z) (dp_ints r)
theorem eqvAll_ints : ∀ ns : List Int, PyData.eqvAll (ns.map PyData.int) (ns.map PyData.int) = true
  | [] => by simp [PyData.eqvAll]
  | z :: r => by simp [PyData.eqvAll, PyData.eqv, eqvAll_ints r]
theorem eqv_ints (ns : List Int) : PyData.eqv (.list (ns.map PyData.int)) (.list (ns.map PyData.int)) = true := by
  rw [PyData.eqv]; exact eqvAll_ints ns

/-- the target a, b within a comprehension: told of the written part and of the number of names -/
theorem pg_tup2 {X : Cx} {es : List Expr} {k : Nat} {t : TGs} {pos : Pos} (K : PySem.W.Frag) (n : Nat) (hK : X.K = K) (hc : X.calm = true) (h : PGs X es t) (hn : (assignEach es X.env).length = n := by rfl) (hst : (assignEach es X.env).findIdx? (·.1) = none := by rfl) : PG X (.Tuple es k pos) (gTup K n t) := by
  subst hK
  exact pg_tup hc h hn hst
theorem ix_tup2 {X : Cx} (K : PySem.W.Frag) (hK : X.K = K) : IxR X (rIxT K) := by
  subst hK
  exact ix_tup
theorem ix_list2 {X : Cx} (K : PySem.W.Frag) (hK : X.K = K) : IxR X (rIxL K) := by
  subst hK
  exact ix_list
theorem op_eqD2 {X : Cx} (K : PySem.W.Frag) (hK : X.K = K) (hu : X.A.units + 64 < cLine) : OpR X (compareOp .Eq) (rEqD K) := by
  subst hK
  exact op_eqD hu
theorem sl_list2 {X : Cx} (K : PySem.W.Frag) (hK : X.K = K) : SlR X (rSlL K) := by
  subst hK
  exact sl_list
theorem op_in_seq2 {X : Cx} (K : PySem.W.Frag) (hK : X.K = K) : OpR X (compareOp .In) (rIn K false) := by
  subst hK
  exact op_in_seq
theorem op_notIn_seq2 {X : Cx} (K : PySem.W.Frag) (hK : X.K = K) : OpR X (compareOp .NotIn) (rIn K true) := by
  subst hK
  exact op_notIn_seq

/-! ### values by kinds; numbers that are refused -/
/-- v is of the built-in kind t -/
inductive NT (H : Hp) : V → String → Prop where
  | non : NT H .non "NoneType"
  | bl (b : Bool) : NT H (.bl b) "bool"
  | int (i : Int) : NT H (.int i) "int"
  | str (x : Str) : NT H (.str x) "str"
  | lst {a : Addr} {xs : List V} : H a = some (.lst xs) → NT H (.ref a) "list"
  | tup {a : Addr} {xs : List V} : H a = some (.tup xs) → NT H (.ref a) "tuple"
  | dic {a : Addr} {kvs : List (Key × V)} : H a = some (.dK kvs) → NT H (.ref a) "dict"
theorem NT.same {H H' : Hp} (s : Same H H') {v : V} {t : String} (h : NT H v t) : NT H' v t := by
  cases h with
  | non => exact .non
  | bl b => exact .bl b
  | int i => exact .int i
  | str x => exact .str x
  | lst e => exact .lst (s _ _ e)
  | tup e => exact .tup (s _ _ e)
  | dic e => exact .dic (s _ _ e)
theorem NT.ty {K : PySem.W.Frag} {H : Hp} {v : V} {t : String} (h : NT H v t) : TyX K H v (.type t) := by
  cases h with
  | non => exact .base .non
  | bl b => exact .base (.bl b)
  | int i => exact .base (.int i)
  | str x => exact .base (.str x)
  | lst e => exact .base (.lst e)
  | tup e => exact .base (.tup e)
  | dic e => exact .base (.dK e)
theorem NT.kit {H : Hp} {v : V} {t : String} (h : NT H v t) : ∃ b1 b2, kitB t "int" = some b1 ∧ kitB t "bool" = some b2 ∧ (b1 && !b2) = (t == "int") := by
  cases h with
  | non => exact ⟨false, false, by decide +kernel, by decide +kernel, by decide +kernel⟩
  | bl b => exact ⟨true, true, by decide +kernel, by decide +kernel, by decide +kernel⟩
  | int i => exact ⟨true, false, by decide +kernel, by decide +kernel, by decide +kernel⟩
  | str x => exact ⟨false, false, by decide +kernel, by decide +kernel, by decide +kernel⟩
  | lst e => exact ⟨false, false, by decide +kernel, by decide +kernel, by decide +kernel⟩
  | tup e => exact ⟨false, false, by decide +kernel, by decide +kernel, by decide +kernel⟩
  | dic e => exact ⟨false, false, by decide +kernel, by decide +kernel, by decide +kernel⟩
theorem NT.tupB {H : Hp} {v : V} {t : String} (h : NT H v t) : kitB t "tuple" = some (t == "tuple") := by
  cases h <;> decide +kernel
theorem NT.isInt {H : Hp} {v : V} {t : String} (h : NT H v t) (e : t = "int") : ∃ i, v = .int i := by
  cases h with
  | int i => exact ⟨i, rfl⟩
  | _ => exact absurd e (by decide)
/-- def f(*v) of the text, which may raise -/
theorem star_okX {x qual pv : Str} {k : Nat} {st : Stmt} {f : Addr} {fd : FuncData} {N : List Str} {sp : List V → Hp → VK → XK → Prop}
    (F : Fun K x qual st f fd) (S : FnScope N [pv] (defScope st))
    (hb : ∀ (kV doc pm : Value) (an : Option Addr) (cdv ct : Value) (rest : List Value), bindArgs (PySem.W.fnOf x qual (defArgs st) (defBody st) (defScope st) .none kV doc pm an cdv ct) { pos := rest, kw := [] } = (newTuple rest >>= fun t => pure [(pv, t)]))
    (go : ∀ (cdv : Value) (A : Around) (outer : List Env) (s : Shared) (H : Hp) (vs : List V) (p : Addr) (H0 : Hp) (Q : VK) (E : XK), Room k (A.deeper (envOfC qual (defScope st) s.heap.objs.size f cdv)) → sp vs H0 Q E → vs.length ≤ sizeLine → H0 p = Option.none → H = upd H0 p (.tup vs) →
      ∃ t, PSs (cxOf (L2.CX P w) P w K mg base N qual (defScope st) f cdv A outer s H E) (defBody st) t ∧ t { nx := fun _ H1 => Q .non H1, rt := Q } (start N [V.ref p]) H) :
    FnR P w K mg base (L2.CX P w) (k + 1) f (fun vs H Q E => vs.length ≤ sizeLine ∧ sp vs H Q E) := by
  obtain ⟨oc, od, kV, doc, pm, an, cdv, ct, osl, e, lk, hcd⟩ := F.ex
  subst e
  refine FnR.imp (fn_star (ps := []) (pv := pv) (CX := L2.CX P w) (sp := fun ws H Q E => ∃ (vs : List V) (p : Addr) (H0 : Hp), ws = [V.ref p] ∧ sp vs H0 Q E ∧ vs.length ≤ sizeLine ∧ H0 p = Option.none ∧ H = upd H0 p (.tup vs)) lk hcd S cxUp (fun us rest hl => ?_) fun A outer s H vs Q E hr h => ?_) fun vs H Q E h => ?_
  · have e : us = [] := List.length_eq_zero_iff.mp hl
    subst e
    show bindArgs _ { pos := rest, kw := [] } = _
    rw [hb]
    rfl
  · obtain ⟨ws, p, H0, rfl, hs, hl, hp, rfl⟩ := h
    exact go cdv A outer s _ ws p H0 Q E hr hs hl hp rfl
  · exact ⟨[], vs, rfl, rfl, h.1, fun p hp => ⟨vs, p, H, rfl, h.2, h.1, hp, rfl⟩⟩

/-! ### classes: made by a def with a star, static methods -/
/-- def f(p1, p2, *v) of the text -/
theorem star2_ok {x qual p1 p2 pv : Str} {k : Nat} {st : Stmt} {f : Addr} {fd : FuncData} {N : List Str} {sp : V → V → List V → Hp → VK → XK → Prop}
    (F : Fun K x qual st f fd) (S : FnScope N [p1, p2, pv] (defScope st))
    (hb : ∀ (kV doc pm : Value) (an : Option Addr) (cdv ct : Value) (a b : Value) (rest : List Value), bindArgs (PySem.W.fnOf x qual (defArgs st) (defBody st) (defScope st) .none kV doc pm an cdv ct) ⟨a :: b :: rest, []⟩ = (newTuple rest >>= fun t => pure [(p1, a), (p2, b), (pv, t)]))
    (go : ∀ (cdv : Value) (A : Around) (outer : List Env) (s : Shared) (H : Hp) (a b : V) (vs : List V) (p : Addr) (H0 : Hp) (Q : VK) (E : XK), Room k (A.deeper (envOfC qual (defScope st) s.heap.objs.size f cdv)) → sp a b vs H0 Q E → vs.length ≤ sizeLine → H0 p = Option.none → H = upd H0 p (.tup vs) →
      ∃ t, PSs (cxOf CX0 P w K mg base N qual (defScope st) f cdv A outer s H E).nox (defBody st) t ∧ t { nx := fun _ H1 => Q .non H1, rt := Q } (start N [a, b, V.ref p]) H) :
    FnR P w K mg base CX0 (k + 1) f (fun vs H Q E => ∃ a b rest, vs = a :: b :: rest ∧ rest.length ≤ sizeLine ∧ sp a b rest H Q E) := by
  obtain ⟨oc, od, kV, doc, pm, an, cdv, ct, osl, e, lk, hcd⟩ := F.ex
  subst e
  refine FnR.imp (fn_star (ps := [p1, p2]) (pv := pv) (CX := CX0) (sp := fun ws H Q E => ∃ (a b : V) (vs : List V) (p : Addr) (H0 : Hp), ws = [a, b, V.ref p] ∧ sp a b vs H0 Q E ∧ vs.length ≤ sizeLine ∧ H0 p = Option.none ∧ H = upd H0 p (.tup vs)) lk hcd S cxUp_none (fun us rest hl => ?_) fun A outer s H vs Q E hr h => ?_) fun vs H Q E h => ?_
  · match us, hl with
    | [a, b], _ =>
      show bindArgs _ { pos := a :: b :: rest, kw := [] } = _
      rw [hb]
      rfl
  · obtain ⟨a, b, ws, p, H0, rfl, hs, hl, hp, rfl⟩ := h
    obtain ⟨t, ht, hq⟩ := go cdv A outer s _ a b ws p H0 Q E hr hs hl hp rfl
    exact ⟨t, ht.nox, hq⟩
  · obtain ⟨a, b, rest, rfl, hl, hs⟩ := h
    exact ⟨[a, b], rest, rfl, rfl, hl, fun p hp => ⟨a, b, rest, p, H, rfl, hs, hl, hp, rfl⟩⟩
/-- C(e, ..), the init told of its arguments as they are passed -/
def tMkR (C : Addr) (sp : Sp) (E : XK) (t : TA) : TE := fun σ H Q => t σ H fun vs H1 => ∀ x dx, H1 x = Option.none → H1 dx = Option.none → dx ≠ x → sp (.ref x :: vs) (upd (upd H1 dx (.own x)) x (.ins C dx [])) (fun v H2 => v = .non ∧ Q (.ref x) H2) E
section
variable {X : Cx} {CX : CXT} {k : Nat} {f C p g : Addr} {sp : Sp} {E : XK} {x m : Str} {e o : Expr} {es : List Expr} {kws : List Keyword} {ta : TE} {t tk : TA} {pos apos q : Pos} {mc : Value}
theorem run_mkR {pins : List (Addr × Obj)} {σ : L2.St} {H : Hp} {s : Shared} {Q : VK} {us : List Value} {vs : List V} (M : Mk X.K C f) (F : FnR X.prog X.w X.K X.mg X.base CX k f sp) (hr : Room (k + 1) X.A) (hx : Passes CX X E) (I : Inv X pins σ H s) (r : Vals vs us)
    (h : ∀ x dx, H x = Option.none → H dx = Option.none → dx ≠ x → sp (.ref x :: vs) (upd (upd H dx (.own x)) x (.ins C dx [])) (fun v H2 => v = .non ∧ Q (.ref x) H2) E) : wpAny (model X.prog X.w) X.A (call (.ref C) us) (EP X pins σ Q) X.xe s := by
  have hq := h (s.heap.objs.size + 1) s.heap.objs.size (I.hok.fresh (Nat.le_succ _)) (I.hok.fresh (Nat.le_refl _)) (Nat.ne_of_lt (Nat.lt_succ_self _))
  have I2 := Inv.made (C := C) I
  have r1 : Vals (V.ref (s.heap.objs.size + 1) :: vs) (Value.ref (s.heap.objs.size + 1) :: us) := .cons rfl r
  refine wpAny_call (make_map (f := f) I.kIn M.makes M.init (beq_iff_eq.mp M.fn) (codeAny_mono (F _ X.stack _ _ (Value.ref (s.heap.objs.size + 1) :: us) _ _ E (hr.make C us []) (I2.env0.make C us []) r1 hq) fun r s2 hz => ?_))
  match r, hz with
  | .error er, hz => exact hx pins σ _ _ er s2 I2 hz
  | .ok (.ret u), hz =>
    obtain ⟨v, H3, I3, rv, ev, q3⟩ := I2.after hz
    subst ev
    exact ⟨rv, ⟨V.ref (s.heap.objs.size + 1), H3, I3, rfl, q3⟩⟩
theorem pe_mkR (M : Mk X.K C f) (F : FnR X.prog X.w X.K X.mg X.base CX k f sp) (hr : Room (k + 1) X.A) (hx : Passes CX X E) (hg : Gl X x) (hm : X.mg x = some (.ref C)) (ha : PA X (e :: es) t)
    (hdb : (x == ("__debug__" : Str)) = false := by decide) (he : starEach (e :: es) X.env = (false, eval e X.env) :: starEach es X.env := by rfl) (hpl : (backTo pos (starEach es X.env)).any (·.1) = false := by rfl) : PE X (.Call (.Name x q) (e :: es) [] pos) (tMkR C sp E t) := by
  refine ⟨fun pins s σ H Q I h => wpAny_Call_Name_kw (ld_glob I hg hm ?_ hdb)⟩
  refine PySem.W.callWith_K (h₀ := X.base) I.ok.mod.kin M.kp (thn (ha.run pos pins s σ H _ I h) fun us s1 ⟨vs, H1, I1, r, q⟩ => ⟨I1.kIn, ?_⟩) he hpl
  exact run_mkR M F hr hx I1 r q
/-- C.m is a static method: its record at p, its def at g -/
structure CStat (K : PySem.W.Frag) (C : Addr) (mc : Value) (m : Str) (p g : Addr) : Prop where
  at_ : PySem.W.findCls K (.ref C) mc m = some (.get (.builtin "staticmethod.__get__") (.ref p) .none (.ref C))
  rc : ∃ rest, PySem.W.recIn K p "staticmethod" = some (.ref g :: rest)
  kp : PySem.W.keepIn K (.ref g) = true
theorem getmethst_ok {pins : List (Addr × Obj)} {σ : L2.St} {H : Hp} {s : Shared} {A : Around} {E : Value → Shared → Prop} {pl : Sem Bool} {Q : Value × List Value → Shared → Prop} (I : Inv X pins σ H s) (r : ClX.CRead X.K C mc) (k : CStat X.K C mc m p g)
    (h : ∀ s', Inv X pins σ H s' → Q (.ref g, []) s') : wpAny (model X.prog X.w) A (getMethod (.ref C) m pl) Q E s := by
  obtain ⟨rest, hp⟩ := k.rc
  refine PySem.W.method_cls I.kIn r.ga (PySem.W.cls_bind I.kIn r.rd k.at_ ?_)
  exact wpAny_call (PySem.W.sm_get (s := { s with toks := s.toks + 1 }) I.kIn hp (PySem.W.handed_on rfl (h _ (I.tok _))))
/-- C.m(e, ..) -/
def tStat (C : Addr) (sp : Sp) (E : XK) (ta : TE) (t : TA) : TE := fun σ H Q => ta σ H fun x H1 => x = .ref C ∧ t σ H1 fun vs H2 => sp vs H2 Q E
theorem pe_stat {pl : Sem Bool} (he : PE X o ta) (r : ClX.CRead X.K C mc) (c : CStat X.K C mc m p g) (F : FnR X.prog X.w X.K X.mg X.base CX k g sp) (hr : Room k X.A) (hx : Passes CX X E) (ha : PA X (e :: es) t)
    (hst : starEach (e :: es) X.env = (false, eval e X.env) :: starEach es X.env := by rfl) (hpl : (backTo pos (starEach es X.env)).any (·.1) = false := by rfl)
    (ht : eval (.Call (.Attribute o m apos) (e :: es) [] pos) X.env = (do
      let ov ← eval o X.env
      standAt apos.atName
      let (f, first) ← holding [ov] (getMethod ov m pl)
      callWith pos f first (backTo pos (starEach (e :: es) X.env)) (backToKw pos (keywordEach [] X.env))) := by rfl) :
    PE X (.Call (.Attribute o m apos) (e :: es) [] pos) (tStat C sp E ta t) := by
  refine ⟨fun pins s σ H Q I h => PySem.W.methodCall_KW (pl := pl) (thn (he.run pins s σ H _ I h) fun u s1 ⟨x, H1, I1, rx, ex, q⟩ => ?_) ht⟩
  subst ex
  obtain rfl : u = Value.ref C := rx
  refine getmethst_ok I1 r c fun s2 I2 => ?_
  refine PySem.W.callWith_K (h₀ := X.base) I.ok.mod.kin c.kp (thn (ha.run pos pins s2 σ H1 _ I2 q) fun us s3 ⟨vs, H2, I3, rv, q2⟩ => ⟨I3.kIn, ?_⟩) hst hpl
  exact wpAny_call (run_fnR F hr hx I3 rv q2)
theorem pe_stat0 {pl : Sem Bool} (he : PE X o ta) (r : ClX.CRead X.K C mc) (c : CStat X.K C mc m p g) (F : FnR X.prog X.w X.K X.mg X.base CX k g sp) (hr : Room k X.A) (hx : Passes CX X E)
    (ht : eval (.Call (.Attribute o m apos) [] [] pos) X.env = (do
      let ov ← eval o X.env
      standAt apos.atName
      let (f, first) ← holding [ov] (getMethod ov m pl)
      callWith pos f first (backTo pos (starEach [] X.env)) (backToKw pos (keywordEach [] X.env))) := by rfl) :
    PE X (.Call (.Attribute o m apos) [] [] pos) (tStat C sp E ta tNil) := by
  refine ⟨fun pins s σ H Q I h => PySem.W.methodCall_KW (pl := pl) (thn (he.run pins s σ H _ I h) fun u s1 ⟨x, H1, I1, rx, ex, q⟩ => ?_) ht⟩
  subst ex
  obtain rfl : u = Value.ref C := rx
  refine getmethst_ok I1 r c fun s2 I2 => ?_
  exact PySem.W.callWith_K0 I2.kIn c.kp (wpAny_call (run_fnR (us := []) F hr hx I2 .nil q))
/-- C.m(k = v, ..) -/
theorem pe_statK {pl : Sem Bool} {fd : FuncData} {ps ks : List Str} {gu : List Value → List Value → List Value} {gV : List V → List V → List V} (he : PE X o ta) (r : ClX.CRead X.K C mc) (c : CStat X.K C mc m p g) (F : FnOk X.prog X.w X.K X.mg X.base CX k g fd ps sp) (hr : Room k X.A)
    (hb : KBinds X.K fd ps ks gu gV) (hx : Passes CX X E) (hkw : PK X kws tk) (hall : (backToKw pos (keywordEach kws X.env)).all (·.1.isSome) = true := by rfl) (hks : (backToKw pos (keywordEach kws X.env)).filterMap (·.1) = ks := by rfl)
    (hpl : ((backTo pos (starEach [] X.env)).any (·.1) || (backToKw pos (keywordEach kws X.env)).any (·.1.isNone)) = false := by rfl)
    (ht : eval (.Call (.Attribute o m apos) [] kws pos) X.env = (do
      let ov ← eval o X.env
      standAt apos.atName
      let (f, first) ← holding [ov] (getMethod ov m pl)
      callWith pos f first (backTo pos (starEach [] X.env)) (backToKw pos (keywordEach kws X.env))) := by rfl) :
    PE X (.Call (.Attribute o m apos) [] kws pos) (tStat C (fun zs => sp (gV [] zs)) E ta tk) := by
  refine ⟨fun pins s σ H Q I h => PySem.W.methodCall_KW (pl := pl) (thn (he.run pins s σ H _ I h) fun u s1 ⟨x, H1, I1, rx, ex, q⟩ => ?_) ht⟩
  subst ex
  obtain rfl : u = Value.ref C := rx
  refine getmethst_ok I1 r c fun s2 I2 => ?_
  refine PySem.W.callWith_KW0 (h₀ := X.base) I.ok.mod.kin c.kp hall (thn (hkw.run pos pins s2 σ H1 _ I2 q) fun ws s3 ⟨zs, H2, I3, rz, q2⟩ => ⟨I3.kIn, ?_⟩) hpl
  rw [hks]
  exact run_fnk (us := []) F hr hb hx I3 .nil rz q2
end

/-! ### what an own class says of in, not in, ==, len, truth -/
section
variable {X : Cx} {CX : CXT} {k : Nat} {C f : Addr} {fd : FuncData} {ps : List Str} {sp : Sp} {E : XK}
/-- an instance as the walk knows it -/
theorem ins_at {pins : List (Addr × Obj)} {σ : L2.St} {H : Hp} {s : Shared} {a dx : Addr} {fs : List (Str × V)} (I : Inv X pins σ H s) (e : H a = some (.ins C dx fs)) : ∃ (o : Obj) (od : Option Obj), PySem.W.InstAt s.heap a o C od := by
  obtain ⟨mA, O, _, _, _, _⟩ := ins_get I.hok e
  obtain ⟨od, J, _⟩ := O.look
  exact ⟨_, _, J⟩
/-- x in a: the own __contains__ answers a truth -/
def rInO (C : Addr) (sp : Sp) (E : XK) : R2 := fun x y H Q => ∃ (a dx : Addr) (fs : List (Str × V)), y = .ref a ∧ H a = some (.ins C dx fs) ∧ sp [.ref a, x] H (fun v H' => ∃ b, v = .bl b ∧ Q (.bl b) H') E
def rNotInO (C : Addr) (sp : Sp) (E : XK) : R2 := fun x y H Q => ∃ (a dx : Addr) (fs : List (Str × V)), y = .ref a ∧ H a = some (.ins C dx fs) ∧ sp [.ref a, x] H (fun v H' => ∃ b, v = .bl b ∧ Q (.bl (!b)) H') E
theorem op_inO (F : FnOk X.prog X.w X.K X.mg X.base CX k f fd ps sp) (hr : Room k X.A) (hb : Binds X.K fd ps []) (hx : Passes CX X E) (hs : PySem.W.findIn X.K (.ref C) "__contains__" = some (some (.ref f))) (hf : PySem.W.isFn X.K (.ref f) = true) : OpR X (compareOp .In) (rInO C sp E) := by
  intro pins s σ H x y v u Q I rx ry h
  obtain ⟨a, dx, fs, rfl, ha, q⟩ := h
  obtain rfl : u = Value.ref a := ry
  obtain ⟨o, od, J⟩ := ins_at I ha
  obtain ⟨m, hF⟩ := I.fr
  refine PySem.W.in_K hF I.ok.mod.kin J hs hf (thn (run_fn (us := [.ref a, v]) (vs := [.ref a, x]) F hr hb .nil hx I (.cons rfl (.cons rx .nil)) q) fun r s1 z => ?_)
  obtain ⟨w, H1, I1, rw1, b, rfl, q1⟩ := z
  cases rw1
  exact wpAny_truthy_bool ⟨.bl b, H1, I1, rfl, q1⟩
theorem op_notInO (F : FnOk X.prog X.w X.K X.mg X.base CX k f fd ps sp) (hr : Room k X.A) (hb : Binds X.K fd ps []) (hx : Passes CX X E) (hs : PySem.W.findIn X.K (.ref C) "__contains__" = some (some (.ref f))) (hf : PySem.W.isFn X.K (.ref f) = true) : OpR X (compareOp .NotIn) (rNotInO C sp E) := by
  intro pins s σ H x y v u Q I rx ry h
  obtain ⟨a, dx, fs, rfl, ha, q⟩ := h
  obtain rfl : u = Value.ref a := ry
  obtain ⟨o, od, J⟩ := ins_at I ha
  obtain ⟨m, hF⟩ := I.fr
  refine PySem.W.notIn_K hF I.ok.mod.kin J hs hf (thn (run_fn (us := [.ref a, v]) (vs := [.ref a, x]) F hr hb .nil hx I (.cons rfl (.cons rx .nil)) q) fun r s1 z => ?_)
  obtain ⟨w, H1, I1, rw1, b, rfl, q1⟩ := z
  cases rw1
  exact wpAny_truthy_bool ⟨.bl (!b), H1, I1, rfl, q1⟩
/-- a == b, both instances of the class -/
def rEqO (C : Addr) (sp : Sp) (E : XK) : R2 := fun x y H Q => ∃ (a b dx dy : Addr) (fs gs : List (Str × V)), x = .ref a ∧ y = .ref b ∧ H a = some (.ins C dx fs) ∧ H b = some (.ins C dy gs) ∧ sp [.ref a, .ref b] H (fun v H' => ∃ b, v = .bl b ∧ Q (.bl b) H') E
theorem op_eqO (F : FnOk X.prog X.w X.K X.mg X.base CX k f fd ps sp) (hr : Room k X.A) (hb : Binds X.K fd ps []) (hx : Passes CX X E) (hs : PySem.W.findIn X.K (.ref C) "__eq__" = some (some (.ref f))) (hf : PySem.W.isFn X.K (.ref f) = true) : OpR X (compareOp .Eq) (rEqO C sp E) := by
  intro pins s σ H x y v u Q I rx ry h
  obtain ⟨a, b, dx, dy, fs, gs, rfl, rfl, ha, hb2, q⟩ := h
  obtain rfl : v = Value.ref a := rx
  obtain rfl : u = Value.ref b := ry
  obtain ⟨o, od, J⟩ := ins_at I ha
  obtain ⟨o2, od2, J2⟩ := ins_at I hb2
  obtain ⟨m, hF⟩ := I.fr
  show wpAny (model X.prog X.w) X.A (richCompare .Eq (.ref a) (.ref b)) (EP X pins σ Q) X.xe s
  refine PySem.W.cmp_K (op := .Eq) (tb := .ref C) hr.units0 hF I.ok.mod.kin J J2.type (by simp [PySem.W.notFirst]) hs hf (thn (run_fn (us := [.ref a, .ref b]) (vs := [.ref a, .ref b]) F hr hb .nil hx I (.cons rfl (.cons rfl .nil)) q) fun r s1 z => ?_)
  obtain ⟨w, H1, I1, rw1, c, rfl, q1⟩ := z
  cases rw1
  exact ⟨.bl c, H1, I1, rfl, q1⟩
/-- len(a) -/
def rLenO (C : Addr) (sp : Sp) (E : XK) : List V → Hp → VK → Prop := fun xs H Q => ∃ (a dx : Addr) (fs : List (Str × V)), xs = [.ref a] ∧ H a = some (.ins C dx fs) ∧ sp [.ref a] H (fun v H' => ∃ n : Int, v = .int n ∧ 0 ≤ n ∧ n < 2 ^ 63 ∧ Q (.int n) H') E
end
/-! ### len, !=, truth of an own class -/
section
variable {prog : Program} {w : World} {A : Around} {E : Value → Shared → Prop} {s : Shared} {K : PySem.W.Frag} {x C L f : Addr} {h₀ : Heap} {m : Str → Option Value} {ox : Obj} {od : Option Obj} {b tb : Value}
theorem neO_entry {Q : Fin → Shared → Prop} (hu : A.units < cLine) (X : K.In s.heap) (I : PySem.W.InstAt s.heap x ox C od) (hs : PySem.W.findIn K (.ref C) "__eq__" = some (some (.ref f))) (hf : PySem.W.isFn K (.ref f) = true)
    (hcall : wpAny (model prog w) A (call (.ref f) [.ref x, b]) (fun v s' => ∃ c, v = .bool c ∧ Q (.done (.ret (.bool (!c)))) s') E s) :
    wpAny (model prog w) A (Builtin.«object.__ne__» ⟨[.ref x, b], []⟩) Q E s := by
  unfold Builtin.«object.__ne__»
  repeat (first
    | with_reducible refine wpAny_cRoomFor hu ?_
    | (refine wpAny_bind (m := callSpecialIfBound? (.ref x) (Str.ofString "__eq__") [b])
        (PySem.W.ifBound_K X I hs hf (wpAny_mono hcall (fun r s' hr => by
          obtain ⟨c, rfl, hq⟩ := hr
          repeat (first | exact hq | exact wpAny_pure hq | exact wpAny_truthy_bool hq | (refine wpAny_bind (m := truthy (.bool _)) (wpAny_truthy_bool ?_)) | wp_step)) fun _ _ e => e)))
    | wp_step)
theorem ifBound_objNe {M : Model} {args : List Value} {Q : Option Value → Shared → Prop} (X : K.In s.heap) (I : PySem.W.InstAt s.heap x ox C od) (hs : PySem.W.findIn K (.ref C) "__ne__" = some (some (.builtin "object.__ne__")))
    (h : wpAny M A (call (.builtin "object.__ne__") (.ref x :: args)) (fun v => Q (some v)) E s) : wpAny M A (callSpecialIfBound? (.ref x) "__ne__" args) Q E s := by
  simp only [callSpecialIfBound?, bindSpecialIfBound?]
  refine wpAny_holding (wpAny_bind (wpAny_bind (wpAny_bind (I.type.here ((PySem.W.looks_findIn X hs).here ?_)))))
  refine wpAny_bind (wpAny_askSetting (wpAny_ite ?_))
  have fin : wpAny M A (call (.builtin "object.__ne__") ([.ref x] ++ args) >>= fun v => pure (some v)) Q E s := wpAny_bind (wpAny_mono h (fun v s' h' => wpAny_pure h') fun _ _ h' => h')
  split
  · exact wpAny_bind (wpAny_of_eq (F.cmp_object.ne.bind _) (wpAny_pure (by exact fin)))
  · exact wpAny_tryCatch (wpAny_bind (wpAny_of_eq (F.cmp_object.ne.bind _) (wpAny_pure (by exact fin))))
theorem ne_own {Q : Value → Shared → Prop} (hu : A.units + 1 < cLine) (F : PyProof.Rows.Fr h₀ L s.heap m) (X₀ : K.In h₀) (I : PySem.W.InstAt s.heap x ox C od) (hb : PySem.W.Looks (model prog w) s.heap (typeOf b) tb) (hn : PySem.W.notFirst K C tb = true)
    (hm : PySem.W.mroIn K C (.type "object") = some true) (he : PySem.W.findIn K (.ref C) "__ne__" = some (some (.builtin "object.__ne__")))
    (hs : PySem.W.findIn K (.ref C) "__eq__" = some (some (.ref f))) (hf : PySem.W.isFn K (.ref f) = true)
    (h : wpAny (model prog w) A.in1 (call (.ref f) [.ref x, b]) (fun v s' => ∃ c, v = .bool c ∧ Q (.bool (!c)) s') E s) : wpAny (model prog w) A (richCompare .NotEq (.ref x) b) Q E s := by
  have X := X₀.keeps F.keep
  have one : wpAny (model prog w) A (tryCompare (.ref x) (cmpInfo .NotEq).2.1 b) (fun r s' => ∃ v, r = some v ∧ Q v s') E s := by
    unfold tryCompare
    refine wpAny_bind (ifBound_objNe X I he (wpAny_call (codeAny_call_builtin PySem.F.cmp_object.ne.plain PySem.F.cmpEntry_ne (PySem.W.check_slot PySem.F.cmpKind_ne PySem.F.cmpSplit_ne (I.type.andThen (PySem.W.looks_mroIn X hm)) (PySem.F.cmpArgs_ne _ _)
      (neO_entry (A := A.in1) hu X I hs hf (wpAny_mono h (fun v s' hv => ?_) fun _ _ e => e))))))
    obtain ⟨c, rfl, hq⟩ := hv
    exact ⟨c, rfl, wpAny_pure ⟨_, rfl, hq⟩⟩
  unfold richCompare
  simp only [oneThing_ref]
  refine wpAny_holding (wpAny_bind (wpAny_cRoomFor (Nat.lt_of_succ_lt hu) ?_))
  refine wpAny_bind (I.type.here (wpAny_bind (hb.here ?_)))
  split
  · rename_i q
    have e : PySem.W.subIn K tb (.ref C) = some false := by
      rcases Bool.or_eq_true_iff.mp hn with e | e
      · rw [beq_iff_eq.mp e] at q; simp at q
      · exact beq_iff_eq.mp e
    refine wpAny_bind ((PySem.W.looks_subIn X e).here ?_)
    simp only [Bool.false_eq_true, if_false]
    refine wpAny_bind (wpAny_mono one (fun r s' z => ?_) fun _ _ e => e)
    obtain ⟨v, rfl, hq⟩ := z
    exact wpAny_pure hq
  · refine wpAny_bind (wpAny_pure ?_)
    simp only [Bool.false_eq_true, if_false]
    refine wpAny_bind (wpAny_mono one (fun r s' z => ?_) fun _ _ e => e)
    obtain ⟨v, rfl, hq⟩ := z
    exact wpAny_pure hq
end
section
variable {X : Cx} {CX : CXT} {k : Nat} {C f : Addr} {fd : FuncData} {ps : List Str} {sp : Sp} {E : XK}
/-- the callee runs deeper -/
theorem run_fnA {A' : Around} {pins : List (Addr × Obj)} {σ : L2.St} {H : Hp} {s : Shared} {Q : VK} {us : List Value} {vs : List V} (F : FnOk X.prog X.w X.K X.mg X.base CX k f fd ps sp) (hr : Room k A') (hA : ∀ {s : Shared} {H : Hp}, Env0 X.prog X.w X.K X.mg X.base X.A X.stack s H → Env0 X.prog X.w X.K X.mg X.base A' X.stack s H) (hb : Binds X.K fd ps []) (hx : Passes CX X E)
    (I : Inv X pins σ H s) (r : Vals vs us) (h : sp vs H Q E) : wpAny (model X.prog X.w) A' (call (.ref f) us) (EP X pins σ Q) X.xe s := by
  have hl : (us ++ []).length = ps.length := by rw [List.append_nil, ← r.length]; exact F.len _ _ _ _ h
  have hb' := hb s us I.kIn hl
  rw [List.append_nil] at hb'
  refine wpAny_call (codeAny_mono (F.run A' X.stack s H ⟨us, []⟩ us vs Q E hr (hA I.env0) hb' r h) fun r s' hq => ?_)
  cases r with
  | error e => exact hx pins σ H s e s' I hq
  | ok fl =>
    cases fl with
    | ret u => exact I.after hq
    | next => exact False.elim hq
    | brk => exact False.elim hq
    | cont => exact False.elim hq
theorem run_fn1 {pins : List (Addr × Obj)} {σ : L2.St} {H : Hp} {s : Shared} {Q : VK} {us : List Value} {vs : List V} (F : FnOk X.prog X.w X.K X.mg X.base CX k f fd ps sp) (hr : Room (k + 1) X.A) (hb : Binds X.K fd ps []) (hx : Passes CX X E)
    (I : Inv X pins σ H s) (r : Vals vs us) (h : sp vs H Q E) : wpAny (model X.prog X.w) X.A.in1 (call (.ref f) us) (EP X pins σ Q) X.xe s := run_fnA F hr.in1 (fun e => e.in1) hb hx I r h
theorem call_lenO (F : FnOk X.prog X.w X.K X.mg X.base CX k f fd ps sp) (hr : Room (k + 1) X.A) (hb : Binds X.K fd ps []) (hx : Passes CX X E) (hs : PySem.W.findIn X.K (.ref C) "__len__" = some (some (.ref f))) (hf : PySem.W.isFn X.K (.ref f) = true) : CallR X (.builtin "len") (rLenO C sp E) := by
  intro pins s σ H xs us Q I r h
  obtain ⟨a, dx, fs, rfl, ha, q⟩ := h
  obtain ⟨u, rfl, ru⟩ := vals1 r
  obtain rfl : u = Value.ref a := ru
  obtain ⟨o, od, J⟩ := ins_at I ha
  obtain ⟨m, hF⟩ := I.fr
  refine PySem.W.len_K hF I.ok.mod.kin J hs hf (thn (run_fn1 (us := [.ref a]) (vs := [.ref a]) F hr hb hx I (.cons rfl .nil) q) fun v s1 z => ?_)
  obtain ⟨w', H1, I1, rw1, n, rfl, h0, h1, q1⟩ := z
  obtain ⟨t, rfl⟩ := rw1
  exact ⟨⟨h0, h1⟩, .int n, H1, I1.tok _, ⟨_, rfl⟩, q1⟩
/-- a != b, both instances of the class, whose __eq__ is its own -/
def rNeO (C : Addr) (sp : Sp) (E : XK) : R2 := fun x y H Q => ∃ (a b dx dy : Addr) (fs gs : List (Str × V)), x = .ref a ∧ y = .ref b ∧ H a = some (.ins C dx fs) ∧ H b = some (.ins C dy gs) ∧ sp [.ref a, .ref b] H (fun v H' => ∃ b, v = .bl b ∧ Q (.bl (!b)) H') E
theorem op_neO (F : FnOk X.prog X.w X.K X.mg X.base CX k f fd ps sp) (hr : Room (k + 1) X.A) (hb : Binds X.K fd ps []) (hx : Passes CX X E) (hm : PySem.W.mroIn X.K C (.type "object") = some true) (he : PySem.W.findIn X.K (.ref C) "__ne__" = some (some (.builtin "object.__ne__")))
    (hs : PySem.W.findIn X.K (.ref C) "__eq__" = some (some (.ref f))) (hf : PySem.W.isFn X.K (.ref f) = true) : OpR X (compareOp .NotEq) (rNeO C sp E) := by
  intro pins s σ H x y v u Q I rx ry h
  obtain ⟨a, b, dx, dy, fs, gs, rfl, rfl, ha, hb2, q⟩ := h
  obtain rfl : v = Value.ref a := rx
  obtain rfl : u = Value.ref b := ry
  obtain ⟨o, od, J⟩ := ins_at I ha
  obtain ⟨o2, od2, J2⟩ := ins_at I hb2
  obtain ⟨m, hF⟩ := I.fr
  show wpAny (model X.prog X.w) X.A (richCompare .NotEq (.ref a) (.ref b)) (EP X pins σ Q) X.xe s
  have hu := hr.units
  refine ne_own (tb := .ref C) (by omega) hF I.ok.mod.kin J J2.type (by simp [PySem.W.notFirst]) hm he hs hf (thn (run_fn1 (us := [.ref a, .ref b]) (vs := [.ref a, .ref b]) F hr hb hx I (.cons rfl (.cons rfl .nil)) q) fun r s1 z => ?_)
  obtain ⟨w, H1, I1, rw1, c, rfl, q1⟩ := z
  cases rw1
  exact ⟨c, rfl, .bl (!c), H1, I1, rfl, q1⟩
/-- the truth of an instance with an own __len__ and no __bool__ -/
def rTruO (C : Addr) (sp : Sp) (E : XK) : V → Hp → (Bool → Hp → Prop) → Prop := fun x H Q => ∃ (a dx : Addr) (fs : List (Str × V)), x = .ref a ∧ H a = some (.ins C dx fs) ∧ sp [.ref a] H (fun v H' => ∃ n : Int, v = .int n ∧ 0 ≤ n ∧ n < 2 ^ 63 ∧ Q (n != 0) H') E
theorem tru_own {A : Around} {pins : List (Addr × Obj)} {σ : L2.St} {H : Hp} {s : Shared} {R : Bool → Shared → Prop} {a dx : Addr} {fs : List (Str × V)} (I : Inv X pins σ H s) (ha : H a = some (.ins C dx fs))
    (hn : PySem.W.findIn X.K (.ref C) "__bool__" = some none) (hs : PySem.W.findIn X.K (.ref C) "__len__" = some (some (.ref f))) (hf : PySem.W.isFn X.K (.ref f) = true)
    (h : wpAny (model X.prog X.w) A.in1 (call (.ref f) [.ref a]) (fun v s' => ∃ n t, v = .int n t ∧ 0 ≤ n ∧ n < 2 ^ 63 ∧ R (n != 0) { s' with toks := s'.toks + 1 }) X.xe s) : wpAny (model X.prog X.w) A (truthy (.ref a)) R X.xe s := by
  obtain ⟨o, od, J⟩ := ins_at I ha
  obtain ⟨m, hF⟩ := I.fr
  have XI := I.kIn
  unfold truthy
  refine wpAny_bind (m := callSpecial? (.ref a) (Str.ofString "__bool__")) (wpAny_bind (wpAny_bind (J.type.here ((PySem.W.looks_findIn XI hn).here (wpAny_pure ?_)))))
  refine wpAny_bind (wpAny_bind (J.type.here ((PySem.W.looks_findIn XI hs).here ?_)))
  show wpAny _ _ (if (some (Value.ref f)).isNone = true then _ else _) _ _ _
  rw [if_neg (by simp)]
  refine wpAny_bind (m := runValue (.builtin "len" ⟨[.ref a], []⟩)) (wpAny_runValue (codeAny_builtin PySem.entry_len ?_))
  unfold Builtin.«len»
  refine wpAny_bind (m := oneArg "len" _) (wpAny_pure ?_)
  refine wpAny_bind (m := callSpecial? (.ref a) (Str.ofString "__len__")) (PySem.W.special_fn XI J hs (beq_iff_eq.mp hf) (wpAny_mono h (fun r s' hr => ?_) fun _ _ y => y))
  obtain ⟨n, t, rfl, h0, h1, hq⟩ := hr
  refine wpAny_bind (wpAny_holding (wpAny_pure ?_))
  refine wpAny_bind (wpAny_letGo ?_)
  show wpAny _ _ (if n < 0 then _ else _) _ _ _
  rw [if_neg (by omega)]
  show wpAny _ _ (if n ≥ 2 ^ 63 then _ else _) _ _ _
  rw [if_neg (by omega)]
  exact wpAny_bind (wpAny_mkInt (wpAny_pure (wpAny_pure hq)))
theorem tru_lenO (F : FnOk X.prog X.w X.K X.mg X.base CX k f fd ps sp) (hr : Room (k + 1) X.A) (hb : Binds X.K fd ps []) (hx : Passes CX X E) (hn : PySem.W.findIn X.K (.ref C) "__bool__" = some none) (hs : PySem.W.findIn X.K (.ref C) "__len__" = some (some (.ref f)))
    (hf : PySem.W.isFn X.K (.ref f) = true) : TruR X (rTruO C sp E) := by
  intro pins s σ H x v Q I rx h
  obtain ⟨a, dx, fs, rfl, ha, q⟩ := h
  obtain rfl : v = Value.ref a := rx
  refine tru_own I ha hn hs hf (thn (run_fn1 (us := [.ref a]) (vs := [.ref a]) F hr hb hx I (.cons rfl .nil) q) fun r s1 z => ?_)
  obtain ⟨w', H1, I1, rw1, n, rfl, h0, h1, q1⟩ := z
  obtain ⟨t, rfl⟩ := rw1
  exact ⟨n, t, rfl, h0, h1, H1, I1.tok _, q1⟩
end
section
variable {prog : Program} {w : World} {A : Around} {E : Value → Shared → Prop} {s : Shared} {a : Addr}
theorem bool_own {R : Value → Shared → Prop} (h : ∀ A', A' = A.in1.in1 → wpAny (model prog w) A' (truthy (.ref a)) (fun b s' => R (.bool b) s') E s) : wpAny (model prog w) A (call (.type "bool") [.ref a]) R E s := by
  refine callType_codes (Q₁ := fun obj s₁ => s₁.TypeIs obj "bool" ∧ R obj s₁) PySem.F.called_bool (PySem.F.typeCall_bool_1 _) PySem.F.entry_object_init ?_ fun obj s₁ h₁ => ?_
  · refine codeAny_of_tree ?_
    show wpAny _ A.in1.in1 (do checkBuiltinCall "bool.__new__" ⟨[.type "bool", .ref a], []⟩; again (.builtin "bool.__new__" ⟨[.type "bool", .ref a], []⟩)) _ _ s
    refine wpAny_bind (wpAny_of_eq (PySem.F.newCall_bool_1 _) (wpAny_pure ⟨plainId_quiet (by decide +kernel) _, codeAny_builtin PySem.F.entry_bool_new ?_⟩))
    rw [Around.under_plainId (by decide +kernel) _]
    have f1 := PySem.F.conv_sub_bool
    obtain ⟨hp, g, d, tk, os⟩ := s
    repeat (any_goals (first | assumption | (with_reducible refine wpAny_mono (h _ ?_) (fun b s' z => ?_) fun _ _ z => z) | wp_step))
    · rfl
    · exact ⟨rfl, z⟩
  · exact ⟨h₁.1, PySem.F.args_object_init_2 obj _, object_init_meets PySem.F.called_bool.init.lookup PySem.F.called_bool.made (by decide) prog w A.in1 _ s₁ ⟨h₁.1, rfl, h₁.2⟩⟩
end
section
variable {X : Cx} {CX : CXT} {k : Nat} {C f : Addr} {fd : FuncData} {ps : List Str} {sp : Sp} {E : XK}
/-- bool(x) of an instance with an own __len__ -/
def rBoolO (C : Addr) (sp : Sp) (E : XK) : List V → Hp → VK → Prop := fun xs H Q => ∃ (a dx : Addr) (fs : List (Str × V)), xs = [.ref a] ∧ H a = some (.ins C dx fs) ∧ sp [.ref a] H (fun v H' => ∃ n : Int, v = .int n ∧ 0 ≤ n ∧ n < 2 ^ 63 ∧ Q (.bl (n != 0)) H') E
theorem call_boolO (F : FnOk X.prog X.w X.K X.mg X.base CX k f fd ps sp) (hr : Room (k + 3) X.A) (hb : Binds X.K fd ps []) (hx : Passes CX X E) (hn : PySem.W.findIn X.K (.ref C) "__bool__" = some none) (hs : PySem.W.findIn X.K (.ref C) "__len__" = some (some (.ref f)))
    (hf : PySem.W.isFn X.K (.ref f) = true) : CallR X (.type "bool") (rBoolO C sp E) := by
  intro pins s σ H xs us Q I r h
  obtain ⟨a, dx, fs, rfl, ha, q⟩ := h
  obtain ⟨u, rfl, ru⟩ := vals1 r
  obtain rfl : u = Value.ref a := ru
  refine bool_own fun A' e => ?_
  subst e
  refine tru_own I ha hn hs hf (thn (run_fnA (us := [.ref a]) (vs := [.ref a]) F hr.in1.in1.in1 (fun e => e.in1.in1.in1) hb hx I (.cons rfl .nil) q) fun r s1 z => ?_)
  obtain ⟨w', H1, I1, rw1, n, rfl, h0, h1, q1⟩ := z
  obtain ⟨t, rfl⟩ := rw1
  exact ⟨n, t, rfl, h0, h1, .bl (n != 0), H1, I1.tok _, rfl, q1⟩
/-- not x, by a truth that is told -/
theorem pe_notT {r : V → Hp → (Bool → Hp → Prop) → Prop} {a : Expr} {ta : TE} {pos : Pos} (hc : TruR X r) (ha : PE X a ta) : PE X (.UnaryOp .Not a pos) (fun σ H Q => ta σ H fun x H1 => r x H1 fun b H2 => Q (.bl (!b)) H2) := by
  refine ⟨fun pins s σ H Q I h => ?_⟩
  refine UnaryOp_ (thn (ha.run pins s σ H _ I h) fun v s1 ⟨x, H1, I1, r1, q1⟩ => ?_)
  exact not_of (thn (hc pins s1 σ H1 x v _ I1 r1 q1) fun b s2 ⟨H2, I2, q2⟩ => ⟨.bl (!b), H2, I2, rfl, q2⟩)
end
/-! ### iteration over an instance whose own __iter__ hands on the iterator of a tuple -/
/-- at it an iterator over the tuple at l, at its begin -/
def ItTO (l it : Addr) : HO := .ext fun h => h.IsTupleIter it l 0
section
variable {X : Cx}
/-- iter(t), t a tuple -/
def rIterT (K : PySem.W.Frag) (n : Nat) : List V → Hp → VK → Prop := fun xs H Q => ∃ (l : Addr) (zs : List V), xs = [.ref l] ∧ SqT K H l zs ∧ ∀ it, H it = Option.none → n ≤ it → Q (.ref it) (upd H it (ItTO l it))
theorem call_iterT : CallR X (.builtin "iter") (rIterT X.K X.s_0.heap.objs.size) := by
  intro pins s σ H xs us Q I r h
  obtain ⟨l, zs, rfl, hq, q⟩ := h
  obtain rfl := Vals.ref1 r
  obtain ⟨its, rv, pl, hz⟩ := I.tuple hq
  refine Calls.call_function_entry (by decide +kernel) (by decide +kernel) PySem.W.kdk_entry_iter (PySem.W.kdk_args_iter _) ?_
  unfold Builtin.«iter»
  refine wpAny_bind (m := someArgs "iter" 1 2 _) (wpAny_of_eq (a := [Value.ref l]) (by first | rfl | kernel_rfl!) ?_)
  show wpAny _ _ (pyIter (.ref l) >>= _) _ _ _
  refine wpAny_bind (wpAny_pyIter_tuple pl ?_)
  have st : (s.heap.push { cls := .type "tuple_iterator", data := .fields #[.ref l, .int 0 0] }).IsTupleIter s.heap.objs.size l 0 := ⟨_, Heap.get?_push_size _ rfl, rfl, rfl⟩
  exact wpAny_pure ⟨_, rfl, .ref s.heap.objs.size, _, I.laid (t' := s.toks) (o := ItTO l s.heap.objs.size) (fun b u e => Heap.get?_push_of_some _ e) (Nat.le_refl _) ⟨st, ⟨_, Heap.get?_push_size _ rfl⟩, fun h1 h2 q k => q.at fun o e => k o e⟩, rfl, q _ (I.hok.fresh (Nat.le_refl _)) I.sz⟩
/-- a def that is told of the room's size at its call -/
def FnN (P : Program) (w : World) (K : PySem.W.Frag) (mg : Str → Option Value) (base : Heap) (CX : CXT) (k : Nat) (f : Addr) (sp : Nat → Sp) : Prop :=
  ∀ (A : Around) (outer : List Env) (s : Shared) (H : Hp) (us : List Value) (vs : List V) (Q : VK) (E : XK), Room k A → Env0 P w K mg base A outer s H → Vals vs us → sp s.heap.objs.size vs H Q E →
    codeAny (model P w) A (.call (.ref f) { pos := us, kw := [] }) (CR CX outer P w H s Q E) s
theorem FnN.mk0 {P : Program} {w : World} {K : PySem.W.Frag} {mg : Str → Option Value} {base : Heap} {k : Nat} {x qual : Str} {st : Stmt} {f : Addr} {fd : FuncData} {N ps : List Str} {sp : Nat → Sp}
    (F : Fun K x qual st f fd) (S : FnScope N ps (defScope st)) (B : Binds K fd ps []) (len : ∀ n vs H Q E, sp n vs H Q E → vs.length = ps.length)
    (go : ∀ (cdv : Value) (A : Around) (outer : List Env) (s : Shared) (H : Hp) (vs : List V) (Q : VK) (E : XK), Room k (A.deeper (envOfC qual (defScope st) s.heap.objs.size f cdv)) → sp s.heap.objs.size vs H Q E →
      ∃ t, PSs (cxOf CX0 P w K mg base N qual (defScope st) f cdv A outer s H E).nox (defBody st) t ∧ t { nx := fun _ H1 => Q .non H1, rt := Q } (start N vs) H) : FnN P w K mg base CX0 (k + 1) f sp := by
  obtain ⟨oc, od, kV, doc, pm, an, cdv, ct, osl, e, lk, hcd⟩ := F.ex
  subst e
  intro A outer s H us vs Q E hr e0 rv hs
  have hl := len _ _ _ _ _ hs
  have hu : (us ++ []).length = ps.length := by rw [List.append_nil, ← hl]; exact rv.length.symm
  have b := B s us (e0.mod.kin.keeps fun b o z => (e0.bs b o z).1) hu
  rw [List.append_nil] at b
  exact LamX.run_ofS lk hcd S hr e0 b rv hl fun hr1 => by
    obtain ⟨t, ht, q⟩ := go cdv A outer s H vs Q E hr1 hs
    exact ⟨t, ht.nox, q⟩
variable {CX : CXT} {k : Nat} {C f : Addr} {sp : Nat → Sp} {E : XK} {tg iter : Expr} {te : TE}
def iOwnT (K : PySem.W.Frag) (C : Addr) (sp : Nat → Sp) (E : XK) (te : TE) : TI := fun σ H R => te σ H fun x H1 => ∃ (a dx : Addr) (fs : List (Str × V)), x = .ref a ∧ H1 a = some (.ins C dx fs) ∧
  ∀ n, sp n [.ref a] H1 (fun v H2 => ∃ it l, v = .ref it ∧ n ≤ it ∧ H2 it = some (ItTO l it) ∧ R (Itt K l) (ItX.dropH H2 it)) E
theorem pi_ownT (he : PE X iter te) (F : FnN X.prog X.w X.K X.mg X.base CX k f sp) (hr : Room k X.A) (hx : Passes CX X E) (hs : PySem.W.findIn X.K (.ref C) "__iter__" = some (some (.ref f))) (hf : PySem.W.isFn X.K (.ref f) = true) : PI X tg iter (iOwnT X.K C sp E te) := by
  refine ⟨fun pins s σ H R I h => ?_⟩
  refine thn (he.run pins s σ H _ I h) fun u s1 ⟨x, H1, I1, rx, a, dx, fs, ex, ha, q⟩ => ?_
  subst ex
  obtain rfl : u = Value.ref a := rx
  obtain ⟨o, od, J⟩ := ins_at I1 ha
  obtain ⟨m, hF⟩ := I1.fr
  refine PySem.W.owit_iter hF I1.ok.mod.kin J hs hf (wpAny_call (codeAny_mono (F X.A X.stack s1 H1 [.ref a] [.ref a] _ E hr I1.env0 (.cons rfl .nil) (q _)) fun r s' hq => ?_))
  cases r with
  | error e => exact hx pins σ H1 s1 e s' I1 hq
  | ok fl =>
    cases fl with
    | next => exact False.elim hq
    | brk => exact False.elim hq
    | cont => exact False.elim hq
    | ret u =>
      obtain ⟨v, H2, I2, rv, it, l, ev, hn, hi, qR⟩ := I1.after hq
      subst ev
      obtain rfl : u = Value.ref it := rv
      have st : s'.heap.IsTupleIter it l 0 := (I2.hok it _ hi).1
      show PySem.W.OwitIt _ _ _ _ _ _
      unfold PySem.W.OwitIt specialOf
      refine wpAny_bind (wpAny_typeOf st.typeIs ?_)
      refine wpAny_of_eq PySem.F.slot_tuple_iterator_next.lookup ?_
      have hi' := hi
      unfold ItTO at hi'
      refine ⟨it, [it], _, _, ItX.dropH H2 it, rfl, ItX.inv_drop I2 hi', turn_tuple l it, st, fun b hb => ?_, qR⟩
      have e : b = it := by simpa using hb
      rw [e]
      exact ItX.inv_fp I2 hi (Nat.le_trans I1.sz hn)
theorem sqT_drop {K : PySem.W.Frag} {H : Hp} {a it : Addr} {xs : List V} (h : SqT K H a xs) (n : it ≠ a) : SqT K (ItX.dropH H it) a xs := by
  have e : ItX.dropH H it a = H a := ItX.dropH_ne (Ne.symm n)
  unfold SqT Rd at h ⊢
  simp only [e]
  exact h
end


end
/-- what the top has written -/
structure Txt (K : PySem.W.Frag) (mg : Str → Option Value) where
  a_is_whole : Addr
  fd_is_whole : FuncData
  F_is_whole : Fun K "is_whole" "is_whole" s_is_whole a_is_whole fd_is_whole
  m_is_whole : mg "is_whole" = some (.ref a_is_whole)
  a_is_from : Addr
  fd_is_from : FuncData
  F_is_from : Fun K "is_from" "is_from" s_is_from a_is_from fd_is_from
  m_is_from : mg "is_from" = some (.ref a_is_from)
  a_is_run : Addr
  fd_is_run : FuncData
  F_is_run : Fun K "is_run" "is_run" s_is_run a_is_run fd_is_run
  m_is_run : mg "is_run" = some (.ref a_is_run)
  a_is_full : Addr
  fd_is_full : FuncData
  F_is_full : Fun K "is_full" "is_full" s_is_full a_is_full fd_is_full
  m_is_full : mg "is_full" = some (.ref a_is_full)
  a_size_of : Addr
  fd_size_of : FuncData
  F_size_of : Fun K "size_of" "size_of" s_size_of a_size_of fd_size_of
  m_size_of : mg "size_of" = some (.ref a_size_of)
  a_round_of : Addr
  fd_round_of : FuncData
  F_round_of : Fun K "round_of" "round_of" s_round_of a_round_of fd_round_of
  m_round_of : mg "round_of" = some (.ref a_round_of)
  a_closed : Addr
  fd_closed : FuncData
  F_closed : Fun K "closed" "closed" s_closed a_closed fd_closed
  m_closed : mg "closed" = some (.ref a_closed)
  a_least_form : Addr
  fd_least_form : FuncData
  F_least_form : Fun K "least_form" "least_form" s_least_form a_least_form fd_least_form
  m_least_form : mg "least_form" = some (.ref a_least_form)
  a_begun : Addr
  fd_begun : FuncData
  F_begun : Fun K "begun" "begun" s_begun a_begun fd_begun
  m_begun : mg "begun" = some (.ref a_begun)
  a_end_behind : Addr
  fd_end_behind : FuncData
  F_end_behind : Fun K "end_behind" "end_behind" s_end_behind a_end_behind fd_end_behind
  m_end_behind : mg "end_behind" = some (.ref a_end_behind)
  a_next_member : Addr
  fd_next_member : FuncData
  F_next_member : Fun K "next_member" "next_member" s_next_member a_next_member fd_next_member
  m_next_member : mg "next_member" = some (.ref a_next_member)
  a_form_of : Addr
  fd_form_of : FuncData
  F_form_of : Fun K "form_of" "form_of" s_form_of a_form_of fd_form_of
  m_form_of : mg "form_of" = some (.ref a_form_of)
  a_pen : Addr
  fd_pen : FuncData
  F_pen : Fun K "_law_pen" "_law_pen" s_pen a_pen fd_pen
  m_pen : mg "_law_pen" = some (.ref a_pen)
  a_draw : Addr
  fd_draw : FuncData
  F_draw : Fun K "_law_draw" "_law_draw" s_draw a_draw fd_draw
  m_draw : mg "_law_draw" = some (.ref a_draw)
  a_pick : Addr
  fd_pick : FuncData
  F_pick : Fun K "_law_pick" "_law_pick" s_pick a_pick fd_pick
  m_pick : mg "_law_pick" = some (.ref a_pick)
  a_least : Addr
  fd_least : FuncData
  F_least : Fun K "_law_least" "_law_least" s_least a_least fd_least
  m_least : mg "_law_least" = some (.ref a_least)
  a_is : Addr
  fd_is : FuncData
  F_is : Fun K "_law_is" "_law_is" s_is a_is fd_is
  m_is : mg "_law_is" = some (.ref a_is)
  a_small_right : Addr
  fd_small_right : FuncData
  F_small_right : Fun K "_law_small_right" "_law_small_right" s_small_right a_small_right fd_small_right
  m_small_right : mg "_law_small_right" = some (.ref a_small_right)
  a_great_right : Addr
  fd_great_right : FuncData
  F_great_right : Fun K "_law_great_right" "_law_great_right" s_great_right a_great_right fd_great_right
  m_great_right : mg "_law_great_right" = some (.ref a_great_right)
  a_law : Addr
  fd_law : FuncData
  F_law : Fun K "law" "law" s_law a_law fd_law
  m_law : mg "law" = some (.ref a_law)
  a_Lot_init : Addr
  fd_Lot_init : FuncData
  F_Lot_init : Fun K "__init__" "Lot.__init__" s_Lot_init a_Lot_init fd_Lot_init
  a_Lot_every : Addr
  fd_Lot_every : FuncData
  F_Lot_every : Fun K "every" "Lot.every" s_Lot_every a_Lot_every fd_Lot_every
  a_Lot_none : Addr
  fd_Lot_none : FuncData
  F_Lot_none : Fun K "none" "Lot.none" s_Lot_none a_Lot_none fd_Lot_none
  a_Lot_around : Addr
  fd_Lot_around : FuncData
  F_Lot_around : Fun K "around" "Lot.around" s_Lot_around a_Lot_around fd_Lot_around
  a_Lot_multiples : Addr
  fd_Lot_multiples : FuncData
  F_Lot_multiples : Fun K "multiples" "Lot.multiples" s_Lot_multiples a_Lot_multiples fd_Lot_multiples
  a_Lot_len : Addr
  fd_Lot_len : FuncData
  F_Lot_len : Fun K "__len__" "Lot.__len__" s_Lot_len a_Lot_len fd_Lot_len
  a_Lot_iter : Addr
  fd_Lot_iter : FuncData
  F_Lot_iter : Fun K "__iter__" "Lot.__iter__" s_Lot_iter a_Lot_iter fd_Lot_iter
  a_Lot_eq : Addr
  fd_Lot_eq : FuncData
  F_Lot_eq : Fun K "__eq__" "Lot.__eq__" s_Lot_eq a_Lot_eq fd_Lot_eq
  a_Lot_contains : Addr
  fd_Lot_contains : FuncData
  F_Lot_contains : Fun K "__contains__" "Lot.__contains__" s_Lot_contains a_Lot_contains fd_Lot_contains
  m_gcd : mg "gcd" = some (.builtin "math.gcd")
  n_ValueError : mg "ValueError" = none
  n_abs : mg "abs" = none
  n_bool : mg "bool" = none
  n_divmod : mg "divmod" = none
  n_enumerate : mg "enumerate" = none
  n_int : mg "int" = none
  n_isinstance : mg "isinstance" = none
  n_iter : mg "iter" = none
  n_len : mg "len" = none
  n_list : mg "list" = none
  n_max : mg "max" = none
  n_min : mg "min" = none
  n_range : mg "range" = none
  n_repr : mg "repr" = none
  n_sorted : mg "sorted" = none
  n_staticmethod : mg "staticmethod" = none
  n_str : mg "str" = none
  n_sum : mg "sum" = none
  n_tuple : mg "tuple" = none
  a_ALL : Addr
  m_ALL : mg "ALL" = some (.ref a_ALL)
  r_ALL : ∃ b c, SqT K (fun _ => Option.none) a_ALL [.int 1, .ref b] ∧ SqT K (fun _ => Option.none) b [.ref c] ∧ SqT K (fun _ => Option.none) c [.int 0, .int 0]
  u_MOST : Value
  m_MOST : mg "MOST_RUNS" = some u_MOST
  r_MOST : RelV (.int 2000) u_MOST
  a_Lot : Addr
  m_Lot : mg "Lot" = some (.ref a_Lot)
  cls : Cls K a_Lot
  mks : Mk K a_Lot a_Lot_init
  rd : ClX.CRead K a_Lot (.type "type")
  ki : ∀ (H : Hp) (a dx : Addr) (fs : List (Str × V)), H a = some (.ins a_Lot dx fs) → TyX K H (.ref a) (.ref a_Lot)
  kk : PySem.W.kitOne K (.ref a_Lot) (.ref a_Lot) = some true
  na : ∀ y ∈ (["period", "runs", "size"] : List Str), NoAttr K a_Lot y
  p_every : Addr
  st_every : CStat K a_Lot (.type "type") "every" p_every a_Lot_every
  p_none : Addr
  st_none : CStat K a_Lot (.type "type") "none" p_none a_Lot_none
  p_around : Addr
  st_around : CStat K a_Lot (.type "type") "around" p_around a_Lot_around
  p_multiples : Addr
  st_multiples : CStat K a_Lot (.type "type") "multiples" p_multiples a_Lot_multiples
  fi_in : PySem.W.findIn K (.ref a_Lot) "__contains__" = some (some (.ref a_Lot_contains))
  fi_eq : PySem.W.findIn K (.ref a_Lot) "__eq__" = some (some (.ref a_Lot_eq))
  fi_len : PySem.W.findIn K (.ref a_Lot) "__len__" = some (some (.ref a_Lot_len))
  fi_iter : PySem.W.findIn K (.ref a_Lot) "__iter__" = some (some (.ref a_Lot_iter))
  u_CM : Value
  cv_MOST : ClX.CVal K a_Lot (.type "type") "MOST" (.int 2000) u_CM
  fi_ne : PySem.W.findIn K (.ref a_Lot) "__ne__" = some (some (.builtin "object.__ne__"))
  fi_bool : PySem.W.findIn K (.ref a_Lot) "__bool__" = some Option.none
  mro_o : PySem.W.mroIn K a_Lot (.type "object") = some true
  fn_in : PySem.W.isFn K (.ref a_Lot_contains) = true
  fn_eq : PySem.W.isFn K (.ref a_Lot_eq) = true
  fn_len : PySem.W.isFn K (.ref a_Lot_len) = true
  fn_iter : PySem.W.isFn K (.ref a_Lot_iter) = true
section
variable {P : Program} {w : World} {K : PySem.W.Frag} {mg : Str → Option Value} {base : Heap}
theorem b_is_whole (T : Txt K mg) : Binds K T.fd_is_whole ["value"] [] := T.F_is_whole.binds (ps := ["value"]) fun _ _ _ _ _ _ us hl => match us, hl with | [_], _ => rfl
theorem b_is_from (T : Txt K mg) : Binds K T.fd_is_from ["value", "low"] [] := T.F_is_from.binds (ps := ["value", "low"]) fun _ _ _ _ _ _ us hl => match us, hl with | [_, _], _ => rfl
theorem b_is_run (T : Txt K mg) : Binds K T.fd_is_run ["value"] [] := T.F_is_run.binds (ps := ["value"]) fun _ _ _ _ _ _ us hl => match us, hl with | [_], _ => rfl
theorem b_is_full (T : Txt K mg) : Binds K T.fd_is_full ["table"] [] := T.F_is_full.binds (ps := ["table"]) fun _ _ _ _ _ _ us hl => match us, hl with | [_], _ => rfl
theorem b_size_of (T : Txt K mg) : Binds K T.fd_size_of ["runs"] [] := T.F_size_of.binds (ps := ["runs"]) fun _ _ _ _ _ _ us hl => match us, hl with | [_], _ => rfl
theorem b_round_of (T : Txt K mg) : Binds K T.fd_round_of ["period", "runs"] [] := T.F_round_of.binds (ps := ["period", "runs"]) fun _ _ _ _ _ _ us hl => match us, hl with | [_, _], _ => rfl
theorem b_closed (T : Txt K mg) : Binds K T.fd_closed ["period", "runs"] [] := T.F_closed.binds (ps := ["period", "runs"]) fun _ _ _ _ _ _ us hl => match us, hl with | [_, _], _ => rfl
theorem b_least_form (T : Txt K mg) : Binds K T.fd_least_form ["table"] [] := T.F_least_form.binds (ps := ["table"]) fun _ _ _ _ _ _ us hl => match us, hl with | [_], _ => rfl
theorem b_begun (T : Txt K mg) : Binds K T.fd_begun ["rows", "place"] [] := T.F_begun.binds (ps := ["rows", "place"]) fun _ _ _ _ _ _ us hl => match us, hl with | [_, _], _ => rfl
theorem b_end_behind (T : Txt K mg) : Binds K T.fd_end_behind ["table", "number"] [] := T.F_end_behind.binds (ps := ["table", "number"]) fun _ _ _ _ _ _ us hl => match us, hl with | [_, _], _ => rfl
theorem b_next_member (T : Txt K mg) : Binds K T.fd_next_member ["table", "number"] [] := T.F_next_member.binds (ps := ["table", "number"]) fun _ _ _ _ _ _ us hl => match us, hl with | [_, _], _ => rfl
theorem b_form_of (T : Txt K mg) : Binds K T.fd_form_of ["lot"] [] := T.F_form_of.binds (ps := ["lot"]) fun _ _ _ _ _ _ us hl => match us, hl with | [_], _ => rfl
theorem b_pen (T : Txt K mg) : Binds K T.fd_pen ["_law_script"] [] := T.F_pen.binds (ps := ["_law_script"]) fun _ _ _ _ _ _ us hl => match us, hl with | [_], _ => rfl
theorem b_draw (T : Txt K mg) : Binds K T.fd_draw ["_law_pen_here", "_law_many"] [] := T.F_draw.binds (ps := ["_law_pen_here", "_law_many"]) fun _ _ _ _ _ _ us hl => match us, hl with | [_, _], _ => rfl
theorem b_pick (T : Txt K mg) : Binds K T.fd_pick ["_law_pen_here", "_law_some"] [] := T.F_pick.binds (ps := ["_law_pen_here", "_law_some"]) fun _ _ _ _ _ _ us hl => match us, hl with | [_, _], _ => rfl
theorem b_least (T : Txt K mg) : Binds K T.fd_least ["_law_period", "_law_members"] [] := T.F_least.binds (ps := ["_law_period", "_law_members"]) fun _ _ _ _ _ _ us hl => match us, hl with | [_, _], _ => rfl
theorem b_is (T : Txt K mg) : Binds K T.fd_is ["_law_lot", "_law_period", "_law_members"] [] := T.F_is.binds (ps := ["_law_lot", "_law_period", "_law_members"]) fun _ _ _ _ _ _ us hl => match us, hl with | [_, _, _], _ => rfl
theorem b_small_right (T : Txt K mg) : Binds K T.fd_small_right ["_law_pen_here"] [] := T.F_small_right.binds (ps := ["_law_pen_here"]) fun _ _ _ _ _ _ us hl => match us, hl with | [_], _ => rfl
theorem b_great_right (T : Txt K mg) : Binds K T.fd_great_right ["_law_pen_here"] [] := T.F_great_right.binds (ps := ["_law_pen_here"]) fun _ _ _ _ _ _ us hl => match us, hl with | [_], _ => rfl
theorem b_law (T : Txt K mg) : Binds K T.fd_law ["_law_script"] [] := T.F_law.binds (ps := ["_law_script"]) fun _ _ _ _ _ _ us hl => match us, hl with | [_], _ => rfl
theorem b_Lot_every (T : Txt K mg) : Binds K T.fd_Lot_every [] [] := T.F_Lot_every.binds (ps := []) fun _ _ _ _ _ _ us hl => match us, hl with | [], _ => rfl
theorem b_Lot_none (T : Txt K mg) : Binds K T.fd_Lot_none [] [] := T.F_Lot_none.binds (ps := []) fun _ _ _ _ _ _ us hl => match us, hl with | [], _ => rfl
theorem b_Lot_around (T : Txt K mg) : Binds K T.fd_Lot_around ["period", "play"] [] := T.F_Lot_around.binds (ps := ["period", "play"]) fun _ _ _ _ _ _ us hl => match us, hl with | [_, _], _ => rfl
theorem b_Lot_multiples (T : Txt K mg) : Binds K T.fd_Lot_multiples ["n"] [] := T.F_Lot_multiples.binds (ps := ["n"]) fun _ _ _ _ _ _ us hl => match us, hl with | [_], _ => rfl
theorem b_Lot_len (T : Txt K mg) : Binds K T.fd_Lot_len ["self"] [] := T.F_Lot_len.binds (ps := ["self"]) fun _ _ _ _ _ _ us hl => match us, hl with | [_], _ => rfl
theorem b_Lot_iter (T : Txt K mg) : Binds K T.fd_Lot_iter ["self"] [] := T.F_Lot_iter.binds (ps := ["self"]) fun _ _ _ _ _ _ us hl => match us, hl with | [_], _ => rfl
theorem b_Lot_eq (T : Txt K mg) : Binds K T.fd_Lot_eq ["self", "other"] [] := T.F_Lot_eq.binds (ps := ["self", "other"]) fun _ _ _ _ _ _ us hl => match us, hl with | [_, _], _ => rfl
theorem b_Lot_contains (T : Txt K mg) : Binds K T.fd_Lot_contains ["self", "value"] [] := T.F_Lot_contains.binds (ps := ["self", "value"]) fun _ _ _ _ _ _ us hl => match us, hl with | [_, _], _ => rfl

def spWhole : Sp := fun vs H Q _ => ∃ (v : V) (t : String), vs = [v] ∧ NT H v t ∧ Q (.bl (t == "int")) H
theorem ok_is_whole (T : Txt K mg) : FnOk P w K mg base CX0 1 T.a_is_whole T.fd_is_whole ["value"] spWhole := by
  refine T.F_is_whole.ok sc_is_whole (fun vs H Q E h => ?_) (fun cdv A outer s H vs Q E hr h => ?_)
  · obtain ⟨v, t, rfl, _⟩ := h; rfl
  · obtain ⟨v, t, rfl, ht, k⟩ := h
    obtain ⟨b1, b2, h1, h2, h3⟩ := ht.kit
    refine ⟨_, pss_one (ps_ret (pe_and (pe_callB call_isi (by rfl) T.n_isinstance (by decide +kernel) (pa_cons (pv 0) (pa_cons (pe_bltn (v := .ty "int") (u := .type "int") (by rfl) T.n_int (by decide +kernel) rfl) (pa_nil)))) (pe_one (pe_not (pe_callB call_isi (by rfl) T.n_isinstance (by decide +kernel) (pa_cons (pv 0) (pa_cons (pe_bltn (v := .ty "bool") (u := .type "bool") (by rfl) T.n_bool (by decide +kernel) rfl) (pa_nil)))))))), ?_⟩
    refine ⟨_, rfl, v, .ty "int", .type t, .type "int", b1, rfl, .ty _, ht.ty, kit_ty h1, b1, rfl, ?_⟩
    rw [← h3] at k
    cases b1 with
    | false => exact iteF k
    | true => exact iteT ⟨_, rfl, v, .ty "bool", .type t, .type "bool", b2, rfl, .ty _, ht.ty, kit_ty h2, b2, rfl, k⟩
/-- whether v is an integer from l on -/
def fromB (l : Int) : V → Bool
  | .int i => decide (l ≤ i)
  | _ => false
def spFrom : Sp := fun vs H Q _ => ∃ (v : V) (t : String) (l : Int), vs = [v, .int l] ∧ NT H v t ∧ Q (.bl (fromB l v)) H
theorem fromB_no {H : Hp} {v : V} {t : String} {l : Int} (h : NT H v t) (n : (t == "int") = false) : fromB l v = false := by
  cases h <;> first | rfl | cases n
theorem ok_is_from (T : Txt K mg) : FnOk P w K mg base CX0 2 T.a_is_from T.fd_is_from ["value", "low"] spFrom := by
  refine T.F_is_from.ok sc_is_from (fun vs H Q E h => ?_) (fun cdv A outer s H vs Q E hr h => ?_)
  · obtain ⟨v, t, l, rfl, _⟩ := h; rfl
  · obtain ⟨v, t, l, rfl, ht, k⟩ := h
    refine ⟨_, pss_one (ps_ret (pe_and (pe_call (ok_is_whole T) (hr.mono (by decide)) rfl T.m_is_whole T.F_is_whole.kp (b_is_whole T) .nil pass0 (pa_cons (pv 0) (pa_nil))) (pe_one (pe_cmpR op_ge (pv 0) (pv 1) (nomark _))))), ?_⟩
    refine ⟨_, rfl, v, t, rfl, ht, (t == "int"), rfl, ?_⟩
    cases e : (t == "int") with
    | false => rw [fromB_no ht e] at k; exact iteF k
    | true =>
      obtain ⟨i, rfl⟩ := ht.isInt (beq_iff_eq.mp e)
      exact iteT ⟨_, rfl, _, rfl, _, _, rfl, rfl, k⟩

/-! ### runs in the heap -/
/-- the values are the pairs rs -/
def Pairs (K : PySem.W.Frag) (H : Hp) (vs : List V) (rs : List (Int × Int)) : Prop := vs.length = rs.length ∧ ∀ (i : Nat) (y : V), vs[i]? = some y → ∃ (a : Addr) (q : Int × Int), y = .ref a ∧ rs[i]? = some q ∧ SqT K H a [.int q.1, .int q.2]
def RunsT (K : PySem.W.Frag) (H : Hp) (a : Addr) (rs : List (Int × Int)) : Prop := ∃ vs, SqT K H a vs ∧ Pairs K H vs rs
/-- n of the pairs begin at x or ahead of it -/
def Begun (rs : List (Int × Int)) (x : Int) (n : Nat) : Prop := n ≤ rs.length ∧ (∀ (i : Nat) (q : Int × Int), i < n → rs[i]? = some q → q.1 ≤ x) ∧ ∀ (i : Nat) (q : Int × Int), n ≤ i → rs[i]? = some q → x < q.1
def AscB (rs : List (Int × Int)) : Prop := ∀ (i j : Nat) (p q : Int × Int), i < j → rs[i]? = some p → rs[j]? = some q → p.1 < q.1
def spBegun (K : PySem.W.Frag) : Sp := fun vs H Q _ => ∃ (a : Addr) (rs : List (Int × Int)) (x : Int), vs = [.ref a, .int x] ∧ RunsT K H a rs ∧ AscB rs ∧ rs.length ≤ sizeLine ∧ ∀ n : Nat, Begun rs x n → Q (.int n) H
theorem ok_begun (T : Txt K mg) : FnOk P w K mg base CX0 1 T.a_begun T.fd_begun ["rows", "place"] (spBegun K) := by
  refine T.F_begun.ok sc_begun (fun vs H Q E h => ?_) (fun cdv A outer s H vs Q E hr h => ?_)
  · obtain ⟨a, rs, x, rfl, _⟩ := h; rfl
  · obtain ⟨a, rs, x, rfl, ⟨vs, hT, hP⟩, hA, hl, k⟩ := h
    refine ⟨_, pss_cons (ps_par (i := 2) (j := 3) (by rfl) sc_begun.nd rfl rfl (by decide) rfl rfl (pa_cons (pe_int) (pa_cons (pe_callB call_len_seq (by rfl) T.n_len (by decide +kernel) (pa_cons (pv 0) (pa_nil))) (pa_nil))) (by rfl))
      (pss_cons (ps_while PassesOwn.never (pt_cmpR op_lt (pv 2) (pv 3) (nomark _)) (pss_cons (ps_set (i := 4) sc_begun.nd rfl (Or.inl rfl) (pe_op op_fdivW (pe_op op_add (pv 2) (pv 3)) (pe_int)))
      (pss_one (ps_if (pt_cmpR op_le (pe_ix ix_tup (pe_ix ix_tup (pv 0) (pv 4) (fun _ _ => rfl)) (pe_int) (fun _ _ => rfl)) (pv 1) (nomark _)) (pss_one (ps_set (i := 2) sc_begun.nd rfl (Or.inl rfl) (pe_op op_add (pv 4) (pe_int)))) (pss_one (ps_set (i := 3) sc_begun.nd rfl (Or.inl rfl) (pv 4)))))))
      (pss_one (ps_ret (pv 2)))), ?_⟩
    have hlen : vs.length = rs.length := hP.1
    refine ⟨_, rfl, a, vs, rfl, .inr hT, _, _, rfl, ?_⟩
    refine ⟨fun m σ H' => H' = H ∧ ∃ (lo hi : Nat) (x4 : Option V), σ = [some (.ref a), some (.int x), some (.int (lo : Int)), some (.int (hi : Int)), x4] ∧ lo ≤ hi ∧ hi ≤ rs.length ∧ (∀ (i : Nat) (q : Int × Int), i < lo → rs[i]? = some q → q.1 ≤ x) ∧ (∀ (i : Nat) (q : Int × Int), hi ≤ i → rs[i]? = some q → x < q.1) ∧ m = hi - lo,
      ⟨_, rfl, 0, rs.length, _, by rw [hlen]; rfl, Nat.zero_le _, Nat.le_refl _, fun i q h => absurd h (Nat.not_lt_zero _), (fun i q h e => by rw [List.getElem?_eq_none h] at e; cases e), rfl⟩, ?_⟩
    rintro m σ H' ⟨rfl, lo, hi, x4, rfl, h1, h2, h3, h4, rfl⟩
    refine ⟨_, rfl, _, rfl, _, _, rfl, rfl, _, rfl, ?_⟩
    by_cases hlt : lo < hi
    · refine if_true_of (decide_eq_true (by omega)) ?_
      refine ⟨fun σ' H2 => ∃ m', m' < hi - lo ∧ _, fun _ _ h => h, ?_⟩
      have em : ((lo : Int) + (hi : Int)) / 2 = (((lo + hi) / 2 : Nat) : Int) := by omega
      have hmid : (lo + hi) / 2 < rs.length := by omega
      obtain ⟨y, hy⟩ : ∃ y, vs[(lo + hi) / 2]? = some y := ⟨_, List.getElem?_eq_getElem (by omega)⟩
      obtain ⟨b, q, rfl, hq, hb⟩ := hP.2 _ _ hy
      refine ⟨_, rfl, _, rfl, _, _, rfl, rfl, _, _, rfl, rfl, wide_div (b := 2) (by decide) (by decide) (by decide) (by decide), ?_⟩
      have hat : atI vs (((lo : Int) + (hi : Int)) / 2) = some (V.ref b) := by rw [em]; exact atI_nat hy
      refine ⟨_, rfl, _, rfl, a, vs, _, _, rfl, rfl, hT, hat, b, _, _, _, rfl, rfl, hb, rfl, _, rfl, _, _, rfl, rfl, _, rfl, ?_⟩
      by_cases hc : q.1 ≤ x
      · refine if_true_of (decide_eq_true hc) ?_
        refine ⟨_, rfl, _, _, rfl, rfl, _, ?_, rfl, (lo + hi) / 2 + 1, hi, _, (by rw [show (((lo + hi) / 2 + 1 : Nat) : Int) = ((lo : Int) + (hi : Int)) / 2 + 1 by omega]; rfl), by omega, h2, fun i p hi' e => ?_, h4, rfl⟩
        · omega
        · rcases Nat.lt_or_eq_of_le (Nat.le_of_lt_succ hi') with z | z
          · have := hA i _ p q z e hq
            omega
          · rw [z, hq] at e
            cases e
            exact hc
      · refine if_false_of (decide_eq_false hc) ?_
        refine ⟨_, rfl, _, ?_, rfl, lo, (lo + hi) / 2, _, (by rw [← em]; rfl), by omega, by omega, h3, fun i p hi' e => ?_, rfl⟩
        · omega
        · rcases Nat.lt_or_eq_of_le hi' with z | z
          · have := hA _ i q p z hq e
            omega
          · rw [← z, hq] at e
            cases e
            omega
    · refine if_false_of (decide_eq_false (by omega)) ?_
      have e : lo = hi := by omega
      subst e
      exact ⟨_, rfl, k lo ⟨h2, h3, h4⟩⟩
theorem atI_end {xs : List V} {v : V} (h0 : 0 < xs.length) (h : xs[xs.length - 1]? = some v) : atI xs (-1) = some v := by
  have e : ixN xs.length (-1) = some (xs.length - 1) := by
    unfold ixN
    rw [if_neg (by omega), if_pos (by omega)]
    congr 1
    omega
  unfold atI
  rw [e]
  exact h
def oVe : Option Int → V
  | some x => .int x
  | Option.none => .non
def spEnd (K : PySem.W.Frag) : Sp := fun vs H Q _ => ∃ (t a : Addr) (per x : Int) (rs : List (Int × Int)), vs = [.ref t, .int x] ∧ SqT K H t [.int per, .ref a] ∧ RunsT K H a rs ∧ NM.Rnd per rs ∧ rs.length ≤ sizeLine ∧ ∀ o : Option Int, NM.EndIs per rs x o → Q (oVe o) H
theorem ok_end_behind (T : Txt K mg) : FnOk P w K mg base CX0 3 T.a_end_behind T.fd_end_behind ["table", "number"] (spEnd K) := by
  refine T.F_end_behind.ok sc_end_behind (fun vs H Q E h => ?_) (fun cdv A outer s H vs Q E hr h => ?_)
  · obtain ⟨t, a, per, x, rs, rfl, _⟩ := h; rfl
  · obtain ⟨t, a, per, x, rs, rfl, hT, ⟨vs, hA, hP⟩, R, hl, k⟩ := h
    refine ⟨_, pss_cons (ps_asg (pv 0) (pg_tup rfl (pgs_cons (pg_name (i := 2) sc_end_behind.nd rfl (Or.inl rfl)) (pgs_cons (pg_name (i := 3) sc_end_behind.nd rfl (Or.inl rfl)) (pgs_nil)))))
      (pss_cons (ps_if (pt_not (pt_truth (pv 3) (fun _ => rfl))) (pss_one (ps_ret (pe_non))) (pss_nil))
      (pss_cons (ps_set (i := 4) sc_end_behind.nd rfl (Or.inl rfl) (pe_op op_modN (pv 1) (pv 2)))
      (pss_cons (ps_set (i := 5) sc_end_behind.nd rfl (Or.inl rfl) (pe_call (ok_begun T) (hr.mono (by decide)) rfl T.m_begun T.F_begun.kp (b_begun T) .nil pass0 (pa_cons (pv 3) (pa_cons (pv 4) (pa_nil)))))
      (pss_cons (ps_set (i := 6) sc_end_behind.nd rfl (Or.inl rfl) (pe_op op_sub (pv 1) (pv 4)))
      (C8.pss_cut (ps_if (pt_cmpR op_eq (pv 5) (pe_int) (nomark _)) (pss_one (ps_set (i := 6) sc_end_behind.nd rfl (Or.inl rfl) (pe_op op_sub (pv 6) (pv 2)))) (pss_nil))
      (pss_cons (ps_set (i := 7) sc_end_behind.nd rfl (Or.inl rfl) (pe_op op_add (pv 6) (pe_ix ix_tup (pe_ix ix_tup (pv 3) (pe_op op_sub (pv 5) (pe_int)) (fun _ _ => rfl)) (pe_int) (fun _ _ => rfl))))
      (pss_one (ps_ret (pe_ifExp (pt_cmpR op_ge (pv 7) (pv 1) (nomark _)) (pv 7) (pe_non)))))))))), ?_⟩
    have hlen : vs.length = rs.length := hP.1
    refine ⟨_, rfl, t, _, rfl, hT, rfl, _, _, rfl, _, _, rfl, rfl, ?_⟩
    refine ⟨_, rfl, decide (vs ≠ []), ?_, ?_⟩
    · refine .inr (.inl ⟨vs, hA, ?_⟩)
      cases vs <;> simp
    by_cases hnil : vs = []
    · refine if_true_of (by rw [hnil]; rfl) ?_
      refine k Option.none ?_
      have : rs = [] := List.length_eq_zero_iff.mp (by rw [← hlen, hnil]; rfl)
      rw [this]
      rintro ⟨_, _, hm, _⟩
      exact List.not_mem_nil hm
    refine if_false_of (by simp [hnil]) ?_
    have hrs : 0 < rs.length := by
      rw [← hlen]
      exact List.length_pos_iff.mpr hnil
    have asc : AscB rs := fun i j p q hij hp hq => by
      have := R.gap i j p q hij hp hq
      have := R.beg p (List.mem_of_getElem? hp)
      omega
    refine ⟨_, rfl, _, rfl, _, _, rfl, rfl, (by have := R.pos; omega), ?_⟩
    have ef : x.fmod per = x % per := Int.fmod_eq_emod_of_nonneg _ (Int.le_of_lt R.pos)
    refine ⟨_, rfl, _, rfl, a, rs, x.fmod per, rfl, ⟨vs, hA, hP⟩, asc, hl, fun n hn => ?_⟩
    obtain ⟨n1, n2, n3⟩ := hn
    rw [ef] at n2 n3
    refine ⟨_, rfl, _, rfl, _, _, rfl, rfl, ?_⟩
    -- the run that is looked at
    obtain ⟨j, hj, hjv⟩ : ∃ j : Nat, j < rs.length ∧ ((0 < n ∧ j = n - 1) ∨ (n = 0 ∧ j = rs.length - 1)) := by
      rcases Nat.eq_zero_or_pos n with z | z
      · exact ⟨rs.length - 1, by omega, .inr ⟨z, rfl⟩⟩
      · exact ⟨n - 1, by omega, .inl ⟨z, rfl⟩⟩
    obtain ⟨y, hy⟩ : ∃ y, vs[j]? = some y := ⟨_, List.getElem?_eq_getElem (by omega)⟩
    obtain ⟨b, q, rfl, hq, hb⟩ := hP.2 _ _ hy
    have hat : atI vs ((n : Int) - 1) = some (V.ref b) := by
      rcases hjv with ⟨z, e⟩ | ⟨z, e⟩
      · have e2 : (n : Int) - 1 = (j : Int) := by omega
        rw [e2]; exact atI_nat hy
      · have e2 : (n : Int) - 1 = -1 := by omega
        rw [e2]
        exact atI_end (by omega) (by rw [show vs.length - 1 = j by omega]; exact hy)
    refine ⟨fun σ' H' => H' = H ∧ ∃ bs : Int, σ' = [some (.ref t), some (.int x), some (.int per), some (.ref a), some (.int (x.fmod per)), some (.int (n : Int)), some (.int bs), Option.none] ∧ bs = (if n = 0 then x - x % per - per else x - x % per), ?_, ?_⟩
    · refine ⟨_, rfl, rfl, _, rfl, ?_⟩
      by_cases z : n = 0
      · refine if_true_of (by rw [z]; rfl) ?_
        exact ⟨_, rfl, _, rfl, _, _, rfl, rfl, rfl, _, rfl, by rw [if_pos z, ef]⟩
      · refine if_false_of (decide_eq_false (fun h => by injection h with h; omega)) ?_
        exact ⟨rfl, _, rfl, by rw [if_neg z, ef]⟩
    · rintro σ' H' ⟨rfl, bs, rfl, hbs⟩
      refine ⟨_, rfl, _, rfl, _, rfl, _, _, rfl, rfl, a, vs, _, _, rfl, rfl, hA, hat, b, _, _, _, rfl, rfl, hb, rfl, _, _, rfl, rfl, ?_⟩
      have E := R.endB n1 n2 n3 (q := q) (base := bs) (by
        rcases hjv with ⟨z, e⟩ | ⟨z, e⟩
        · exact .inl ⟨z, e ▸ hq, by rw [hbs, if_neg (by omega)]⟩
        · exact .inr ⟨z, e ▸ hq, by rw [hbs, if_pos z]⟩)
      refine ⟨_, rfl, _, rfl, _, _, rfl, rfl, _, rfl, ?_⟩
      by_cases hge : bs + q.2 ≥ x
      · rw [if_pos hge] at E
        exact if_true_of (decide_eq_true hge) ⟨_, rfl, k _ E⟩
      · rw [if_neg hge] at E
        exact if_false_of (decide_eq_false hge) (k _ E)
theorem endIs_mem {per x e : Int} {rs : List (Int × Int)} (h : NM.EndIs per rs x (some e)) : NM.Mem per rs x := by
  obtain ⟨h1, k, q, hq, h2, h3⟩ := h
  exact ⟨k, q, hq, h2, by omega⟩
def spNext (K : PySem.W.Frag) : Sp := fun vs H Q _ => ∃ (t a : Addr) (per x : Int) (rs : List (Int × Int)), vs = [.ref t, .int x] ∧ SqT K H t [.int per, .ref a] ∧ RunsT K H a rs ∧ NM.Rnd per rs ∧ rs ≠ [] ∧ rs.length ≤ sizeLine ∧ ∀ y : Int, NM.NextIs per rs x y → Q (.int y) H
theorem ok_next_member (T : Txt K mg) : FnOk P w K mg base CX0 5 T.a_next_member T.fd_next_member ["table", "number"] (spNext K) := by
  refine T.F_next_member.ok sc_next_member (fun vs H Q E h => ?_) (fun cdv A outer s H vs Q E hr h => ?_)
  · obtain ⟨t, a, per, x, rs, rfl, _⟩ := h; rfl
  · obtain ⟨t, a, per, x, rs, rfl, hT, ⟨vs, hA, hP⟩, R, hne, hl, k⟩ := h
    refine ⟨_, pss_cons (ps_if (pt_cmpR op_notN (pe_call (ok_end_behind T) (hr.mono (by decide)) rfl T.m_end_behind T.F_end_behind.kp (b_end_behind T) .nil pass0 (pa_cons (pv 0) (pa_cons (pv 1) (pa_nil)))) (pe_non) (nomark _)) (pss_one (ps_ret (pv 1))) (pss_nil))
      (pss_cons (ps_asg (pv 0) (pg_tup rfl (pgs_cons (pg_name (i := 2) sc_next_member.nd rfl (Or.inl rfl)) (pgs_cons (pg_name (i := 3) sc_next_member.nd rfl (Or.inl rfl)) (pgs_nil)))))
      (pss_cons (ps_set (i := 4) sc_next_member.nd rfl (Or.inl rfl) (pe_op op_modN (pv 1) (pv 2)))
      (pss_cons (ps_set (i := 5) sc_next_member.nd rfl (Or.inl rfl) (pe_call (ok_begun T) (hr.mono (by decide)) rfl T.m_begun T.F_begun.kp (b_begun T) .nil pass0 (pa_cons (pv 3) (pa_cons (pv 4) (pa_nil)))))
      (pss_cons (ps_if (pt_cmpR op_eq (pv 5) (pe_callB call_len_seq (by rfl) T.n_len (by decide +kernel) (pa_cons (pv 3) (pa_nil))) (nomark _)) (pss_one (ps_ret (pe_op op_add (pe_op op_add (pe_op op_sub (pv 1) (pv 4)) (pv 2)) (pe_ix ix_tup (pe_ix ix_tup (pv 3) (pe_int) (fun _ _ => rfl)) (pe_int) (fun _ _ => rfl))))) (pss_nil))
      (pss_one (ps_ret (pe_op op_add (pe_op op_sub (pv 1) (pv 4)) (pe_ix ix_tup (pe_ix ix_tup (pv 3) (pv 5) (fun _ _ => rfl)) (pe_int) (fun _ _ => rfl))))))))), ?_⟩
    have hlen : vs.length = rs.length := hP.1
    have hrs : 0 < rs.length := List.length_pos_iff.mpr hne
    refine ⟨_, rfl, _, rfl, t, a, per, x, rs, rfl, hT, ⟨vs, hA, hP⟩, R, hl, fun o ho => ?_⟩
    cases o with
    | some e =>
      refine ⟨rfl, _, rfl, if_true_of rfl ?_⟩
      exact ⟨_, rfl, k x (NM.next_here (endIs_mem ho))⟩
    | none =>
      refine ⟨rfl, _, rfl, if_false_of rfl ?_⟩
      have asc : AscB rs := fun i j p q hij hp hq => by
        have := R.gap i j p q hij hp hq
        have := R.beg p (List.mem_of_getElem? hp)
        omega
      have ef : x.fmod per = x % per := Int.fmod_eq_emod_of_nonneg _ (Int.le_of_lt R.pos)
      refine ⟨_, rfl, t, _, rfl, hT, rfl, _, _, rfl, _, _, rfl, rfl, ?_⟩
      refine ⟨_, rfl, _, rfl, _, _, rfl, rfl, (by have := R.pos; omega), ?_⟩
      refine ⟨_, rfl, _, rfl, a, rs, x.fmod per, rfl, ⟨vs, hA, hP⟩, asc, hl, fun n hn => ?_⟩
      obtain ⟨n1, n2, n3⟩ := hn
      rw [ef] at n2 n3
      refine ⟨_, rfl, _, rfl, a, vs, rfl, .inr hA, rfl, _, rfl, ?_⟩
      by_cases hat : n = rs.length
      · refine if_true_of (decide_eq_true (by rw [hlen, hat])) ?_
        obtain ⟨y, hy⟩ : ∃ y, vs[0]? = some y := ⟨_, List.getElem?_eq_getElem (by omega)⟩
        obtain ⟨b, q, rfl, hq, hb⟩ := hP.2 _ _ hy
        refine ⟨_, rfl, _, rfl, _, _, rfl, rfl, _, rfl, _, _, rfl, rfl, _, rfl, a, vs, _, _, rfl, rfl, hA, atI_nat (j := 0) hy, b, _, _, _, rfl, rfl, hb, rfl, _, _, rfl, rfl, ?_⟩
        refine k _ (R.next ho n2 n3 (.inr ⟨hat, hq, ?_⟩))
        rw [ef]
      · refine if_false_of (decide_eq_false (fun h => by injection h with h; rw [hlen] at h; omega)) ?_
        obtain ⟨y, hy⟩ : ∃ y, vs[n]? = some y := ⟨_, List.getElem?_eq_getElem (by omega)⟩
        obtain ⟨b, q, rfl, hq, hb⟩ := hP.2 _ _ hy
        refine ⟨_, rfl, _, rfl, _, _, rfl, rfl, _, rfl, _, rfl, a, vs, _, _, rfl, rfl, hA, atI_nat hy, b, _, _, _, rfl, rfl, hb, rfl, _, _, rfl, rfl, ?_⟩
        refine k _ (R.next ho n2 n3 (.inl ⟨hq, ?_⟩))
        rw [ef]

theorem SqT.same {K : PySem.W.Frag} {H H' : Hp} {a : Addr} {xs : List V} (s : Same H H') (h : SqT K H a xs) : SqT K H' a xs := by
  rcases h with (h | ⟨o, h⟩) | h
  · exact .inl (.inl (s _ _ h))
  · exact .inl (.inr ⟨o, s _ _ h⟩)
  · exact .inr h
def sizes (rs : List (Int × Int)) : List Int := rs.map fun q => q.2 - q.1 + 1
def total (rs : List (Int × Int)) : Int := (sizes rs).sum
def spSize (K : PySem.W.Frag) : Sp := fun vs H Q _ => ∃ (a : Addr) (rs : List (Int × Int)), vs = [.ref a] ∧ RunsT K H a rs ∧ rs.length ≤ sizeLine ∧ ∀ H', Same H H' → Q (.int (total rs)) H'
theorem ok_size_of (T : Txt K mg) : FnOk P w K mg base CX0 2 T.a_size_of T.fd_size_of ["runs"] (spSize K) := by
  refine T.F_size_of.ok sc_size_of (fun vs H Q E h => ?_) (fun cdv A outer s H vs Q E hr h => ?_)
  · obtain ⟨a, rs, rfl, _⟩ := h; rfl
  · obtain ⟨a, rs, rfl, ⟨vs, hT, hP⟩, hl, k⟩ := h
    refine ⟨_, pss_one (ps_ret (pe_callB (cr_sum rfl) (by rfl) T.n_sum (by decide +kernel) (pa_cons (pe_lc (own := [("begin", 1), ("end", 2)]) (tt := tYes) rfl sc_size_of.nd (pi_tup (pv 0)) (blkOk_by (own := [("begin", 1), ("end", 2)]) (N := ["runs", "begin", "end"]) (sc := defScope s_size_of) (by decide +kernel)) (fun _ _ _ _ _ => pg_tup2 K 2 (by rfl) (by rfl) (pgs_cons (pg_name (i := 1) sc_size_of.nd rfl (Or.inl rfl)) (pgs_cons (pg_name (i := 2) sc_size_of.nd rfl (Or.inl rfl)) (pgs_nil)))) (fun _ _ _ _ _ => pts_nil) (fun _ _ _ _ _ => pe_op op_add (pe_op op_sub (pv 2) (pv 1)) (pe_int))) (pa_nil)))), ?_⟩
    have hlen : vs.length = rs.length := hP.1
    refine ⟨_, rfl, a, rfl, ⟨_, hT⟩, fun D hD => lc_tup (K := K) (a := a) (xs := vs) (fun i H' => H' = upd H D (.lst ((sizes (rs.take i)).map V.int))) rfl (fun i H' _ e => e ▸ SqT.same (same_new hD) hT) ?_ ?_⟩
    · rintro i x H' hi rfl
      obtain ⟨b, q, rfl, hq, hb⟩ := hP.2 i x hi
      have hb' := SqT.same (same_new (o := .lst ((sizes (rs.take i)).map V.int)) hD) hb
      refine ⟨b, _, rfl, hb', rfl, _, _, rfl, _, _, rfl, rfl, ?_⟩
      refine ⟨rfl, ?_⟩
      conv => whnf
      have hi2 : i < rs.length := by have := (List.getElem?_eq_some_iff.mp hi).1; omega
      refine ⟨_, rfl, _, rfl, _, _, rfl, rfl, _, _, rfl, rfl, _, upd_same, ?_, ?_⟩
      · rw [List.length_map, sizes, List.length_map, List.length_take]
        omega
      · have e : rs.take (i + 1) = rs.take i ++ [q] := by rw [List.take_add_one, hq]; rfl
        rw [upd_upd, e, sizes, sizes, List.map_append, List.map_append]
        rfl
    · rintro H' rfl
      rw [List.take_of_length_le (by omega)]
      exact ⟨D, sizes rs, rfl, SqL.of upd_same, k _ (same_new hD)⟩

/-- a pair of two integers stands at a -/
def PairAt (H : Hp) (a : Addr) (b e : Int) : Prop := H a = some (.tup [.int b, .int e])
def spIsRun : Sp := fun vs H Q _ => ∃ (a : Addr) (b e : Int), vs = [.ref a] ∧ PairAt H a b e ∧ Q (.bl (decide (b ≤ e))) H
theorem ok_is_run (T : Txt K mg) : FnOk P w K mg base CX0 3 T.a_is_run T.fd_is_run ["value"] spIsRun := by
  refine T.F_is_run.ok sc_is_run (fun vs H Q E h => ?_) (fun cdv A outer s H vs Q E hr h => ?_)
  · obtain ⟨a, b, e, rfl, _⟩ := h; rfl
  · obtain ⟨a, b, e, rfl, hp, k⟩ := h
    refine ⟨_, pss_cons (ps_if (PW.pt (pw_or (pt_not (pt_val (pe_callB call_isi (by rfl) T.n_isinstance (by decide +kernel) (pa_cons (pv 0) (pa_cons (pe_bltn (v := .ty "tuple") (u := .type "tuple") (by rfl) T.n_tuple (by decide +kernel) rfl) (pa_nil)))))) (pw_or1 (pt_cmpR op_ne (pe_callB call_len_seq (by rfl) T.n_len (by decide +kernel) (pa_cons (pv 0) (pa_nil))) (pe_int) (nomark _))))) (pss_one (ps_ret (pe_bl))) (pss_nil))
      (pss_one (ps_ret (pe_and (pe_call (ok_is_whole T) (hr.mono (by decide)) rfl T.m_is_whole T.F_is_whole.kp (b_is_whole T) .nil pass0 (pa_cons (pe_ix ix_tup (pv 0) (pe_int) (fun _ _ => rfl)) (pa_nil))) (pe_and (pe_call (ok_is_whole T) (hr.mono (by decide)) rfl T.m_is_whole T.F_is_whole.kp (b_is_whole T) .nil pass0 (pa_cons (pe_ix ix_tup (pv 0) (pe_int) (fun _ _ => rfl)) (pa_nil))) (pe_one (pe_cmpR op_le (pe_ix ix_tup (pv 0) (pe_int) (fun _ _ => rfl)) (pe_ix ix_tup (pv 0) (pe_int) (fun _ _ => rfl)) (nomark _))))))), ?_⟩
    have hp' : H a = some (.tup [.int b, .int e]) := hp
    refine ⟨_, rfl, .ref a, .ty "tuple", .type "tuple", .type "tuple", true, rfl, .ty _, .base (.tup hp'), kit_ty (by decide +kernel), true, rfl, iteF ?_⟩
    refine ⟨_, rfl, a, _, rfl, .inr (SqT.of hp'), rfl, _, rfl, iteF ?_⟩
    refine ⟨_, rfl, a, _, _, _, rfl, rfl, SqT.of hp', rfl, _, _, rfl, .int b, true, rfl, iteT ?_⟩
    refine ⟨_, rfl, a, _, _, _, rfl, rfl, SqT.of hp', rfl, _, _, rfl, .int e, true, rfl, iteT ?_⟩
    exact ⟨_, rfl, a, _, _, _, rfl, rfl, SqT.of hp', rfl, _, rfl, a, _, _, _, rfl, rfl, SqT.of hp', rfl, _, _, rfl, rfl, k⟩
def fullB (per : Int) : List (Int × Int) → Bool
  | [q] => decide (q.2 - q.1 + 1 = per)
  | _ => false
def spFull (K : PySem.W.Frag) : Sp := fun vs H Q _ => ∃ (t a : Addr) (per : Int) (rs : List (Int × Int)), vs = [.ref t] ∧ SqT K H t [.int per, .ref a] ∧ RunsT K H a rs ∧ Q (.bl (fullB per rs)) H
theorem ok_is_full (T : Txt K mg) : FnOk P w K mg base CX0 1 T.a_is_full T.fd_is_full ["table"] (spFull K) := by
  refine T.F_is_full.ok sc_is_full (fun vs H Q E h => ?_) (fun cdv A outer s H vs Q E hr h => ?_)
  · obtain ⟨t, a, per, rs, rfl, _⟩ := h; rfl
  · obtain ⟨t, a, per, rs, rfl, hT, ⟨vs, hA, hP⟩, k⟩ := h
    refine ⟨_, pss_cons (ps_asg (pv 0) (pg_tup rfl (pgs_cons (pg_name (i := 1) sc_is_full.nd rfl (Or.inl rfl)) (pgs_cons (pg_name (i := 2) sc_is_full.nd rfl (Or.inl rfl)) (pgs_nil)))))
      (pss_one (ps_ret (pe_and (pe_cmpR op_eq (pe_callB call_len_seq (by rfl) T.n_len (by decide +kernel) (pa_cons (pv 2) (pa_nil))) (pe_int) (nomark _)) (pe_one (pe_cmpR op_eq (pe_op op_add (pe_op op_sub (pe_ix ix_tup (pe_ix ix_tup (pv 2) (pe_int) (fun _ _ => rfl)) (pe_int) (fun _ _ => rfl)) (pe_ix ix_tup (pe_ix ix_tup (pv 2) (pe_int) (fun _ _ => rfl)) (pe_int) (fun _ _ => rfl))) (pe_int)) (pv 1) (nomark _)))))), ?_⟩
    have hlen : vs.length = rs.length := hP.1
    refine ⟨_, rfl, t, _, rfl, hT, rfl, _, _, rfl, _, _, rfl, rfl, ?_⟩
    refine ⟨_, rfl, a, vs, rfl, .inr hA, rfl, _, rfl, ?_⟩
    match vs, rs, hlen, hA, hP, k with
    | [y], [q], _, hA, hP, k =>
      obtain ⟨b, q', rfl, hq, hb⟩ := hP.2 0 y rfl
      cases hq
      refine if_true_of rfl ?_
      refine ⟨_, rfl, a, _, _, _, rfl, rfl, hA, rfl, b, _, _, _, rfl, rfl, hb, rfl, _, rfl, a, _, _, _, rfl, rfl, hA, rfl, b, _, _, _, rfl, rfl, hb, rfl, _, _, rfl, rfl, _, _, rfl, rfl, _, rfl, rfl, ?_⟩
      have e : fullB per [q] = decide (V.int (q.2 - q.1 + 1) = V.int per) := by
        show decide (q.2 - q.1 + 1 = per) = _
        rw [Bool.eq_iff_iff, decide_eq_true_iff, decide_eq_true_iff]
        exact ⟨fun h => by rw [h], fun h => by injection h⟩
      rw [e] at k
      exact k
    | [], [], _, hA, hP, k => exact if_false_of rfl k
    | _ :: _ :: _, _ :: _ :: _, _, hA, hP, k =>
      refine if_false_of (decide_eq_false fun z => ?_) k
      injection z with z
      simp at z
      omega

/-- at most one run, as it lies in the round -/
def norm1 (per : Int) : List (Int × Int) → List (Int × Int)
  | [q] => if q.1 + per ≤ q.2 + 1 then [(0, per - 1)] else [q]
  | _ => []
theorem runsT_one {H : Hp} {a b : Addr} {q : Int × Int} (h1 : H a = some (.tup [.ref b])) (h2 : H b = some (.tup [.int q.1, .int q.2])) : RunsT K H a [q] := by
  refine ⟨[.ref b], SqT.of h1, rfl, fun i y e => ?_⟩
  match i, e with
  | 0, e => cases e; exact ⟨b, q, rfl, rfl, SqT.of h2⟩
theorem runsT_nil {H : Hp} {a : Addr} (h1 : H a = some (.tup [])) : RunsT K H a [] := ⟨[], SqT.of h1, rfl, fun i y e => by simp at e⟩
def spClosed1 (K : PySem.W.Frag) : Sp := fun vs H Q _ => ∃ (g : Addr) (per : Int) (ws : List V) (rs : List (Int × Int)), vs = [.int per, .ref g] ∧ H g = some (.lst ws) ∧ Pairs K H ws rs ∧ rs.length ≤ 1 ∧ ∀ a H', Same H H' → RunsT K H' a (norm1 per rs) → Q (.ref a) H'
theorem ok_closed (T : Txt K mg) : FnOk P w K mg base CX0 1 T.a_closed T.fd_closed ["period", "runs"] (spClosed1 K) := by
  refine T.F_closed.ok sc_closed (fun vs H Q E h => ?_) (fun cdv A outer s H vs Q E hr h => ?_)
  · obtain ⟨g, per, ws, rs, rfl, _⟩ := h; rfl
  · obtain ⟨g, per, ws, rs, rfl, hg, hP, hl, k⟩ := h
    refine ⟨_, pss_cons (ps_if (pt_not (pt_truth (pv 1) (fun _ => rfl))) (pss_one (ps_ret (pe_tup (pa_nil)))) (pss_nil))
      (pss_cons (ps_asg (pe_ix ix_list (pv 1) (pe_un un_neg (pe_int)) (fun _ _ => rfl)) (pg_tup rfl (pgs_cons (pg_name (i := 2) sc_closed.nd rfl (Or.inl rfl)) (pgs_cons (pg_name (i := 3) sc_closed.nd rfl (Or.inl rfl)) (pgs_nil)))))
      (pss_cons (ps_set (i := 4) sc_closed.nd rfl (Or.inl rfl) (pe_int))
      (pss_cons (ps_while PassesOwn.never (PW.pt (pw_and (pt_cmpR op_lt (pv 4) (pe_op op_sub (pe_callB call_len_seq (by rfl) T.n_len (by decide +kernel) (pa_cons (pv 1) (pa_nil))) (pe_int)) (nomark _)) (pw_and1 (pt_cmpR op_le (pe_op op_add (pe_ix ix_tup (pe_ix ix_list (pv 1) (pv 4) (fun _ _ => rfl)) (pe_int) (fun _ _ => rfl)) (pv 0)) (pe_op op_add (pv 3) (pe_int)) (nomark _))))) (pss_cons (ps_set (i := 3) sc_closed.nd rfl (Or.inl rfl) (pe_callB (call_max2 rfl) (by rfl) T.n_max (by decide +kernel) (pa_cons (pv 3) (pa_cons (pe_op op_add (pe_ix ix_tup (pe_ix ix_list (pv 1) (pv 4) (fun _ _ => rfl)) (pe_int) (fun _ _ => rfl)) (pv 0)) (pa_nil)))))
      (pss_one (ps_set (i := 4) sc_closed.nd rfl (Or.inl rfl) (pe_op op_add (pv 4) (pe_int))))))
      (pss_cons (ps_if (pt_cmpR op_le (pe_op op_add (pv 2) (pv 0)) (pe_op op_add (pv 3) (pe_int)) (nomark _)) (pss_one (ps_ret (pe_tup (pa_cons (pe_tup (pa_cons (pe_int) (pa_cons (pe_op op_sub (pv 0) (pe_int)) (pa_nil)))) (pa_nil))))) (pss_nil))
      (pss_one (ps_ret (pe_op op_catA (pe_callTy call_tuple_of (by rfl) T.n_tuple (by decide +kernel) (pa_cons (pe_slice sl_list (pv 1) (po_some (pv 4)) (po_some (pe_un un_neg (pe_int)))) (pa_nil))) (pe_tup (pa_cons (pe_tup (pa_cons (pv 2) (pa_cons (pv 3) (pa_nil)))) (pa_nil)))))))))), ?_⟩
    have hlen : ws.length = rs.length := hP.1
    match ws, rs, hlen, hl, hg, hP, k with
    | [], [], _, _, hg, hP, k =>
      refine ⟨_, rfl, false, .inl ⟨[], SqL.of hg, rfl⟩, iteT ?_⟩
      exact ⟨Nat.zero_le _, fun a ha => k a _ (same_new ha) (runsT_nil upd_same)⟩
    | [y], [q], _, _, hg, hP, k =>
      obtain ⟨b, q', rfl, hq, hb⟩ := hP.2 0 y rfl
      cases hq
      refine ⟨_, rfl, true, .inl ⟨_, SqL.of hg, rfl⟩, iteF ?_⟩
      refine ⟨_, rfl, 1, rfl, g, _, _, _, rfl, rfl, SqL.of hg, atI_end (Nat.zero_lt_one) rfl, b, _, rfl, hb, rfl, _, _, rfl, _, _, rfl, rfl, ?_⟩
      refine ⟨fun m σ' H' => H' = H ∧ σ' = [some (.int per), some (.ref g), some (.int q.1), some (.int q.2), some (.int 0)], ⟨0, rfl, rfl⟩, ?_⟩
      rintro m σ' H' ⟨rfl, rfl⟩
      refine ⟨_, rfl, _, rfl, g, _, rfl, .inl (SqL.of hg), _, _, rfl, rfl, _, _, rfl, rfl, _, rfl, ?_⟩
      refine if_false_of rfl (iteF ?_)
      refine ⟨_, rfl, _, rfl, _, _, rfl, rfl, _, rfl, _, _, rfl, rfl, _, _, rfl, rfl, _, rfl, ?_⟩
      by_cases hc : q.1 + per ≤ q.2 + 1
      · refine if_true_of (decide_eq_true hc) ?_
        refine ⟨_, rfl, _, _, rfl, rfl, (by show 2 ≤ sizeLine; decide), fun c1 k1 => ⟨(by show 1 ≤ sizeLine; decide), fun c2 k2 => ?_⟩⟩
        refine k c2 _ ((same_new k1).trans (same_new k2)) ?_
        have e : norm1 per [q] = [(0, per - 1)] := if_pos hc
        rw [e]
        exact runsT_one (q := (0, per - 1)) upd_same (by rw [upd_ne (ne_of_none upd_same k2)]; exact upd_same)
      · refine if_false_of (decide_eq_false hc) ?_
        have ec : cutV [V.ref b] (some 0) (some (-1)) = [] := rfl
        refine ⟨_, rfl, _, rfl, _, rfl, 1, rfl, _, rfl, g, _, rfl, SqL.of hg, fun q1 k1 => ?_⟩
        refine ⟨q1, _, rfl, .inl ⟨SqL.of upd_same, fun q2 k2 => ?_⟩⟩
        rw [ec]
        refine ⟨_, rfl, _, rfl, (by show 2 ≤ sizeLine; decide), fun q3 k3 => ⟨(by show 1 ≤ sizeLine; decide), fun q4 k4 => ?_⟩⟩
        refine ⟨q2, q4, [], [.ref q3], rfl, rfl, SqT.of (same_new k4 _ _ (same_new k3 _ _ upd_same)), SqT.of upd_same, (by show 1 ≤ sizeLine; decide), fun _ => ?_, fun z => absurd rfl z, fun z => absurd rfl z⟩
        refine k q4 _ ((((same_new k1).trans (same_new k2)).trans (same_new k3)).trans (same_new k4)) ?_
        have e : norm1 per [q] = [q] := if_neg hc
        rw [e]
        exact runsT_one upd_same (same_new k4 _ _ upd_same)
    | [], _ :: _, h, _, _, _, _ => simp at h
    | _ :: _, [], h, _, _, _, _ => simp at h
    | _ :: _ :: _, [_], h, _, _, _, _ => simp at h
    | _, _ :: _ :: _, _, h, _, _, _ => simp at h

/-- a run in the round that it begins in -/
def inRound (per : Int) (q : Int × Int) : Int × Int := (q.1.fmod per, q.1.fmod per + q.2 - q.1)
def spRound1 (K : PySem.W.Frag) : Sp := fun vs H Q _ => ∃ (a : Addr) (per : Int) (rs : List (Int × Int)), vs = [.int per, .ref a] ∧ RunsT K H a rs ∧ rs.length ≤ 1 ∧ 0 < per ∧ ∀ b H', Same H H' → RunsT K H' b (norm1 per (rs.map (inRound per))) → Q (.ref b) H'
theorem ok_round_of (T : Txt K mg) : FnOk P w K mg base CX0 2 T.a_round_of T.fd_round_of ["period", "runs"] (spRound1 K) := by
  refine T.F_round_of.ok sc_round_of (fun vs H Q E h => ?_) (fun cdv A outer s H vs Q E hr h => ?_)
  · obtain ⟨a, per, rs, rfl, _⟩ := h; rfl
  · obtain ⟨a, per, rs, rfl, ⟨vs, hA, hP⟩, hl, h0, k⟩ := h
    refine ⟨_, pss_cons (ps_set (i := 2) sc_round_of.nd rfl (Or.inl rfl) (pe_callB cr_sortedP (by rfl) T.n_sorted (by decide +kernel) (pa_cons (pe_lc (own := [("begin", 3), ("end", 4)]) (tt := tYes) rfl sc_round_of.nd (pi_tup (pv 1)) (blkOk_by (own := [("begin", 3), ("end", 4)]) (N := ["period", "runs", "rows", "begin", "end", "grown"]) (sc := defScope s_round_of) (by decide +kernel)) (fun _ _ _ _ _ => pg_tup2 K 2 (by rfl) (by rfl) (pgs_cons (pg_name (i := 3) sc_round_of.nd rfl (Or.inl rfl)) (pgs_cons (pg_name (i := 4) sc_round_of.nd rfl (Or.inl rfl)) (pgs_nil)))) (fun _ _ _ _ _ => pts_nil) (fun _ _ _ _ _ => pe_tup (pa_cons (pe_op op_modN (pv 3) (pv 0)) (pa_cons (pe_op op_sub (pe_op op_add (pe_op op_modN (pv 3) (pv 0)) (pv 4)) (pv 3)) (pa_nil))))) (pa_nil))))
      (pss_cons (ps_set (i := 5) sc_round_of.nd rfl (Or.inl rfl) (pe_lst (pa_nil)))
      (pss_cons (ps_for PassesOwn.never rfl (pi_list (pv 2)) (pg_tup rfl (pgs_cons (pg_name (i := 3) sc_round_of.nd rfl (Or.inl rfl)) (pgs_cons (pg_name (i := 4) sc_round_of.nd rfl (Or.inl rfl)) (pgs_nil)))) (pss_one (ps_if (PW.pt (pw_and (pt_truth (pv 5) (fun _ => rfl)) (pw_and1 (pt_cmpR op_le (pv 3) (pe_op op_add (pe_ix ix_tup (pe_ix ix_list (pv 5) (pe_un un_neg (pe_int)) (fun _ _ => rfl)) (pe_int) (fun _ _ => rfl)) (pe_int)) (nomark _))))) (pss_one (ps_asg (pe_tup (pa_cons (pe_ix ix_tup (pe_ix ix_list (pv 5) (pe_un un_neg (pe_int)) (fun _ _ => rfl)) (pe_int) (fun _ _ => rfl)) (pa_cons (pe_callB (call_max2 rfl) (by rfl) T.n_max (by decide +kernel) (pa_cons (pe_ix ix_tup (pe_ix ix_list (pv 5) (pe_un un_neg (pe_int)) (fun _ _ => rfl)) (pe_int) (fun _ _ => rfl)) (pa_cons (pv 4) (pa_nil)))) (pa_nil)))) (pg_sub (pv 5) (pe_un un_neg (pe_int)) set_list))) (pss_one (ps_expr (pe_bm PySem.F.plainAttrs_list PySem.F.slot_list_append PySem.F.type_list_append mt_append (pv 5) (pa_cons (pe_tup (pa_cons (pv 3) (pa_cons (pv 4) (pa_nil)))) (pa_nil))))))))
      (pss_one (ps_ret (pe_call (ok_closed T) (hr.mono (by decide)) rfl T.m_closed T.F_closed.kp (b_closed T) .nil pass0 (pa_cons (pv 0) (pa_cons (pv 5) (pa_nil)))))))), ?_⟩
    have hlen : vs.length = rs.length := hP.1
    match vs, rs, hlen, hl, hA, hP, k with
    | [], [], _, _, hA, hP, k =>
      refine ⟨_, rfl, a, rfl, ⟨_, hA⟩, fun D hD => lc_tup (K := K) (a := a) (xs := []) (fun i H' => H' = upd H D (.lst [])) rfl (fun i H' _ e => e ▸ SqT.same (same_new hD) hA) (fun i x H' e => by simp at e) ?_⟩
      rintro H' rfl
      refine ⟨D, [], rfl, SqL.of upd_same, fun x hx => absurd hx List.not_mem_nil, fun ys p hp hn => ?_⟩
      have e : ys = [] := List.Perm.eq_nil hp
      subst e
      refine ⟨Nat.zero_le _, fun g hg => ?_⟩
      have s1 := ((same_new (o := .lst []) hD).trans (same_new (o := .lst []) hn)).trans (same_new (o := .lst []) hg)
      have ep : (upd (upd (upd H D (.lst [])) p (.lst [])) g (.lst [])) p = some (.lst []) := same_new hg _ _ upd_same
      have eg : (upd (upd (upd H D (.lst [])) p (.lst [])) g (.lst [])) g = some (.lst []) := upd_same
      generalize upd (upd (upd H D (.lst [])) p (.lst [])) g (.lst []) = G at s1 ep eg ⊢
      refine ⟨_, rfl, p, rfl, ⟨_, SqL.of ep⟩, for_list (K := K) (a := p) (xs := []) (fun i σ H' => H' = G ∧ σ = [some (.int per), some (.ref a), some (.ref p), Option.none, Option.none, some (.ref g)]) ⟨rfl, rfl⟩ (fun _ _ _ _ h => by rw [h.1]; exact SqL.of ep) (fun i y σ H' e => by simp at e) ?_⟩
      rintro σ H' ⟨rfl, rfl⟩
      exact ⟨_, rfl, _, rfl, g, per, [], [], rfl, eg, ⟨rfl, fun i y e => by simp at e⟩, Nat.zero_le _, fun b H2 s2 r2 => k b H2 (s1.trans s2) r2⟩
    | [y], [q], _, _, hA, hP, k =>
      obtain ⟨b, q', rfl, hq, hb⟩ := hP.2 0 y rfl
      cases hq
      refine ⟨_, rfl, a, rfl, ⟨_, hA⟩, fun D hD => lc_tup (K := K) (a := a) (xs := [.ref b]) (fun i H' => Same (upd H D (.lst [])) H' ∧ i = 0 ∧ H' D = some (.lst []) ∨ i = 1 ∧ Same H H' ∧ ∃ c, H' D = some (.lst [.ref c]) ∧ H' c = some (.tup [.int (inRound per q).1, .int (inRound per q).2]))
        (.inl ⟨fun _ _ z => z, rfl, upd_same⟩) (fun i H' _ e => ?_) (fun i x H' e hv => ?_) ?_⟩
      · rcases e with ⟨s1, _⟩ | ⟨_, s1, _⟩
        · exact SqT.same s1 (SqT.same (same_new hD) hA)
        · exact SqT.same s1 hA
      · have ei : i = 0 := by
          have := (List.getElem?_eq_some_iff.mp e).1
          simp at this
          omega
        subst ei
        cases e
        rcases hv with ⟨s1, _, hD1⟩ | ⟨z, _⟩
        · have s2 := (same_new (o := .lst []) hD).trans s1
          refine ⟨b, _, rfl, SqT.same s2 hb, rfl, _, _, rfl, _, _, rfl, rfl, rfl, ?_⟩
          conv => whnf
          have pn : per ≠ 0 := by omega
          refine ⟨_, rfl, _, rfl, _, _, rfl, rfl, pn, _, rfl, _, rfl, _, _, rfl, rfl, pn, _, rfl, _, _, rfl, rfl, _, rfl, _, _, rfl, rfl, (by show 2 ≤ sizeLine; decide), fun c hc => ?_⟩
          have cD : c ≠ D := fun z => by rw [z, hD1] at hc; cases hc
          refine ⟨[], same_new hc _ _ hD1, by decide, .inr ⟨rfl, ?_, c, upd_same, ?_⟩⟩
          · intro x o e
            have e1 := (same_new (o := .tup [.int (inRound per q).1, .int (inRound per q).2]) hc) _ _ (s2 _ _ e)
            rw [upd_ne (fun z => by rw [z, hD] at e; cases e)]
            exact e1
          · rw [upd_ne cD, upd_same]
            rfl
        · cases z
      · rintro H' (⟨_, z, _⟩ | ⟨_, s1, c, hD1, hc⟩)
        · cases z
        · refine ⟨D, _, rfl, SqL.of hD1, fun x hx => ?_, fun ys p hp hn => ?_⟩
          · rw [List.mem_singleton] at hx
            exact ⟨c, _, _, hx, hc⟩
          have e : ys = [.ref c] := List.perm_singleton.mp hp
          subst e
          refine ⟨Nat.zero_le _, fun g hg => ?_⟩
          have s2 := (s1.trans (same_new (o := .lst [V.ref c]) hn)).trans (same_new (o := .lst []) hg)
          have ep : (upd (upd H' p (.lst [.ref c])) g (.lst [])) p = some (.lst [.ref c]) := same_new hg _ _ upd_same
          have eg : (upd (upd H' p (.lst [.ref c])) g (.lst [])) g = some (.lst []) := upd_same
          have ec := same_new (o := .lst []) hg _ _ (same_new (o := .lst [V.ref c]) hn _ _ hc)
          have ng : ∀ x o, H x = some o → x ≠ g := fun x o e z => by
            have q1 := same_new (o := .lst [V.ref c]) hn _ _ (s1 _ _ e)
            rw [z, hg] at q1
            cases q1
          have pg : p ≠ g := fun z => by rw [← z, upd_same] at hg; cases hg
          have cg : c ≠ g := ne_of_none (same_new (o := .lst [V.ref c]) hn _ _ hc) hg
          generalize upd (upd H' p (.lst [.ref c])) g (.lst []) = G at s2 ep eg ec ⊢
          refine ⟨_, rfl, p, rfl, ⟨_, SqL.of ep⟩, for_list (K := K) (a := p) (xs := [.ref c]) (fun i σ H2 => (i = 0 ∧ H2 = G ∧ σ = [some (.int per), some (.ref a), some (.ref p), Option.none, Option.none, some (.ref g)]) ∨
            (i = 1 ∧ Same H H2 ∧ H2 p = some (.lst [.ref c]) ∧ (∃ x3 x4, σ = [some (.int per), some (.ref a), some (.ref p), x3, x4, some (.ref g)]) ∧ ∃ f, H2 g = some (.lst [.ref f]) ∧ H2 f = some (.tup [.int (inRound per q).1, .int (inRound per q).2])))
            (.inl ⟨rfl, rfl, rfl⟩) (fun i σ H2 _ h => ?_) (fun i y σ H2 e hv => ?_) ?_⟩
          · rcases h with ⟨_, z, _⟩ | ⟨_, _, z, _⟩
            · rw [z]; exact SqL.of ep
            · exact SqL.of z
          · have ei : i = 0 := by
              have := (List.getElem?_eq_some_iff.mp e).1
              simp at this
              omega
            subst ei
            cases e
            rcases hv with ⟨_, rfl, rfl⟩ | ⟨z, _⟩
            · refine ⟨c, _, rfl, SqT.of ec, rfl, _, _, rfl, _, _, rfl, rfl, ?_⟩
              refine ⟨_, rfl, false, .inl ⟨[], SqL.of eg, rfl⟩, iteF (iteF ?_)⟩
              refine ⟨_, rfl, .inl ⟨rfl, _, SqL.of eg⟩, _, rfl, _, rfl, (by show 2 ≤ sizeLine; decide), fun f hf => ?_⟩
              have fg : f ≠ g := fun z => by rw [z, eg] at hf; cases hf
              have tf := same_new (o := .tup [.int (inRound per q).1, .int (inRound per q).2]) hf
              refine ⟨g, [], _, rfl, rfl, tf _ _ eg, by decide, .inr ⟨rfl, fun x o e => ?_, ?_, ⟨_, _, rfl⟩, f, upd_same, ?_⟩⟩
              · rw [upd_ne (ng x o e)]
                exact tf _ _ (s2 _ _ e)
              · rw [upd_ne pg]
                exact tf _ _ ep
              · rw [upd_ne fg, upd_same]
            · cases z
          · rintro σ H2 (⟨z, _⟩ | ⟨_, s3, _, ⟨x3, x4, rfl⟩, f, e1, e2⟩)
            · cases z
            · refine ⟨_, rfl, _, rfl, g, per, [.ref f], [inRound per q], rfl, e1, ⟨rfl, fun i y e => ?_⟩, Nat.le_refl _, fun b2 H3 s4 r4 => k b2 H3 (s3.trans s4) r4⟩
              match i, e with
              | 0, e => cases e; exact ⟨f, _, rfl, rfl, SqT.of e2⟩
    | [], _ :: _, h, _, _, _, _ => simp at h
    | _ :: _, [], h, _, _, _, _ => simp at h
    | _ :: _ :: _, [_], h, _, _, _, _ => simp at h
    | _, _ :: _ :: _, _, h, _, _, _ => simp at h

theorem shaped_pair (x y : Int) : SeqAt.shaped (.list [.tuple [.int x, .int y]]) = true := by
  simp [SeqAt.shaped, PyData.canLay0, PyData.canLayAll0, PyData.depth, PyData.depthAll]
theorem eqv_pair (x y : Int) : PyData.eqv (.list [.tuple [.int x, .int y]]) (.list [.tuple [.int x, .int y]]) = true := by
  simp [PyData.eqv, PyData.eqvAll]
/-- the least form of at most one run -/
def lform (per : Int) : List (Int × Int) → Int × List (Int × Int)
  | [q] => if q.2 - q.1 + 1 = per then (1, [(0, 0)]) else (per, [q])
  | _ => (1, [])
def spLeast1 (K : PySem.W.Frag) : Sp := fun vs H Q _ => ∃ (t a : Addr) (per : Int) (rs : List (Int × Int)), vs = [.ref t] ∧ SqT K H t [.int per, .ref a] ∧ RunsT K H a rs ∧ rs.length ≤ 1 ∧
  ∀ t' a' H', Same H H' → SqT K H' t' [.int (lform per rs).1, .ref a'] → RunsT K H' a' (lform per rs).2 → Q (.ref t') H'
theorem ok_least_form (T : Txt K mg) : FnOk P w K mg base CX0 2 T.a_least_form T.fd_least_form ["table"] (spLeast1 K) := by
  refine T.F_least_form.ok sc_least_form (fun vs H Q E h => ?_) (fun cdv A outer s H vs Q E hr h => ?_)
  · obtain ⟨t, a, per, rs, rfl, _⟩ := h; rfl
  · obtain ⟨t, a, per, rs, rfl, hT, ⟨vs, hA, hP⟩, hl, k⟩ := h
    refine ⟨_, pss_cons (ps_asg (pv 0) (pg_tup rfl (pgs_cons (pg_name (i := 1) sc_least_form.nd rfl (Or.inl rfl)) (pgs_cons (pg_name (i := 2) sc_least_form.nd rfl (Or.inr rfl)) (pgs_nil)))))
      (pss_cons (ps_if (pt_not (pt_truth (pv 2) (fun _ => rfl))) (pss_one (ps_ret (pe_tup (pa_cons (pe_int) (pa_cons (pe_tup (pa_nil)) (pa_nil)))))) (pss_nil))
      (pss_cons (ps_if (pt_val (pe_call (ok_is_full T) (hr.mono (by decide)) rfl T.m_is_full T.F_is_full.kp (b_is_full T) .nil pass0 (pa_cons (pv 0) (pa_nil)))) (pss_one (ps_ret (pe_glob (v := .ref T.a_ALL) rfl T.m_ALL rfl))) (pss_nil))
      (pss_cons (ps_set (i := 3) sc_least_form.nd rfl (Or.inl rfl) (pe_callB call_len_seq (by rfl) T.n_len (by decide +kernel) (pa_cons (pv 2) (pa_nil))))
      (pss_cons (ps_set (i := 4) sc_least_form.nd rfl (Or.inr rfl) (pe_op op_cat (pe_lc (own := [("begin", 5), ("end", 6)]) (tt := tYes) rfl sc_least_form.nd (pi_tup (pv 2)) (blkOk_by (own := [("begin", 5), ("end", 6)]) (N := ["table", "period", "runs", "many", "begins", "begin", "end", "steps", "at", "part"]) (sc := defScope s_least_form) (by decide +kernel)) (fun _ _ _ _ _ => pg_tup2 K 2 (by rfl) (by rfl) (pgs_cons (pg_name (i := 5) sc_least_form.nd rfl (Or.inl rfl)) (pgs_cons (pg_name (i := 6) sc_least_form.nd rfl (Or.inl rfl)) (pgs_nil)))) (fun _ _ _ _ _ => pts_nil) (fun _ _ _ _ _ => pv 5)) (pe_lst (pa_cons (pe_op op_add (pe_ix ix_tup (pe_ix ix_tup (pv 2) (pe_int) (fun _ _ => rfl)) (pe_int) (fun _ _ => rfl)) (pv 1)) (pa_nil)))))
      (pss_cons (ps_setLc (i := 7) (own := [("at", 8)]) (g := gName 8) (tt := tYes) rfl sc_least_form.nd rfl rfl (sw_true rfl rfl rfl (by decide +kernel)) (pi_range1 (by rfl) T.n_range (pa_cons (pv 3) (pa_nil))) (blkOk_by (own := [("at", 8)]) (N := ["table", "period", "runs", "many", "begins", "begin", "end", "steps", "at", "part"]) (sc := defScope s_least_form) (by decide +kernel)) (fun _ _ _ _ _ => pg_name (i := 8) sc_least_form.nd rfl (Or.inl rfl)) (fun _ _ _ _ _ => pts_nil) (fun _ _ _ _ _ => pe_tup (pa_cons (pe_op op_sub (pe_ix (ix_list2 K (by rfl)) (pv 4) (pe_op op_add (pv 8) (pe_int)) (fun _ _ => rfl)) (pe_ix (ix_list2 K (by rfl)) (pv 4) (pv 8) (fun _ _ => rfl))) (pa_cons (pe_op op_sub (pe_ix (ix_tup2 K (by rfl)) (pe_ix (ix_tup2 K (by rfl)) (pv 2) (pv 8) (fun _ _ => rfl)) (pe_int) (fun _ _ => rfl)) (pe_ix (ix_tup2 K (by rfl)) (pe_ix (ix_tup2 K (by rfl)) (pv 2) (pv 8) (fun _ _ => rfl)) (pe_int) (fun _ _ => rfl))) (pa_nil)))))
      (pss_cons (ps_for PassesOwn.never rfl (pi_range2 (by rfl) T.n_range (pa_cons (pe_int) (pa_cons (pe_op op_add (pv 3) (pe_int)) (pa_nil)))) (pg_name (i := 9) sc_least_form.nd rfl (Or.inl rfl)) (pss_one (ps_if (PW.pt (pw_and (pt_cmpR op_eq (pe_op op_modN (pv 3) (pv 9)) (pe_int) (nomark _)) (pw_and1 (pt_cmpR (op_eqD hr.units) (pe_op op_cat (pe_slice sl_list (pv 7) (po_some (pv 9)) (po_none)) (pe_slice sl_list (pv 7) (po_none) (po_some (pv 9)))) (pv 7) (nomark _))))) (pss_one (ps_ret (pe_tup (pa_cons (pe_op op_fdivW (pv 1) (pe_op op_fdivW (pv 3) (pv 9))) (pa_cons (pe_slice sl_tupA (pv 2) (po_none) (po_some (pv 9))) (pa_nil)))))) (pss_nil))))
      (pss_one (ps_ret (pv 0))))))))), ?_⟩
    have hlen : vs.length = rs.length := hP.1
    refine ⟨_, rfl, t, _, rfl, hT, rfl, _, _, rfl, _, _, rfl, rfl, ?_⟩
    match vs, rs, hlen, hl, hA, hP, k with
    | [], [], _, _, hA, hP, k =>
      refine ⟨_, rfl, false, .inr (.inl ⟨[], hA, rfl⟩), iteT ?_⟩
      refine ⟨Nat.zero_le _, fun c1 k1 => ⟨(by show 2 ≤ sizeLine; decide), fun c2 k2 => ?_⟩⟩
      exact k c2 c1 _ ((same_new k1).trans (same_new k2)) (SqT.of upd_same) (runsT_nil (same_new k2 _ _ upd_same))
    | [y], [q], _, _, hA, hP, k =>
      refine ⟨_, rfl, true, .inr (.inl ⟨_, hA, rfl⟩), iteF ?_⟩
      refine ⟨_, rfl, t, a, per, [q], rfl, hT, ⟨_, hA, hP⟩, _, rfl, ?_⟩
      obtain ⟨b, q', rfl, hq, hb⟩ := hP.2 0 y rfl
      cases hq
      by_cases hf : q.2 - q.1 + 1 = per
      · refine if_true_of (decide_eq_true hf) ?_
        obtain ⟨b1, c1, r1, r2, r3⟩ := T.r_ALL
        have el : lform per [q] = (1, [(0, 0)]) := if_pos hf
        have no : Same (fun _ => Option.none) H := fun x o e => by cases e
        refine k T.a_ALL b1 H (Same.refl H) ?_ ?_
        · rw [el]; exact SqT.same no r1
        · rw [el]
          refine ⟨_, SqT.same no r2, rfl, fun i y e => ?_⟩
          match i, e with
          | 0, e => cases e; exact ⟨c1, (0, 0), rfl, rfl, SqT.same no r3⟩
      · refine if_false_of (decide_eq_false hf) ?_
        have el : lform per [q] = (per, [q]) := if_neg hf
        refine ⟨_, rfl, a, _, rfl, .inr hA, ?_⟩
        refine ⟨_, rfl, a, rfl, ⟨_, hA⟩, fun D hD => lc_tup (K := K) (a := a) (xs := [.ref b]) (fun i H' => H' = upd H D (.lst (([q].take i).map fun q => V.int q.1))) rfl (fun i H' _ e => e ▸ SqT.same (same_new hD) hA) (fun i x H' e hv => ?_) ?_⟩
        · have ei : i = 0 := by
            have := (List.getElem?_eq_some_iff.mp e).1
            simp at this
            omega
          subst ei
          cases e
          subst hv
          refine ⟨b, _, rfl, SqT.same (same_new hD) hb, rfl, _, _, rfl, _, _, rfl, rfl, rfl, ?_⟩
          conv => whnf
          refine ⟨_, rfl, _, upd_same, (by show 0 < sizeLine; decide), ?_⟩
          rw [upd_upd]
          rfl
        · rintro H' rfl
          have eD : (upd H D (.lst (([q].take [V.ref b].length).map fun q => V.int q.1))) D = some (.lst [.int q.1]) := upd_same
          have sD := same_new (o := .lst (([q].take [V.ref b].length).map fun q => V.int q.1)) hD
          generalize upd H D (.lst (([q].take [V.ref b].length).map fun q => V.int q.1)) = G1 at eD sD ⊢
          have hA1 := SqT.same sD hA
          have hb1 := SqT.same sD hb
          refine ⟨_, rfl, a, _, _, _, rfl, rfl, hA1, rfl, b, _, _, _, rfl, rfl, hb1, rfl, _, rfl, _, _, rfl, rfl, (by show 1 ≤ sizeLine; decide), fun l1 kl => ?_⟩
          refine ⟨D, l1, _, _, rfl, rfl, same_new kl _ _ eD, upd_same, (by show 2 ≤ sizeLine; decide), fun r kr => ?_⟩
          have er : (upd (upd G1 l1 (.lst [.int (q.1 + per)])) r (.lst ([.int q.1] ++ [.int (q.1 + per)]))) r = some (.lst [.int q.1, .int (q.1 + per)]) := upd_same
          have sr := (sD.trans (same_new (o := .lst [.int (q.1 + per)]) kl)).trans (same_new (o := .lst ([.int q.1] ++ [.int (q.1 + per)])) kr)
          generalize upd (upd G1 l1 (.lst [.int (q.1 + per)])) r (.lst ([.int q.1] ++ [.int (q.1 + per)])) = G2 at er sr ⊢
          have hA2 := SqT.same sr hA
          have hb2 := SqT.same sr hb
          refine ⟨_, rfl, 1, rfl, by decide, by decide, fun L hL => lc_range (lo := 0) (n := 1) (fun t H3 => (t = 0 ∧ H3 = upd G2 L (.lst [])) ∨ (t = 1 ∧ Same G2 H3 ∧ ∃ c, H3 L = some (.lst [.ref c]) ∧ H3 c = some (.tup [.int per, .int (q.2 - q.1)]))) (.inl ⟨rfl, rfl⟩) ?_ ?_⟩
          · rintro t H3 ht hv
            have ei : t = 0 := by omega
            subst ei
            rcases hv with ⟨_, rfl⟩ | ⟨z, _⟩
            · refine ⟨rfl, ?_⟩
              conv => whnf
              have sL := same_new (o := .lst []) hL
              have hA3 := SqT.same sL hA2
              have hb3 := SqT.same sL hb2
              refine ⟨_, rfl, _, rfl, _, _, rfl, rfl, r, _, _, _, rfl, rfl, SqL.of (sL _ _ er), rfl, _, rfl, _, rfl, r, _, _, _, rfl, rfl, SqL.of (sL _ _ er), rfl, _, _, rfl, rfl, ?_⟩
              refine ⟨_, rfl, _, rfl, a, _, _, _, rfl, rfl, hA3, rfl, b, _, _, _, rfl, rfl, hb3, rfl, _, rfl, _, rfl, a, _, _, _, rfl, rfl, hA3, rfl, b, _, _, _, rfl, rfl, hb3, rfl, _, _, rfl, rfl, (by show 2 ≤ sizeLine; decide), fun c kc => ?_⟩
              have cL : c ≠ L := fun z => by rw [z, upd_same] at kc; cases kc
              refine ⟨[], same_new kc _ _ upd_same, (by show 0 < sizeLine; decide), .inr ⟨rfl, fun x o e => ?_, c, upd_same, ?_⟩⟩
              · rw [upd_ne (ne_of_none e hL)]
                exact same_new kc _ _ (sL _ _ e)
              · rw [upd_ne cL, upd_same]
                show some (HO.tup [V.int (q.1 + per - q.1), V.int (q.2 - q.1)]) = _
                rw [show q.1 + per - q.1 = per by omega]
            · cases z
          · rintro H3 (⟨z, _⟩ | ⟨_, s3, c, e3, e4⟩)
            · cases z
            · have s4 := sr.trans s3
              refine ⟨_, rfl, _, _, rfl, rfl, 1, 1 + 1, rfl, ⟨by decide, by decide, by decide, by decide⟩, for_range (lo := 1) (n := 1) (fun i σ H4 => i = 0 ∧ H4 = H3 ∧ ∃ x5 x6 x8 x9, σ = [some (.ref t), some (.int per), some (.ref a), some (.int 1), some (.ref r), x5, x6, some (.ref L), x8, x9]) ⟨rfl, rfl, _, _, _, _, rfl⟩ ?_ ?_⟩
              · rintro i σ H4 hi ⟨rfl, rfl, x5, x6, x8, x9, rfl⟩
                have eL := e3
                have ez : ∀ G : Hp, G c = some (.tup [.int per, .int (q.2 - q.1)]) → DpAll K G [.ref c] [.tuple [.int per, .int (q.2 - q.1)]] := fun G e => .cons (.tup (SqT.of e) (.cons (.int _) (.cons (.int _) .nil))) .nil
                have c1 : cutV [V.ref c] (some (1 + ((0 : Nat) : Int))) Option.none = [] := rfl
                have c2 : cutV [V.ref c] Option.none (some (1 + ((0 : Nat) : Int))) = [V.ref c] := rfl
                refine ⟨_, rfl, _, rfl, _, _, rfl, rfl, (by show (_ : Int) ≠ 0; decide), rfl, _, rfl, if_true_of rfl ?_⟩
                refine ⟨_, rfl, _, rfl, _, rfl, L, _, rfl, SqL.of eL, fun p1 k1 => ?_⟩
                refine ⟨_, rfl, _, rfl, _, rfl, L, _, rfl, SqL.of (same_new k1 _ _ eL), fun p2 k2 => ?_⟩
                rw [c1, c2]
                refine ⟨p1, p2, _, _, rfl, rfl, same_new k2 _ _ upd_same, upd_same, (by show 1 ≤ sizeLine; decide), fun p3 k3 => ?_⟩
                have z4 := (((same_new (o := .lst []) k1).trans (same_new (o := .lst [V.ref c]) k2)).trans (same_new (o := .lst ([] ++ [V.ref c])) k3))
                have s5 := s4.trans z4
                refine ⟨_, rfl, _, _, .lst (SqL.of upd_same) (ez _ (z4 _ _ e4)), .lst (SqL.of (z4 _ _ eL)) (ez _ (z4 _ _ e4)), shaped_pair _ _, shaped_pair _ _, _, rfl, if_true_of (eqv_pair _ _) ?_⟩
                have hA5 := SqT.same s5 hA
                have hb5 := SqT.same s5 hb
                refine ⟨_, rfl, _, rfl, _, rfl, _, _, rfl, rfl, wide_div (b := 2) (by decide) (by decide) (by decide) (by decide), _, _, rfl, rfl, wide_div (b := 2) (by decide) (by decide) (by decide) (by decide), ?_⟩
                refine ⟨_, rfl, _, rfl, _, rfl, a, _, rfl, hA5, (fun _ => ?_), fun z => absurd ⟨rfl, rfl⟩ z⟩
                refine ⟨(by show 2 ≤ sizeLine; decide), fun t' kt => ?_⟩
                have s6 := s5.trans (same_new (o := .tup [.int (per / (1 / (1 + ((0 : Nat) : Int)))), .ref a]) kt)
                have ed : per / (1 / (1 + ((0 : Nat) : Int))) = per := by
                  show per / 1 = per
                  exact Int.ediv_one per
                refine k t' a _ s6 ?_ ?_
                · rw [el]
                  refine SqT.of ?_
                  rw [upd_same]
                  show some (HO.tup [V.int (per / (1 / (1 + ((0 : Nat) : Int)))), .ref a]) = _
                  rw [ed]
                · rw [el]
                  refine ⟨_, SqT.same s6 hA, rfl, fun i y e => ?_⟩
                  match i, e with
                  | 0, e => cases e; exact ⟨b, q, rfl, rfl, SqT.same s6 hb⟩
              · rintro σ H4 ⟨z, _⟩
                cases z
    | [], _ :: _, h, _, _, _, _ => simp at h
    | _ :: _, [], h, _, _, _, _ => simp at h
    | _ :: _ :: _, [_], h, _, _, _, _ => simp at h
    | _, _ :: _ :: _, _, h, _, _, _ => simp at h

theorem norm1_len (per : Int) (rs : List (Int × Int)) : (norm1 per rs).length ≤ 1 := by
  match rs with
  | [] => exact Nat.zero_le _
  | [q] =>
    by_cases h : q.1 + per ≤ q.2 + 1
    · have e : norm1 per [q] = [(0, per - 1)] := if_pos h
      rw [e]
      exact Nat.le_refl 1
    · have e : norm1 per [q] = [q] := if_neg h
      rw [e]
      exact Nat.le_refl 1
  | _ :: _ :: _ => exact Nat.zero_le _
theorem lform_len (per : Int) (rs : List (Int × Int)) : (lform per rs).2.length ≤ 1 := by
  match rs with
  | [] => exact Nat.zero_le _
  | [q] =>
    by_cases h : q.2 - q.1 + 1 = per
    · have e : lform per [q] = (1, [(0, 0)]) := if_pos h
      rw [e]
      exact Nat.le_refl 1
    · have e : lform per [q] = (per, [q]) := if_neg h
      rw [e]
      exact Nat.le_refl 1
  | _ :: _ :: _ => exact Nat.zero_le _
theorem SqT.ins {H : Hp} {a x C dx : Addr} {fs fs' : List (Str × V)} {xs : List V} (h : SqT K H a xs) (e : H x = some (.ins C dx fs)) : SqT K (upd H x (.ins C dx fs')) a xs := by
  rcases h with (h | ⟨o, h⟩) | h
  · exact .inl (.inl (by rw [upd_ne (fun z => by rw [z, e] at h; cases h)]; exact h))
  · exact .inl (.inr ⟨o, by rw [upd_ne (fun z => by rw [z, e] at h; cases h)]; exact h⟩)
  · exact .inr h
theorem RunsT.same {H H' : Hp} {a : Addr} {rs : List (Int × Int)} (s : Same H H') (h : RunsT K H a rs) : RunsT K H' a rs := by
  obtain ⟨vs, h1, h2, h3⟩ := h
  exact ⟨vs, SqT.same s h1, h2, fun i y e => by
    obtain ⟨b, q, e1, e2, e3⟩ := h3 i y e
    exact ⟨b, q, e1, e2, SqT.same s e3⟩⟩
theorem RunsT.ins {H : Hp} {a x C dx : Addr} {fs fs' : List (Str × V)} {rs : List (Int × Int)} (h : RunsT K H a rs) (e : H x = some (.ins C dx fs)) : RunsT K (upd H x (.ins C dx fs')) a rs := by
  obtain ⟨vs, h1, h2, h3⟩ := h
  exact ⟨vs, SqT.ins h1 e, h2, fun i y q => by
    obtain ⟨b, p, e1, e2, e3⟩ := h3 i y q
    exact ⟨b, p, e1, e2, SqT.ins e3 e⟩⟩
/-- a lot of the period per with the runs rs is at x -/
def LotAt (K : PySem.W.Frag) (C : Addr) (H : Hp) (x : Addr) (per : Int) (rs : List (Int × Int)) : Prop := ∃ (dx a : Addr), H x = some (.ins C dx [("period", .int per), ("runs", .ref a), ("size", .int (total rs))]) ∧ RunsT K H a rs
theorem LotAt.same {C : Addr} {H H' : Hp} {x : Addr} {per : Int} {rs : List (Int × Int)} (s : Same H H') (h : LotAt K C H x per rs) : LotAt K C H' x per rs := by
  obtain ⟨dx, a, h1, h2⟩ := h
  exact ⟨dx, a, s _ _ h1, h2.same s⟩
/-- the runs as they are passed: one at most -/
def Given (H : Hp) (vs : List V) (rs : List (Int × Int)) : Prop := vs.length = rs.length ∧ ∀ (i : Nat) (y : V), vs[i]? = some y → ∃ (a : Addr) (q : Int × Int), y = .ref a ∧ rs[i]? = some q ∧ PairAt H a q.1 q.2 ∧ q.1 ≤ q.2
def spInit (K : PySem.W.Frag) (C : Addr) : V → V → List V → Hp → VK → XK → Prop := fun a b vs H Q _ => ∃ (x dx : Addr) (per : Int) (rs : List (Int × Int)), a = .ref x ∧ b = .int per ∧ H x = some (.ins C dx []) ∧ Given H vs rs ∧ rs.length ≤ 1 ∧ 0 < per ∧
  ∀ H', (∀ y o, y ≠ x → H y = some o → H' y = some o) → LotAt K C H' x (lform per (norm1 per (rs.map (inRound per)))).1 (lform per (norm1 per (rs.map (inRound per)))).2 → Q .non H'
theorem ok_Lot_init (T : Txt K mg) : FnR P w K mg base CX0 5 T.a_Lot_init (fun vs H Q E => ∃ a b rest, vs = a :: b :: rest ∧ rest.length ≤ sizeLine ∧ spInit K T.a_Lot a b rest H Q E) := by
  refine star2_ok (k := 4) T.F_Lot_init sc_Lot_init (fun _ _ _ _ _ _ _ _ rest => by cases rest <;> rfl) fun cdv A outer s H a b vs p H0 Q E hr h hv hp eH => ?_
  obtain ⟨x, dx, per, rs, rfl, rfl, hx, hG, hl, h0, k⟩ := h
  refine ⟨_, pss_cons (ps_if (pt_not (pt_val (pe_call (ok_is_from T) (hr.mono (by decide)) rfl T.m_is_from T.F_is_from.kp (b_is_from T) .nil pass0 (pa_cons (pv 1) (pa_cons (pe_int) (pa_nil)))))) (pss_one (ps_never)) (pss_nil))
      (pss_cons (ps_for PassesOwn.never rfl (pi_tup (pv 2)) (pg_name (i := 3) sc_Lot_init.nd rfl (Or.inl rfl)) (pss_one (ps_if (pt_not (pt_val (pe_call (ok_is_run T) (hr.mono (by decide)) rfl T.m_is_run T.F_is_run.kp (b_is_run T) .nil pass0 (pa_cons (pv 3) (pa_nil))))) (pss_one (ps_never)) (pss_nil))))
      (pss_cons (ps_set (i := 4) sc_Lot_init.nd rfl (Or.inl rfl) (pe_call (ok_round_of T) (hr.mono (by decide)) rfl T.m_round_of T.F_round_of.kp (b_round_of T) .nil pass0 (pa_cons (pv 1) (pa_cons (pv 2) (pa_nil)))))
      (pss_cons (ps_if (pt_cmpR op_gt (pe_callB call_len_seq (by rfl) T.n_len (by decide +kernel) (pa_cons (pv 4) (pa_nil))) (pe_glob (v := .int 2000) rfl T.m_MOST T.r_MOST) (nomark _)) (pss_one (ps_never)) (pss_nil))
      (pss_cons (ps_set (i := 5) sc_Lot_init.nd rfl (Or.inl rfl) (pe_call (ok_least_form T) (hr.mono (by decide)) rfl T.m_least_form T.F_least_form.kp (b_least_form T) .nil pass0 (pa_cons (pe_tup (pa_cons (pv 1) (pa_cons (pv 4) (pa_nil)))) (pa_nil))))
      (pss_cons (ps_fld (pv 0) (pe_ix ix_tup (pv 5) (pe_int) (fun _ _ => rfl)) rfl)
      (pss_cons (ps_fld (pv 0) (pe_ix ix_tup (pv 5) (pe_int) (fun _ _ => rfl)) rfl)
      (pss_one (ps_fld (pv 0) (pe_call (ok_size_of T) (hr.mono (by decide)) rfl T.m_size_of T.F_size_of.kp (b_size_of T) .nil pass0 (pa_cons (pe_ix ix_tup (pv 5) (pe_int) (fun _ _ => rfl)) (pa_nil))) rfl)))))))), ?_⟩
  refine ⟨_, rfl, .int per, "int", 1, rfl, .int per, ?_⟩
  subst eH
  have s0 := same_new (o := .tup vs) hp
  have ep : (upd H0 p (.tup vs)) p = some (.tup vs) := upd_same
  have hx0 := hx
  have hx := s0 _ _ hx
  have hlen : vs.length = rs.length := hG.1
  have hR : RunsT K (upd H0 p (.tup vs)) p rs := ⟨vs, SqT.of ep, hlen, fun i y e => by
    obtain ⟨c, q, e1, e2, e3, _⟩ := hG.2 i y e
    exact ⟨c, q, e1, e2, SqT.of (s0 _ _ e3)⟩⟩
  have hx1 : ∀ y o, y ≠ x → H0 y = some o → (upd H0 p (.tup vs)) y = some o := fun y o _ e => s0 _ _ e
  have hD : ∀ i y, vs[i]? = some y → ∃ (c : Addr) (q : Int × Int), y = V.ref c ∧ PairAt (upd H0 p (.tup vs)) c q.1 q.2 ∧ q.1 ≤ q.2 := fun i y e => by
    obtain ⟨c, q, e1, _, e3, e4⟩ := hG.2 i y e
    exact ⟨c, q, e1, s0 _ _ e3, e4⟩
  generalize upd H0 p (.tup vs) = G0 at s0 ep hx hR hx1 hD ⊢
  have hx0 := hx0
  refine ⟨true, (by show V.bl (decide ((1 : Int) ≤ per)) = V.bl true; rw [decide_eq_true (by omega)]), iteF ?_⟩
  refine ⟨_, rfl, p, rfl, ⟨_, SqT.of ep⟩, for_tup (K := K) (a := p) (xs := vs) (fun i σ H' => H' = G0 ∧ ∃ x3, σ = [some (.ref x), some (.int per), some (.ref p), x3, Option.none, Option.none]) ⟨rfl, _, rfl⟩ (fun _ _ _ _ h => by rw [h.1]; exact SqT.of ep) (fun i y σ H' e hv => ?_) ?_⟩
  · obtain ⟨rfl, x3, rfl⟩ := hv
    obtain ⟨c, q, rfl, e3, e4⟩ := hD i y e
    refine ⟨_, rfl, c, q.1, q.2, rfl, e3, true, (by rw [decide_eq_true e4]), iteF ⟨rfl, _, rfl⟩⟩
  · rintro σ H' ⟨rfl, x3, rfl⟩
    refine ⟨_, rfl, _, rfl, p, per, rs, rfl, hR, hl, h0, fun b H1 s1 hR1 => ?_⟩
    have hl1 := norm1_len per (rs.map (inRound per))
    obtain ⟨ws, hw1, hw2⟩ := id hR1
    refine ⟨_, rfl, b, ws, rfl, .inr hw1, _, _, rfl, rfl, _, rfl, ?_⟩
    refine if_false_of (decide_eq_false (by have := hw2.1; omega)) ?_
    refine ⟨_, rfl, _, rfl, (by show 2 ≤ sizeLine; decide), fun t ht => ?_⟩
    have s2 := same_new (o := .tup [V.int per, V.ref b]) ht
    refine ⟨t, b, per, _, rfl, SqT.of upd_same, hR1.same s2, hl1, fun t2 a2 H2 s3 hT2 hR2 => ?_⟩
    have S := (s1.trans s2).trans s3
    have hx2 := S _ _ hx
    refine ⟨_, rfl, t2, _, _, _, rfl, rfl, hT2, rfl, _, rfl, x, T.a_Lot, dx, [], rfl, hx2, T.cls, T.na _ (by simp), (by decide), ?_⟩
    generalize hL : lform per (norm1 per (rs.map (inRound per))) = L at k hT2 hR2 ⊢
    have lL : L.2.length ≤ 1 := by rw [← hL]; exact lform_len _ _
    have hT3 := SqT.ins (fs' := putF "period" (.int L.1) []) hT2 hx2
    have hR3 := RunsT.ins (fs' := putF "period" (.int L.1) []) hR2 hx2
    have hx3 : (upd H2 x (.ins T.a_Lot dx (putF "period" (.int L.1) []))) x = some (.ins T.a_Lot dx (putF "period" (.int L.1) [])) := upd_same
    have K3 : ∀ y o, y ≠ x → H2 y = some o → (upd H2 x (.ins T.a_Lot dx (putF "period" (.int L.1) []))) y = some o := fun y o n e => by rw [upd_ne n]; exact e
    generalize upd H2 x (.ins T.a_Lot dx (putF "period" (.int L.1) [])) = H3 at hT3 hR3 hx3 K3 ⊢
    refine ⟨_, rfl, t2, _, _, _, rfl, rfl, hT3, rfl, _, rfl, x, T.a_Lot, dx, _, rfl, hx3, T.cls, T.na _ (by simp), (by show 1 < 1000; decide), ?_⟩
    have hT4 := SqT.ins (fs' := putF "runs" (.ref a2) (putF "period" (.int L.1) [])) hT3 hx3
    have hR4 := RunsT.ins (fs' := putF "runs" (.ref a2) (putF "period" (.int L.1) [])) hR3 hx3
    have hx4 : (upd H3 x (.ins T.a_Lot dx (putF "runs" (.ref a2) (putF "period" (.int L.1) [])))) x = some (.ins T.a_Lot dx (putF "runs" (.ref a2) (putF "period" (.int L.1) []))) := upd_same
    have K4 : ∀ y o, y ≠ x → H3 y = some o → (upd H3 x (.ins T.a_Lot dx (putF "runs" (.ref a2) (putF "period" (.int L.1) [])))) y = some o := fun y o n e => by rw [upd_ne n]; exact e
    generalize upd H3 x (.ins T.a_Lot dx (putF "runs" (.ref a2) (putF "period" (.int L.1) []))) = H4 at hT4 hR4 hx4 K4 ⊢
    refine ⟨_, rfl, t2, _, _, _, rfl, rfl, hT4, rfl, a2, L.2, rfl, hR4, Nat.le_trans lL (by decide), fun H5 s5 => ?_⟩
    have hx5 := s5 _ _ hx4
    refine ⟨_, rfl, x, T.a_Lot, dx, _, rfl, hx5, T.cls, T.na _ (by simp), (by show 2 < 1000; decide), ?_⟩
    refine k _ (fun y o n e => ?_) ⟨dx, a2, upd_same, RunsT.ins (hR4.same s5) hx5⟩
    rw [upd_ne n]
    exact s5 _ _ (K4 y o n (K3 y o n (S _ _ (hx1 y o n e))))

theorem Given.same {H H' : Hp} {vs : List V} {rs : List (Int × Int)} (s : Same H H') (h : Given H vs rs) : Given H' vs rs := ⟨h.1, fun i y e => by
  obtain ⟨a, q, e1, e2, e3, e4⟩ := h.2 i y e
  exact ⟨a, q, e1, e2, s _ _ e3, e4⟩⟩
/-- the lot of a period and one run at most -/
def lot1 (per : Int) (rs : List (Int × Int)) : Int × List (Int × Int) := lform per (norm1 per (rs.map (inRound per)))
theorem lot_made {C : Addr} {H : Hp} {per : Int} {vs : List V} {rs : List (Int × Int)} {Q : VK} {E : XK} (hG : Given H vs rs) (hl : rs.length ≤ 1) (h0 : 0 < per) (k : ∀ x H', Same H H' → LotAt K C H' x (lot1 per rs).1 (lot1 per rs).2 → Q (.ref x) H') :
    ∀ x dx, H x = Option.none → H dx = Option.none → dx ≠ x → ∃ a b rest, (V.ref x :: V.int per :: vs) = a :: b :: rest ∧ rest.length ≤ sizeLine ∧ spInit K C a b rest (upd (upd H dx (.own x)) x (.ins C dx [])) (fun v H2 => v = .non ∧ Q (.ref x) H2) E := fun x dx hx hd hn => by
  have s1 := same_new (o := .own x) hd
  have hx1 : (upd H dx (.own x)) x = Option.none := by rw [upd_ne (Ne.symm hn)]; exact hx
  have s2 := s1.trans (same_new (o := .ins C dx []) hx1)
  have lv : vs.length ≤ sizeLine := by rw [hG.1]; exact Nat.le_trans hl (by decide)
  exact ⟨_, _, vs, rfl, lv, x, dx, per, rs, rfl, rfl, upd_same, hG.same s2, hl, h0, fun H' keep lot => ⟨rfl, k x H' (fun y o e => keep y o (ne_of_none e hx) (s2 _ _ e)) lot⟩⟩
theorem given_one {H : Hp} {a : Addr} {b e : Int} (h : H a = some (.tup [.int b, .int e])) (l : b ≤ e) : Given H [.ref a] [(b, e)] := ⟨rfl, fun i y q => by
  match i, q with
  | 0, q => cases q; exact ⟨a, (b, e), rfl, rfl, h, l⟩⟩
theorem given_nil {H : Hp} : Given H [] [] := ⟨rfl, fun i y q => by simp at q⟩
def spMade (K : PySem.W.Frag) (C : Addr) (H : Hp) (Q : VK) (per : Int) (rs : List (Int × Int)) : Prop := ∀ x H', Same H H' → LotAt K C H' x (lot1 per rs).1 (lot1 per rs).2 → Q (.ref x) H'
theorem ok_Lot_every (T : Txt K mg) : FnOk P w K mg base CX0 7 T.a_Lot_every T.fd_Lot_every [] (fun vs H Q _ => vs = [] ∧ spMade K T.a_Lot H Q 1 [(0, 0)]) := by
  refine T.F_Lot_every.ok sc_Lot_every (fun vs H Q E h => ?_) (fun cdv A outer s H vs Q E hr h => ?_)
  · obtain ⟨rfl, _⟩ := h; rfl
  · obtain ⟨rfl, k⟩ := h
    refine ⟨_, pss_one (ps_ret (pe_mkR T.mks (ok_Lot_init T) (hr.mono (by decide)) pass0 rfl T.m_Lot (pa_cons (pe_int) (pa_cons (pe_tup (pa_cons (pe_int) (pa_cons (pe_int) (pa_nil)))) (pa_nil))))), ?_⟩
    refine ⟨(by show 2 ≤ sizeLine; decide), fun c kc => ?_⟩
    exact lot_made (given_one upd_same (by decide)) (Nat.le_refl _) (by decide) fun x H' s l => k x H' ((same_new kc).trans s) l
theorem ok_Lot_none (T : Txt K mg) : FnOk P w K mg base CX0 7 T.a_Lot_none T.fd_Lot_none [] (fun vs H Q _ => vs = [] ∧ spMade K T.a_Lot H Q 1 []) := by
  refine T.F_Lot_none.ok sc_Lot_none (fun vs H Q E h => ?_) (fun cdv A outer s H vs Q E hr h => ?_)
  · obtain ⟨rfl, _⟩ := h; rfl
  · obtain ⟨rfl, k⟩ := h
    refine ⟨_, pss_one (ps_ret (pe_mkR T.mks (ok_Lot_init T) (hr.mono (by decide)) pass0 rfl T.m_Lot (pa_cons (pe_int) (pa_nil)))), ?_⟩
    exact lot_made given_nil (Nat.zero_le _) (by decide) k
theorem ok_Lot_multiples (T : Txt K mg) : FnOk P w K mg base CX0 7 T.a_Lot_multiples T.fd_Lot_multiples ["n"] (fun vs H Q _ => ∃ n : Int, vs = [.int n] ∧ 0 < n ∧ spMade K T.a_Lot H Q n [(0, 0)]) := by
  refine T.F_Lot_multiples.ok sc_Lot_multiples (fun vs H Q E h => ?_) (fun cdv A outer s H vs Q E hr h => ?_)
  · obtain ⟨n, rfl, _⟩ := h; rfl
  · obtain ⟨n, rfl, h0, k⟩ := h
    refine ⟨_, pss_one (ps_ret (pe_mkR T.mks (ok_Lot_init T) (hr.mono (by decide)) pass0 rfl T.m_Lot (pa_cons (pv 0) (pa_cons (pe_tup (pa_cons (pe_int) (pa_cons (pe_int) (pa_nil)))) (pa_nil))))), ?_⟩
    refine ⟨_, rfl, (by show 2 ≤ sizeLine; decide), fun c kc => ?_⟩
    exact lot_made (given_one upd_same (by decide)) (Nat.le_refl _) h0 fun x H' s l => k x H' ((same_new kc).trans s) l
theorem ok_Lot_around (T : Txt K mg) : FnOk P w K mg base CX0 7 T.a_Lot_around T.fd_Lot_around ["period", "play"] (fun vs H Q _ => ∃ per play : Int, vs = [.int per, .int play] ∧ 0 < per ∧ 0 ≤ play ∧ spMade K T.a_Lot H Q per [(-play, play)]) := by
  refine T.F_Lot_around.ok sc_Lot_around (fun vs H Q E h => ?_) (fun cdv A outer s H vs Q E hr h => ?_)
  · obtain ⟨per, play, rfl, _⟩ := h; rfl
  · obtain ⟨per, play, rfl, h0, h1, k⟩ := h
    refine ⟨_, pss_cons (ps_if (pt_not (pt_val (pe_call (ok_is_from T) (hr.mono (by decide)) rfl T.m_is_from T.F_is_from.kp (b_is_from T) .nil pass0 (pa_cons (pv 0) (pa_cons (pe_int) (pa_nil)))))) (pss_one (ps_never)) (pss_nil))
      (pss_cons (ps_if (pt_not (pt_val (pe_call (ok_is_from T) (hr.mono (by decide)) rfl T.m_is_from T.F_is_from.kp (b_is_from T) .nil pass0 (pa_cons (pv 1) (pa_cons (pe_int) (pa_nil)))))) (pss_one (ps_never)) (pss_nil))
      (pss_one (ps_ret (pe_mkR T.mks (ok_Lot_init T) (hr.mono (by decide)) pass0 rfl T.m_Lot (pa_cons (pv 0) (pa_cons (pe_tup (pa_cons (pe_un un_neg (pv 1)) (pa_cons (pv 1) (pa_nil)))) (pa_nil))))))), ?_⟩
    refine ⟨_, rfl, .int per, "int", 1, rfl, .int per, true, (by show V.bl (decide ((1 : Int) ≤ per)) = V.bl true; rw [decide_eq_true (by omega)]), iteF ?_⟩
    refine ⟨_, rfl, .int play, "int", 0, rfl, .int play, true, (by show V.bl (decide ((0 : Int) ≤ play)) = V.bl true; rw [decide_eq_true (by omega)]), iteF ?_⟩
    refine ⟨_, rfl, _, rfl, play, rfl, _, rfl, (by show 2 ≤ sizeLine; decide), fun c kc => ?_⟩
    exact lot_made (given_one upd_same (by show -play ≤ play; omega)) (Nat.le_refl _) h0 fun x H' s l => k x H' ((same_new kc).trans s) l

def spForm (K : PySem.W.Frag) (C : Addr) : Sp := fun vs H Q _ => ∃ (x : Addr) (per : Int) (rs : List (Int × Int)), vs = [.ref x] ∧ LotAt K C H x per rs ∧ ∀ t a H', Same H H' → SqT K H' t [.int per, .ref a] → RunsT K H' a rs → Q (.ref t) H'
theorem ok_form_of (T : Txt K mg) : FnOk P w K mg base CX0 1 T.a_form_of T.fd_form_of ["lot"] (spForm K T.a_Lot) := by
  refine T.F_form_of.ok sc_form_of (fun vs H Q E h => ?_) (fun cdv A outer s H vs Q E hr h => ?_)
  · obtain ⟨x, per, rs, rfl, _⟩ := h; rfl
  · obtain ⟨x, per, rs, rfl, ⟨dx, a, hx, hR⟩, k⟩ := h
    refine ⟨_, pss_one (ps_ret (pe_tup (pa_cons (pe_fld (pv 0) rfl) (pa_cons (pe_fld (pv 0) rfl) (pa_nil))))), ?_⟩
    refine ⟨_, rfl, x, T.a_Lot, dx, _, _, rfl, hx, T.cls, T.na _ (by simp), rfl, _, rfl, x, T.a_Lot, dx, _, _, rfl, hx, T.cls, T.na _ (by simp), rfl, (by show 2 ≤ sizeLine; decide), fun t kt => ?_⟩
    exact k t a _ (same_new kt) (SqT.of upd_same) (hR.same (same_new kt))
def pairD (q : Int × Int) : PyData := .tuple [.int q.1, .int q.2]
theorem dp_runs {H : Hp} {a : Addr} {rs : List (Int × Int)} (h : RunsT K H a rs) (hl : rs.length ≤ 1) : Dp K H (.ref a) (.tuple (rs.map pairD)) := by
  obtain ⟨vs, h1, h2, h3⟩ := h
  refine .tup h1 ?_
  match vs, rs, h2, hl, h3 with
  | [], [], _, _, _ => exact .nil
  | [y], [q], _, _, h3 =>
    obtain ⟨b, q', rfl, e, hb⟩ := h3 0 y rfl
    cases e
    exact .cons (.tup hb (.cons (.int _) (.cons (.int _) .nil))) .nil
  | [], _ :: _, h, _, _ => simp at h
  | _ :: _, [], h, _, _ => simp at h
  | _ :: _ :: _, [_], h, _, _ => simp at h
  | _, _ :: _ :: _, _, h, _ => simp at h
theorem shaped_runs {rs : List (Int × Int)} (hl : rs.length ≤ 1) : SeqAt.shaped (.tuple (rs.map pairD)) = true := by
  match rs, hl with
  | [], _ => decide +kernel
  | [q], _ => simp [pairD, SeqAt.shaped, PyData.canLay0, PyData.canLayAll0, PyData.depth, PyData.depthAll]
  | _ :: _ :: _, h => simp at h
theorem eqv_runs {rs rs' : List (Int × Int)} (hl : rs.length ≤ 1) (hl' : rs'.length ≤ 1) : PyData.eqv (.tuple (rs.map pairD)) (.tuple (rs'.map pairD)) = decide (rs = rs') := by
  match rs, rs', hl, hl' with
  | [], [], _, _ => decide +kernel
  | [q], [], _, _ => simp [pairD, PyData.eqv, PyData.eqvAll]
  | [], [q], _, _ => simp [pairD, PyData.eqv, PyData.eqvAll]
  | [q], [q'], _, _ =>
    obtain ⟨b, e⟩ := q
    obtain ⟨b', e'⟩ := q'
    rw [Bool.eq_iff_iff]
    simp [pairD, PyData.eqv, PyData.eqvAll]
  | _ :: _ :: _, _, h, _ => simp at h
  | _, _ :: _ :: _, _, h => simp at h
def spLotEq (K : PySem.W.Frag) (C : Addr) : Sp := fun vs H Q _ => ∃ (x y : Addr) (per per' : Int) (rs rs' : List (Int × Int)), vs = [.ref x, .ref y] ∧ LotAt K C H x per rs ∧ LotAt K C H y per' rs' ∧ rs.length ≤ 1 ∧ rs'.length ≤ 1 ∧ Q (.bl (decide (per = per' ∧ rs = rs'))) H
theorem ok_Lot_eq (T : Txt K mg) : FnOk P w K mg base CX0 1 T.a_Lot_eq T.fd_Lot_eq ["self", "other"] (spLotEq K T.a_Lot) := by
  refine T.F_Lot_eq.ok sc_Lot_eq (fun vs H Q E h => ?_) (fun cdv A outer s H vs Q E hr h => ?_)
  · obtain ⟨x, y, per, per', rs, rs', rfl, _⟩ := h; rfl
  · obtain ⟨x, y, per, per', rs, rs', rfl, ⟨dx, a, hx, hR⟩, ⟨dy, b, hy, hS⟩, hl, hl', k⟩ := h
    refine ⟨_, pss_one (ps_ret (pe_and (pe_callB call_isi (by rfl) T.n_isinstance (by decide +kernel) (pa_cons (pv 1) (pa_cons (pe_glob (v := .ref T.a_Lot) rfl T.m_Lot rfl) (pa_nil)))) (pe_and (pe_cmpR op_eq (pe_fld (pv 0) rfl) (pe_fld (pv 1) rfl) (nomark _)) (pe_one (pe_cmpR (op_eqD hr.units) (pe_fld (pv 0) rfl) (pe_fld (pv 1) rfl) (nomark _)))))), ?_⟩
    refine ⟨_, rfl, .ref y, .ref T.a_Lot, .ref T.a_Lot, .ref T.a_Lot, true, rfl, (by constructor), T.ki H y dy _ hy, T.kk, true, rfl, iteT ?_⟩
    refine ⟨_, rfl, x, T.a_Lot, dx, _, _, rfl, hx, T.cls, T.na _ (by simp), rfl, _, rfl, y, T.a_Lot, dy, _, _, rfl, hy, T.cls, T.na _ (by simp), rfl, rfl, _, rfl, ?_⟩
    by_cases hp : per = per'
    · refine if_true_of (decide_eq_true (by rw [hp])) ?_
      refine ⟨_, rfl, x, T.a_Lot, dx, _, _, rfl, hx, T.cls, T.na _ (by simp), rfl, _, rfl, y, T.a_Lot, dy, _, _, rfl, hy, T.cls, T.na _ (by simp), rfl, ?_⟩
      refine ⟨_, _, dp_runs hR hl, dp_runs hS hl', shaped_runs hl, shaped_runs hl', ?_⟩
      rw [eqv_runs hl hl']
      have e : decide (per = per' ∧ rs = rs') = decide (rs = rs') := by
        rw [Bool.eq_iff_iff, decide_eq_true_iff, decide_eq_true_iff]
        exact ⟨fun z => z.2, fun z => ⟨hp, z⟩⟩
      rw [e] at k
      exact k
    · refine if_false_of (decide_eq_false fun z => hp (by injection z)) ?_
      rw [decide_eq_false fun z => hp z.1] at k
      exact k
def spLotLen (K : PySem.W.Frag) (C : Addr) : Sp := fun vs H Q _ => ∃ (x : Addr) (per : Int) (rs : List (Int × Int)), vs = [.ref x] ∧ LotAt K C H x per rs ∧ Q (.int (rs.length : Nat)) H
theorem ok_Lot_len (T : Txt K mg) : FnOk P w K mg base CX0 1 T.a_Lot_len T.fd_Lot_len ["self"] (spLotLen K T.a_Lot) := by
  refine T.F_Lot_len.ok sc_Lot_len (fun vs H Q E h => ?_) (fun cdv A outer s H vs Q E hr h => ?_)
  · obtain ⟨x, per, rs, rfl, _⟩ := h; rfl
  · obtain ⟨x, per, rs, rfl, ⟨dx, a, hx, vs, hA, hP⟩, k⟩ := h
    refine ⟨_, pss_one (ps_ret (pe_callB call_len_seq (by rfl) T.n_len (by decide +kernel) (pa_cons (pe_fld (pv 0) rfl) (pa_nil)))), ?_⟩
    refine ⟨_, rfl, x, T.a_Lot, dx, _, _, rfl, hx, T.cls, T.na _ (by simp), rfl, a, vs, rfl, .inr hA, ?_⟩
    rw [← hP.1] at k
    exact k

def spLotIn (K : PySem.W.Frag) (C : Addr) : Sp := fun vs H Q _ => ∃ (x : Addr) (per n : Int) (rs : List (Int × Int)), vs = [.ref x, .int n] ∧ LotAt K C H x per rs ∧ NM.Rnd per rs ∧ rs.length ≤ 1 ∧ ∀ (o : Option Int) H', Same H H' → NM.EndIs per rs n o → Q (.bl o.isSome) H'
theorem ok_Lot_contains (T : Txt K mg) : FnOk P w K mg base CX0 4 T.a_Lot_contains T.fd_Lot_contains ["self", "value"] (spLotIn K T.a_Lot) := by
  refine T.F_Lot_contains.ok sc_Lot_contains (fun vs H Q E h => ?_) (fun cdv A outer s H vs Q E hr h => ?_)
  · obtain ⟨x, per, n, rs, rfl, _⟩ := h; rfl
  · obtain ⟨x, per, n, rs, rfl, hL, hR, hl, k⟩ := h
    refine ⟨_, pss_one (ps_ret (pe_and (pe_call (ok_is_whole T) (hr.mono (by decide)) rfl T.m_is_whole T.F_is_whole.kp (b_is_whole T) .nil pass0 (pa_cons (pv 1) (pa_nil))) (pe_one (pe_cmpR op_notN (pe_call (ok_end_behind T) (hr.mono (by decide)) rfl T.m_end_behind T.F_end_behind.kp (b_end_behind T) .nil pass0 (pa_cons (pe_call (ok_form_of T) (hr.mono (by decide)) rfl T.m_form_of T.F_form_of.kp (b_form_of T) .nil pass0 (pa_cons (pv 0) (pa_nil))) (pa_cons (pv 1) (pa_nil)))) (pe_non) (nomark _))))), ?_⟩
    refine ⟨_, rfl, _, _, rfl, .int n, true, rfl, iteT ?_⟩
    refine ⟨_, rfl, x, per, rs, rfl, hL, fun t a H1 s1 hT hA => ?_⟩
    refine ⟨_, rfl, t, a, per, n, rs, rfl, hT, hA, hR, Nat.le_trans hl (by decide), fun o ho => ?_⟩
    have k := k o H1 s1 ho
    cases o with
    | none => exact ⟨rfl, k⟩
    | some e => exact ⟨rfl, k⟩
/-! ### what one run makes -/
theorem lot1_one {per b e : Int} : lot1 per [(b, e)] = if per ≤ e - b + 1 then (1, [(0, 0)]) else (per, [(b.fmod per, b.fmod per + e - b)]) := by
  have u : lot1 per [(b, e)] = lform per (norm1 per [(b.fmod per, b.fmod per + e - b)]) := rfl
  rw [u]
  by_cases h : per ≤ e - b + 1
  · rw [if_pos h]
    have e1 : norm1 per [(b.fmod per, b.fmod per + e - b)] = [(0, per - 1)] := if_pos (show b.fmod per + per ≤ b.fmod per + e - b + 1 by omega)
    rw [e1]
    exact if_pos (show per - 1 - 0 + 1 = per by omega)
  · rw [if_neg h]
    have e1 : norm1 per [(b.fmod per, b.fmod per + e - b)] = [(b.fmod per, b.fmod per + e - b)] := if_neg (show ¬ b.fmod per + per ≤ b.fmod per + e - b + 1 by omega)
    rw [e1]
    exact if_neg (show ¬ b.fmod per + e - b - b.fmod per + 1 = per by omega)
theorem lot1_nil {per : Int} : lot1 per [] = (1, []) := rfl
theorem lot1_rnd {per b e : Int} (h0 : 0 < per) (h : b ≤ e) : NM.Rnd (lot1 per [(b, e)]).1 (lot1 per [(b, e)]).2 := by
  rw [lot1_one]
  have f := fmod_pos (x := b) h0
  by_cases hc : per ≤ e - b + 1
  · rw [if_pos hc]
    refine ⟨by decide, fun q hq => ?_, fun i j p q hij h1 h2 => ?_, fun p hp q hq => .inr rfl⟩
    · rw [List.mem_singleton.mp hq]; decide
    · have := (List.getElem?_eq_some_iff.mp h2).1
      simp at this
      omega
  · rw [if_neg hc]
    refine ⟨h0, fun q hq => ?_, fun i j p q hij h1 h2 => ?_, fun p hp q hq => .inl ?_⟩
    · rw [List.mem_singleton.mp hq]
      exact ⟨f.1, f.2, by show b.fmod per ≤ b.fmod per + e - b; omega⟩
    · have := (List.getElem?_eq_some_iff.mp h2).1
      simp at this
      omega
    · rw [List.mem_singleton.mp hp, List.mem_singleton.mp hq]
      show b.fmod per + e - b + 1 < b.fmod per + per
      omega
theorem lot1_rnd0 {per : Int} : NM.Rnd (lot1 per []).1 (lot1 per []).2 :=
  ⟨by rw [lot1_nil]; decide, fun q hq => absurd hq List.not_mem_nil, fun i j p q _ h1 _ => by rw [lot1_nil] at h1; simp at h1, fun p hp => absurd hp List.not_mem_nil⟩
theorem end_some {per : Int} {rs : List (Int × Int)} {x : Int} {o : Option Int} (h : NM.EndIs per rs x o) : (o.isSome = true ↔ NM.Mem per rs x) := by
  cases o with
  | none => exact ⟨fun z => Bool.noConfusion z, fun z => absurd z h⟩
  | some e =>
    obtain ⟨h1, k, q, hq, h2, h3⟩ := h
    exact ⟨fun _ => ⟨k, q, hq, h2, by omega⟩, fun _ => rfl⟩
theorem lot1_mem {per b e x : Int} (h0 : 0 < per) (h : b ≤ e) : NM.Mem (lot1 per [(b, e)]).1 (lot1 per [(b, e)]).2 x ↔ NM.Mem per [(b, e)] x := by
  rw [lot1_one]
  have em : b.fmod per = b % per := Int.fmod_eq_emod_of_nonneg _ (by omega)
  have ed := Int.emod_add_mul_ediv b per
  by_cases hc : per ≤ e - b + 1
  · rw [if_pos hc]
    constructor
    · intro _
      have n0 := Int.emod_nonneg (x - b) (show per ≠ 0 by omega)
      have n1 := Int.emod_lt_of_pos (x - b) h0
      have n2 := Int.emod_add_mul_ediv (x - b) per
      exact ⟨(x - b) / per, (b, e), List.mem_cons_self, (by show b + per * ((x - b) / per) ≤ x; omega), (by show x ≤ e + per * ((x - b) / per); omega)⟩
    · intro _
      exact ⟨x, (0, 0), List.mem_cons_self, (by show 0 + 1 * x ≤ x; omega), (by show x ≤ 0 + 1 * x; omega)⟩
  · rw [if_neg hc]
    constructor
    · rintro ⟨k, q, hq, h1, h2⟩
      rw [List.mem_singleton.mp hq, em] at h1 h2
      have h1 : b % per + per * k ≤ x := h1
      have h2 : x ≤ b % per + e - b + per * k := h2
      have e3 : per * (k - b / per) = per * k - per * (b / per) := Int.mul_sub _ _ _
      exact ⟨k - b / per, (b, e), List.mem_cons_self, (by show b + per * (k - b / per) ≤ x; omega), (by show x ≤ e + per * (k - b / per); omega)⟩
    · rintro ⟨k, q, hq, h1, h2⟩
      rw [List.mem_singleton.mp hq] at h1 h2
      have h1 : b + per * k ≤ x := h1
      have h2 : x ≤ e + per * k := h2
      have e3 : per * (k + b / per) = per * k + per * (b / per) := Int.mul_add _ _ _
      rw [em]
      exact ⟨k + b / per, _, List.mem_cons_self, (by show b % per + per * (k + b / per) ≤ x; omega), (by show x ≤ b % per + e - b + per * (k + b / per); omega)⟩
/-- near a multiple of the period -/
theorem mem_around {per p x : Int} (h0 : 0 < per) : NM.Mem per [(-p, p)] x ↔ (x % per ≤ p ∨ per - x % per ≤ p) ∧ 0 ≤ p := by
  have n0 := Int.emod_nonneg x (show per ≠ 0 by omega)
  have n1 := Int.emod_lt_of_pos x h0
  have n2 := Int.emod_add_mul_ediv x per
  constructor
  · rintro ⟨k, q, hq, h1, h2⟩
    rw [List.mem_singleton.mp hq] at h1 h2
    have h1 : -p + per * k ≤ x := h1
    have h2 : x ≤ p + per * k := h2
    refine ⟨?_, by omega⟩
    rcases Int.lt_or_le (x / per) k with z | z
    · have m : per * (x / per + 1) ≤ per * k := Int.mul_le_mul_of_nonneg_left (by omega) (by omega)
      rw [Int.mul_add] at m
      exact .inr (by omega)
    · have m : per * k ≤ per * (x / per) := Int.mul_le_mul_of_nonneg_left z (by omega)
      exact .inl (by omega)
  · rintro ⟨h1 | h1, h2⟩
    · exact ⟨x / per, _, List.mem_cons_self, (by show -p + per * (x / per) ≤ x; omega), (by show x ≤ p + per * (x / per); omega)⟩
    · have e3 : per * (x / per + 1) = per * (x / per) + per * 1 := Int.mul_add _ _ _
      exact ⟨x / per + 1, _, List.mem_cons_self, (by show -p + per * (x / per + 1) ≤ x; omega), (by show x ≤ p + per * (x / per + 1); omega)⟩

def spLotIter (C : Addr) (n : Nat) : Sp := fun vs H Q _ => ∃ (x dx a : Addr) (p z : V) (ws : List V), vs = [.ref x] ∧ H x = some (.ins C dx [("period", p), ("runs", .ref a), ("size", z)]) ∧ SqT K H a ws ∧ ∀ it, H it = Option.none → n ≤ it → Q (.ref it) (upd H it (ItTO a it))
theorem ok_Lot_iter (T : Txt K mg) : FnN P w K mg base CX0 1 T.a_Lot_iter (spLotIter (K := K) T.a_Lot) := by
  refine FnN.mk0 T.F_Lot_iter sc_Lot_iter (b_Lot_iter T) (fun n vs H Q E h => ?_) (fun cdv A outer s H vs Q E hr h => ?_)
  · obtain ⟨x, dx, a, p, z, ws, rfl, _⟩ := h; rfl
  · obtain ⟨x, dx, a, p, z, ws, rfl, hx, hA, k⟩ := h
    refine ⟨_, pss_one (ps_ret (pe_callB call_iterT (by rfl) T.n_iter (by decide +kernel) (pa_cons (pe_fld (pv 0) rfl) (pa_nil)))), ?_⟩
    exact ⟨_, rfl, x, T.a_Lot, dx, _, _, rfl, hx, T.cls, T.na _ (by simp), rfl, a, ws, rfl, hA, k⟩

theorem dp_bools {H : Hp} : ∀ bs : List Bool, DpAll K H (bs.map V.bl) (bs.map PyData.bool)
  | [] => .nil
  | b :: r => .cons (.bl b) (dp_bools r)
theorem canLay_bools : ∀ bs : List Bool, PyData.canLayAll0 (bs.map PyData.bool) = true
  | [] => rfl
  | _ :: r => by simp [PyData.canLayAll0, PyData.canLay0, canLay_bools r]
theorem depth_bools : ∀ bs : List Bool, PyData.depthAll (bs.map PyData.bool) = 0
  | [] => rfl
  | _ :: r => by simp [PyData.depthAll, PyData.depth, depth_bools r]
theorem shaped_bools (bs : List Bool) : SeqAt.shaped (.list (bs.map PyData.bool)) = true := by
  simp [SeqAt.shaped, PyData.canLay0, PyData.depth, canLay_bools, depth_bools]
theorem eqvAll_bools : ∀ as bs : List Bool, PyData.eqvAll (as.map PyData.bool) (bs.map PyData.bool) = decide (as = bs)
  | [], [] => by simp [PyData.eqvAll]
  | [], _ :: _ => by simp [PyData.eqvAll]
  | _ :: _, [] => by simp [PyData.eqvAll]
  | a :: r, b :: t => by
    simp only [List.map_cons, PyData.eqvAll, PyData.eqv, eqvAll_bools r t]
    by_cases h : a = b <;> by_cases h' : r = t <;> simp [h, h']
theorem eqv_bools (as bs : List Bool) : PyData.eqv (.list (as.map PyData.bool)) (.list (bs.map PyData.bool)) = decide (as = bs) := by
  rw [PyData.eqv]; exact eqvAll_bools as bs
theorem in_nats (i : Nat) (ms : List Nat) : inV (V.int i) ((ms.map fun j : Nat => (j : Int)).map V.int) = decide (i ∈ ms) := by
  unfold inV
  rw [List.map_map, List.any_map, Bool.eq_iff_iff, List.any_eq_true, decide_eq_true_iff]
  constructor
  · rintro ⟨j, hj, e⟩
    have e' : ((j : Int) == (i : Int)) = true := e
    have e2 : j = i := by have := eq_of_beq e'; omega
    rw [← e2]; exact hj
  · intro h
    exact ⟨i, h, by show ((i : Int) == (i : Int)) = true; exact beq_self_eq_true _⟩
theorem flat_int (ms : List Int) : (ms.map V.int).all flatV = true := by
  rw [List.all_map, List.all_eq_true]
  intro x _
  rfl
theorem cut_from (xs : List V) {k : Nat} (h : k ≤ xs.length) : cutV xs (some (k : Int)) none = xs.drop k := by
  have a : HT.sIx xs.length 0 (some (k : Int)) = k := by rw [HT.sIx_nat, Nat.min_eq_left h]
  have b : HT.sIx xs.length xs.length none = xs.length := by simp only [HT.sIx]
  unfold cutV
  rw [a, b, List.take_of_length_le (by rw [List.length_drop]; exact Nat.le_refl _)]
theorem cut_to (xs : List V) {k : Nat} (h : k ≤ xs.length) : cutV xs none (some (k : Int)) = xs.take k := by
  have a : HT.sIx xs.length xs.length (some (k : Int)) = k := by rw [HT.sIx_nat, Nat.min_eq_left h]
  have b : HT.sIx xs.length 0 none = 0 := by simp only [HT.sIx]
  unfold cutV
  rw [a, b]
  rfl
theorem atI_ins {p q b : Nat} (hb : b < p) : atI ((NM.insides p q).map V.bl) ((b : Nat) : Int) = some (V.bl (NM.nearB p q b)) := atI_nat (j := b) (by rw [List.getElem?_map, NM.insides_at hb]; rfl)
theorem atI_bef {p q b : Nat} (hb : b < p) : atI ((NM.insides p q).map V.bl) ((b : Nat) - 1 : Int) = some (V.bl (NM.nearB p q (NM.before p b))) := by
  unfold NM.before
  split
  · rename_i e
    subst e
    refine atI_end (by rw [List.length_map, NM.insides_len]; exact hb) ?_
    rw [List.length_map, NM.insides_len, List.getElem?_map, NM.insides_at (by omega)]
    rfl
  · rw [show ((b : Nat) - 1 : Int) = ((b - 1 : Nat) : Int) by omega]
    exact atI_ins (by omega)
theorem fmod_nat (x p : Nat) : ((x : Nat) : Int).fmod (p : Int) = ((x % p : Nat) : Int) := by
  rw [Int.fmod_eq_emod_of_nonneg _ (by omega)]
  exact (Int.natCast_emod x p).symm
def spLeast (K : PySem.W.Frag) : Sp := fun vs H Q _ => ∃ (p q : Nat) (a : Addr), vs = [.int p, .ref a] ∧ 0 < p ∧ p ≤ 1000 ∧ H a = some (.lst ((NM.nears p q).map fun i : Nat => V.int i)) ∧ ∀ t r H', Same H H' → H' t = some (.tup [.int (NM.dueNear p q).1, .ref r]) → RunsT K H' r (NM.dueNear p q).2 → Q (.ref t) H'
theorem ok_least (T : Txt K mg) : FnOk P w K mg base CX0 2 T.a_least T.fd_least ["_law_period", "_law_members"] (spLeast K) := by
  refine T.F_least.ok sc_least (fun vs H Q E h => ?_) (fun cdv A outer s H vs Q E hr h => ?_)
  · obtain ⟨p, q, a, rfl, _⟩ := h; rfl
  · obtain ⟨p, q, a, rfl, h0, hp, hS, k⟩ := h
    refine ⟨_, pss_cons (ps_if (PW.pt (pw_or (pt_cmpR (op_eqD hr.units) (pv 1) (pe_lst (pa_nil)) (nomark _)) (pw_or1 (pt_cmpR op_eq (pe_callB call_len_seq (by rfl) T.n_len (by decide +kernel) (pa_cons (pv 1) (pa_nil))) (pv 0) (nomark _))))) (pss_one (ps_ret (pe_tup (pa_cons (pe_int) (pa_cons (pe_ifExp (pt_cmpR (op_neD hr.units) (pv 1) (pe_lst (pa_nil)) (nomark _)) (pe_tup (pa_cons (pe_tup (pa_cons (pe_int) (pa_cons (pe_int) (pa_nil)))) (pa_nil))) (pe_tup (pa_nil))) (pa_nil)))))) (pss_nil))
      (pss_cons (ps_set (i := 2) sc_least.nd rfl (Or.inr rfl) (pe_lc (own := [("_law_at", 3)]) (g := gName 3) (tt := tYes) rfl sc_least.nd (pi_range1 (by rfl) T.n_range (pa_cons (pv 0) (pa_nil))) (blkOk_by (own := [("_law_at", 3)]) (N := ["_law_period", "_law_members", "_law_inside", "_law_at", "_law_turn", "_law_k", "_law_found", "_law_begin", "_law_end"]) (sc := defScope s_least) (by decide +kernel)) (fun _ _ _ _ _ => pg_name (i := 3) sc_least.nd rfl (Or.inl rfl)) (fun _ _ _ _ _ => pts_nil) (fun _ _ _ _ _ => pe_cmpR (op_in_seq2 K (by rfl)) (pv 3) (pv 1) rfl)))
      (pss_cons (ps_set (i := 4) sc_least.nd rfl (Or.inl rfl) (pe_ix ix_list (pe_lc (own := [("_law_k", 5)]) (g := gName 5) rfl sc_least.nd (pi_range2 (by rfl) T.n_range (pa_cons (pe_int) (pa_cons (pe_op op_add (pv 0) (pe_int)) (pa_nil)))) (blkOk_by (own := [("_law_k", 5)]) (N := ["_law_period", "_law_members", "_law_inside", "_law_at", "_law_turn", "_law_k", "_law_found", "_law_begin", "_law_end"]) (sc := defScope s_least) (by decide +kernel)) (fun _ _ _ _ _ => pg_name (i := 5) sc_least.nd rfl (Or.inl rfl)) (fun _ _ _ _ _ => pts_one (PW.pt (pw_and (pt_cmpR op_eq (pe_op op_modN (pe_callTy call_int1 (by rfl) T.n_int (by decide +kernel) (pa_cons (pv 0) (pa_nil))) (pv 5)) (pe_int) (nomark _)) (pw_and1 (pt_cmpR (op_eqD2 K (by rfl) hr.units) (pe_op op_cat (pe_slice (sl_list2 K (by rfl)) (pv 2) (po_some (pv 5)) (po_none)) (pe_slice (sl_list2 K (by rfl)) (pv 2) (po_none) (po_some (pv 5)))) (pv 2) (nomark _)))))) (fun _ _ _ _ _ => pv 5)) (pe_int) (fun _ _ => rfl)))
      (pss_cons (ps_set (i := 6) sc_least.nd rfl (Or.inl rfl) (pe_lst (pa_nil)))
      (pss_cons (ps_for PassesOwn.never rfl (pi_range1 (by rfl) T.n_range (pa_cons (pv 4) (pa_nil))) (pg_name (i := 7) sc_least.nd rfl (Or.inl rfl)) (pss_cons (ps_set (i := 8) sc_least.nd rfl (Or.inl rfl) (pv 7))
      (pss_one (ps_if (PW.pt (pw_and (pt_val (pe_ix ix_list (pv 2) (pv 7) (fun _ _ => rfl))) (pw_and1 (pt_not (pt_val (pe_ix ix_list (pv 2) (pe_op op_sub (pv 7) (pe_int)) (fun _ _ => rfl))))))) (pss_cons (ps_while PassesOwn.never (pt_val (pe_ix ix_list (pv 2) (pe_op op_modN (pe_callTy call_int1 (by rfl) T.n_int (by decide +kernel) (pa_cons (pe_op op_add (pv 8) (pe_int)) (pa_nil))) (pv 0)) (fun _ _ => rfl))) (pss_one (ps_set (i := 8) sc_least.nd rfl (Or.inl rfl) (pe_op op_add (pv 8) (pe_int)))))
      (pss_one (ps_expr (pe_bm PySem.F.plainAttrs_list PySem.F.slot_list_append PySem.F.type_list_append mt_append (pv 6) (pa_cons (pe_tup (pa_cons (pv 7) (pa_cons (pv 8) (pa_nil)))) (pa_nil)))))) (pss_nil)))))
      (pss_one (ps_ret (pe_tup (pa_cons (pv 4) (pa_cons (pe_callTy call_tuple_of (by rfl) T.n_tuple (by decide +kernel) (pa_cons (pv 6) (pa_nil))) (pa_nil)))))))))), ?_⟩
    have hm : (NM.nears p q).map (fun i : Nat => V.int i) = ((NM.nears p q).map fun i : Nat => (i : Int)).map V.int := by rw [List.map_map]; rfl
    have hne : (NM.nears p q) ≠ [] := fun e => by have z := NM.nears_zero (q := q) h0; rw [e] at z; cases z
    have nil_ne : PyData.eqv (.list (((NM.nears p q).map fun i : Nat => (i : Int)).map PyData.int)) (.list []) = false := by
      cases e : NM.nears p q with
      | nil => exact absurd e hne
      | cons x r => simp [PyData.eqv, PyData.eqvAll]
    rw [hm] at hS
    refine ⟨_, rfl, Nat.zero_le _, fun l hl0 => ?_⟩
    have s1 := same_new (o := .lst []) hl0
    refine ⟨_, .list [], .lst (SqL.of (s1 _ _ hS)) (dp_ints _), .lst (SqL.of upd_same) .nil, PySem.W.ke_shaped_ints _, by decide +kernel, false, by rw [nil_ne], iteF ?_⟩
    refine ⟨_, rfl, a, _, rfl, .inl (SqL.of (s1 _ _ hS)), ?_⟩
    by_cases hall : p ≤ 2 * q + 1
    · refine ⟨_, rfl, rfl, true, ?_, iteT ?_⟩
      · have e : (((((NM.nears p q).map fun i : Nat => (i : Int)).map V.int).length : Nat) : Int) = (p : Int) := by
          rw [List.length_map, List.length_map, NM.nears_all hall, List.length_range]
        exact congrArg V.bl (decide_eq_true (congrArg V.int e))
      refine ⟨_, rfl, Nat.zero_le _, fun l2 hl2 => ?_⟩
      have s2 := s1.trans (same_new (o := .lst []) hl2)
      refine ⟨_, .list [], .lst (SqL.of (s2 _ _ hS)) (dp_ints _), .lst (SqL.of upd_same) .nil, PySem.W.ke_shaped_ints _, by decide +kernel, true, by rw [nil_ne]; rfl, iteT ?_⟩
      refine ⟨(by show 2 ≤ sizeLine; decide), fun c kc => ⟨(by show 1 ≤ sizeLine; decide), fun r kr => ⟨(by show 2 ≤ sizeLine; decide), fun t kt => ?_⟩⟩⟩
      have s3 := s2.trans (same_new (o := .tup [.int 0, .int 0]) kc)
      have s4 := s3.trans (same_new (o := .tup [.ref c]) kr)
      have s5 := s4.trans (same_new (o := .tup [.int 1, .ref r]) kt)
      have hc1 := same_new (o := .tup [.int 1, .ref r]) kt _ _ (same_new (o := .tup [.ref c]) kr _ _ (show (upd (upd (upd H l (.lst [])) l2 (.lst [])) c (.tup [.int 0, .int 0])) c = some (.tup [.int 0, .int 0]) from upd_same))
      have hr1 := same_new (o := .tup [.int 1, .ref r]) kt _ _ (show (upd (upd (upd (upd H l (.lst [])) l2 (.lst [])) c (.tup [.int 0, .int 0])) r (.tup [.ref c])) r = some (.tup [.ref c]) from upd_same)
      have ed : NM.dueNear p q = (1, [(0, 0)]) := by unfold NM.dueNear; rw [if_pos hall]
      refine k t r _ s5 ?_ ?_
      · rw [ed]; exact upd_same
      · rw [ed]
        exact ⟨_, SqT.of hr1, rfl, fun i y e => by
          match i, e with
          | 0, e => cases e; exact ⟨c, _, rfl, rfl, SqT.of hc1⟩⟩
    · refine ⟨_, rfl, rfl, false, ?_, iteF ?_⟩
      · have e : (((((NM.nears p q).map fun i : Nat => (i : Int)).map V.int).length : Nat) : Int) ≠ (p : Int) := by
          rw [List.length_map, List.length_map]
          have := NM.nears_less (p := p) (q := q) (by omega)
          omega
        exact congrArg V.bl (decide_eq_false fun z => e (by injection z))
      have hq : 2 * q + 1 < p := by omega
      refine ⟨_, rfl, (p : Int), rfl, by omega, by omega, fun L hL => lc_range (lo := 0) (n := (p : Int).toNat) (fun t H3 => H3 = upd (upd H l (.lst [])) L (.lst ((List.range t).map fun i => V.bl (NM.nearB p q i)))) rfl ?_ ?_⟩
      · rintro t H3 ht rfl
        rw [Int.toNat_natCast] at ht
        have s2 := s1.trans (same_new (o := .lst ((List.range t).map fun i => V.bl (NM.nearB p q i))) hL)
        refine ⟨rfl, ?_⟩
        conv => whnf
        refine ⟨_, rfl, _, rfl, a, _, rfl, .inl (SqL.of (s2 _ _ hS)), rfl, flat_int _, _, upd_same, ?_, ?_⟩
        · rw [List.length_map, List.length_range]
          exact Nat.lt_of_lt_of_le (show t < 1001 by omega) (by decide)
        · rw [upd_upd, List.range_succ, List.map_append]
          have e : inV (V.int (0 + (t : Int))) (((NM.nears p q).map fun j : Nat => (j : Int)).map V.int) = NM.nearB p q t := by
            rw [Int.zero_add, in_nats, Bool.eq_iff_iff, decide_eq_true_iff]
            exact NM.mem_nears ht
          show upd _ L (.lst (_ ++ [V.bl (inV (V.int (0 + (t : Int))) _)])) = _
          rw [e]
          rfl
      · rintro H3 rfl
        rw [Int.toNat_natCast]
        have eI : (List.range p).map (fun i => V.bl (NM.nearB p q i)) = (NM.insides p q).map V.bl := by unfold NM.insides; rw [List.map_map]; rfl
        rw [eI]
        have s2 := s1.trans (same_new (o := .lst ((NM.insides p q).map V.bl)) hL)
        have hI : (upd (upd H l (.lst [])) L (.lst ((NM.insides p q).map V.bl))) L = some (.lst ((NM.insides p q).map V.bl)) := upd_same
        generalize upd (upd H l (.lst [])) L (.lst ((NM.insides p q).map V.bl)) = H2 at s2 hI ⊢
        refine ⟨_, rfl, _, _, rfl, rfl, 1, _, rfl, ⟨by omega, by omega, by omega, by omega⟩, fun M hM => lc_range (lo := 1) (n := ((p : Int) + 1 - 1).toNat) (fun t H3 => Same H2 H3 ∧ H3 M = some (.lst (if t = p then [V.int p] else []))) ⟨same_new hM, by rw [upd_same, if_neg (by omega)]⟩ ?_ ?_⟩
        · rintro t H3 ht ⟨sm, hM3⟩
          have ht : t < p := by omega
          refine ⟨rfl, ?_⟩
          refine ⟨_, rfl, .inl ⟨_, rfl, ?_⟩⟩
          refine ⟨_, rfl, _, _, rfl, rfl, (by show (1 : Int) + t ≠ 0; omega), rfl, _, rfl, ?_⟩
          refine ite2 (fun hd => ?_) (fun hd => ?_)
          · refine ⟨_, rfl, _, rfl, _, rfl, L, _, rfl, SqL.of (sm _ _ hI), fun S1 h1 => ?_⟩
            have t1 := sm.trans (same_new (o := .lst (cutV ((NM.insides p q).map V.bl) (some (1 + (t : Int))) none)) h1)
            refine ⟨_, rfl, _, rfl, _, rfl, L, _, rfl, SqL.of (t1 _ _ hI), fun S2 h2 => ?_⟩
            have t2 := t1.trans (same_new (o := .lst (cutV ((NM.insides p q).map V.bl) none (some (1 + (t : Int))))) h2)
            have ek : (1 : Int) + (t : Int) = ((t + 1 : Nat) : Int) := by omega
            have ln : t + 1 ≤ ((NM.insides p q).map V.bl).length := by rw [List.length_map, NM.insides_len]; omega
            have e1 : cutV ((NM.insides p q).map V.bl) (some (1 + (t : Int))) none = ((NM.insides p q).drop (t + 1)).map V.bl := by rw [ek, cut_from _ ln, List.map_drop]
            have e2 : cutV ((NM.insides p q).map V.bl) none (some (1 + (t : Int))) = ((NM.insides p q).take (t + 1)).map V.bl := by rw [ek, cut_to _ ln, List.map_take]
            have hS1 : ∀ o, (upd (upd H3 S1 (.lst (cutV ((NM.insides p q).map V.bl) (some (1 + (t : Int))) none))) S2 o) S1 = some (.lst (cutV ((NM.insides p q).map V.bl) (some (1 + (t : Int))) none)) := fun o => by rw [upd_ne (ne_of_none upd_same h2), upd_same]
            refine ⟨S1, S2, _, _, rfl, rfl, hS1 _, upd_same, ?_, fun S3 h3 => ?_⟩
            · rw [e1, e2, List.length_map, List.length_map, List.length_drop, List.length_take, NM.insides_len]
              exact Nat.le_trans (show _ ≤ 2000 by omega) (by decide)
            have t3 := t2.trans (same_new (o := .lst (cutV ((NM.insides p q).map V.bl) (some (1 + (t : Int))) none ++ cutV ((NM.insides p q).map V.bl) none (some (1 + (t : Int))))) h3)
            have hM5 : (upd (upd (upd H3 S1 (.lst (cutV ((NM.insides p q).map V.bl) (some (1 + (t : Int))) none))) S2 (.lst (cutV ((NM.insides p q).map V.bl) none (some (1 + (t : Int)))))) S3 (.lst (cutV ((NM.insides p q).map V.bl) (some (1 + (t : Int))) none ++ cutV ((NM.insides p q).map V.bl) none (some (1 + (t : Int)))))) M = some (.lst []) := by
              have n1 := ne_of_none hM3 h1
              have z1 : (upd H3 S1 (.lst (cutV ((NM.insides p q).map V.bl) (some (1 + (t : Int))) none))) M = some (.lst (if t = p then [V.int p] else [])) := by rw [upd_ne n1]; exact hM3
              have n2 := ne_of_none z1 h2
              have z2 : (upd (upd H3 S1 (.lst (cutV ((NM.insides p q).map V.bl) (some (1 + (t : Int))) none))) S2 (.lst (cutV ((NM.insides p q).map V.bl) none (some (1 + (t : Int)))))) M = some (.lst (if t = p then [V.int p] else [])) := by rw [upd_ne n2]; exact z1
              rw [upd_ne (ne_of_none z2 h3), z2, if_neg (by omega)]
            have hC : ∀ H5 : Hp, H5 = upd (upd (upd H3 S1 (.lst (cutV ((NM.insides p q).map V.bl) (some (1 + (t : Int))) none))) S2 (.lst (cutV ((NM.insides p q).map V.bl) none (some (1 + (t : Int)))))) S3 (.lst (cutV ((NM.insides p q).map V.bl) (some (1 + (t : Int))) none ++ cutV ((NM.insides p q).map V.bl) none (some (1 + (t : Int))))) → H5 S3 = some (.lst (((NM.insides p q).drop (t + 1) ++ (NM.insides p q).take (t + 1)).map V.bl)) := by
              rintro _ rfl
              rw [upd_same, e1, e2, List.map_append]
            have hC := hC _ rfl
            generalize upd (upd (upd H3 S1 (.lst (cutV ((NM.insides p q).map V.bl) (some (1 + (t : Int))) none))) S2 (.lst (cutV ((NM.insides p q).map V.bl) none (some (1 + (t : Int)))))) S3 (.lst (cutV ((NM.insides p q).map V.bl) (some (1 + (t : Int))) none ++ cutV ((NM.insides p q).map V.bl) none (some (1 + (t : Int))))) = H5 at t3 hM5 hC ⊢
            refine ⟨_, rfl, _, _, .lst (SqL.of hC) (dp_bools _), .lst (SqL.of (t3 _ _ hI)) (dp_bools _), shaped_bools _, shaped_bools _, _, rfl, ?_⟩
            rw [eqv_bools]
            have sM : ∀ o, Same H2 (upd H5 M o) := fun o b u e => by rw [upd_ne (ne_of_none e hM)]; exact t3 b u e
            by_cases hl : t + 1 = p
            · rw [decide_eq_true (by rw [hl]; exact NM.rot_all)]
              refine iteT ⟨_, rfl, [], hM5, by decide, sM _, ?_⟩
              rw [upd_same, if_pos hl, ek, hl]
              rfl
            · rw [decide_eq_false (NM.rot_ne hq (by omega) (by omega))]
              refine iteF ⟨t3, ?_⟩
              rw [hM5, if_neg hl]
          · refine iteF ⟨sm, ?_⟩
            rw [hM3, if_neg (by omega), if_neg ?_]
            intro e
            apply hd
            refine decide_eq_true ?_
            show V.int ((p : Int).fmod (1 + (t : Int))) = V.int 0
            rw [show (1 : Int) + (t : Int) = p by omega, Int.fmod_self]
        · rintro H3 ⟨sm, hM3⟩
          have hM3 : H3 M = some (.lst [V.int p]) := by rw [hM3, if_pos (by omega)]
          have s3 := s2.trans sm
          have hI3 := sm _ _ hI
          refine ⟨M, _, _, _, rfl, rfl, SqL.of hM3, rfl, ?_⟩
          refine ⟨Nat.zero_le _, fun F hF => ?_⟩
          have sF : ∀ o, Same H3 (upd H3 F o) := fun o => same_new hF
          refine ⟨_, rfl, (p : Int), rfl, by omega, by omega, for_range (lo := 0) (n := (p : Int).toNat) (fun t σ H' => ∃ v7 v8 : Option V, σ = [some (.int p), some (.ref a), some (.ref L), Option.none, some (.int p), Option.none, some (.ref F), v7, v8] ∧ Same H3 H' ∧
            ((t ≤ NM.stNear p q ∧ H' F = some (.lst [])) ∨ (NM.stNear p q < t ∧ ∃ c, H' F = some (.lst [.ref c]) ∧ H' c = some (.tup [.int (NM.stNear p q), .int ((NM.stNear p q : Nat) + (2 * q : Nat) : Int)])))) ⟨_, _, rfl, sF _, .inl ⟨Nat.zero_le _, upd_same⟩⟩ ?_ ?_⟩
          · rintro i σ H' hi ⟨v7, v8, rfl, sm4, hd⟩
            have hi : i < p := by omega
            have e0 : (0 : Int) + (i : Int) = (i : Int) := Int.zero_add _
            rw [e0]
            have hIL := sm4 _ _ hI3
            refine ⟨_, rfl, _, rfl, _, rfl, L, _, _, _, rfl, rfl, SqL.of hIL, atI_ins hi, _, rfl, ?_⟩
            by_cases hs : i = NM.stNear p q
            · obtain ⟨n1, n2⟩ := (NM.start_iff hq hi).mpr hs
              have hF0 : H' F = some (.lst []) := by
                rcases hd with ⟨_, z⟩ | ⟨z, _⟩
                · exact z
                · omega
              rw [n1]
              refine iteT ⟨_, rfl, _, rfl, _, _, rfl, rfl, L, _, _, _, rfl, rfl, SqL.of hIL, atI_bef hi, _, rfl, ?_⟩
              rw [n2]
              refine iteT ?_
              refine ⟨fun m σ' G => ∃ (j : Nat) (v7 : Option V), m = 2 * q - j ∧ j ≤ 2 * q ∧ σ' = [some (.int p), some (.ref a), some (.ref L), Option.none, some (.int p), Option.none, some (.ref F), some (.int i), some (.int ((i : Int) + (j : Nat)))] ∧ G = H', ⟨2 * q, 0, Option.none, rfl, Nat.zero_le _, by rw [show ((i : Int) + ((0 : Nat) : Int)) = (i : Int) by omega]; rfl, rfl⟩, ?_⟩
              rintro m σ' G ⟨j, v7', rfl, hj, rfl, rfl⟩
              have hz : (p : Int) ≠ 0 := by omega
              have hmod : (i + j + 1) % p < p := Nat.mod_lt _ h0
              have hat : atI ((NM.insides p q).map V.bl) (((i : Int) + (j : Nat) + 1).fmod (p : Int)) = some (V.bl (NM.nearB p q ((i + j + 1) % p))) := by
                rw [show (i : Int) + (j : Nat) + 1 = ((i + j + 1 : Nat) : Int) by omega, fmod_nat]
                exact atI_ins hmod
              refine ⟨_, rfl, _, rfl, _, _, rfl, rfl, .inl ⟨_, rfl, _, rfl, _, _, rfl, rfl, hz, L, _, _, _, rfl, rfl, SqL.of hIL, hat, _, rfl, ?_⟩⟩
              by_cases hl : j < 2 * q
              · rw [hs, NM.run_in hq hl, ← hs]
                refine iteT ⟨fun σ'' G' => σ'' = [some (.int p), some (.ref a), some (.ref L), Option.none, some (.int p), Option.none, some (.ref F), some (.int i), some (.int ((i : Int) + (j : Nat) + 1))] ∧ G' = G, fun σ'' G' z => ⟨2 * q - (j + 1), by omega, j + 1, Option.none, rfl, by omega, by rw [z.1, show ((i : Int) + ((j + 1 : Nat) : Int)) = (i : Int) + (j : Nat) + 1 by omega], z.2⟩, ?_⟩
                exact ⟨_, rfl, _, _, rfl, rfl, rfl, rfl⟩
              · have ej : j = 2 * q := by omega
                subst ej
                rw [hs, NM.run_out hq, ← hs]
                refine iteF ?_
                refine ⟨_, rfl, .inl ⟨rfl, _, SqL.of hF0⟩, _, rfl, _, rfl, (by show 2 ≤ sizeLine; decide), fun c kc => ?_⟩
                have hF1 : (upd G c (.tup [.int i, .int ((i : Int) + (2 * q : Nat))])) F = some (.lst []) := by rw [upd_ne (ne_of_none hF0 kc)]; exact hF0
                refine ⟨F, _, _, rfl, rfl, hF1, by decide, ?_⟩
                refine ⟨_, _, rfl, fun b u e => ?_, .inr ⟨by omega, c, upd_same, ?_⟩⟩
                · rw [upd_ne (ne_of_none e hF)]
                  exact same_new kc _ _ (sm4 b u e)
                · rw [upd_ne (ne_of_none hF0 kc).symm]
                  exact upd_same
            · have fin : ∃ v7 v8 : Option V, [some (.int p), some (.ref a), some (.ref L), Option.none, some (.int p), Option.none, some (.ref F), some (.int i), some (.int i)] = [some (.int p), some (.ref a), some (.ref L), Option.none, some (.int p), Option.none, some (.ref F), v7, v8] ∧ Same H3 H' ∧
                  ((i + 1 ≤ NM.stNear p q ∧ H' F = some (.lst [])) ∨ (NM.stNear p q < i + 1 ∧ ∃ c, H' F = some (.lst [.ref c]) ∧ H' c = some (.tup [.int (NM.stNear p q), .int ((NM.stNear p q : Nat) + (2 * q : Nat) : Int)]))) := by
                refine ⟨_, _, rfl, sm4, ?_⟩
                rcases hd with ⟨z, e⟩ | ⟨z, e⟩
                · exact .inl ⟨by omega, e⟩
                · exact .inr ⟨by omega, e⟩
              cases n1 : NM.nearB p q i with
              | false => exact iteF (iteF fin)
              | true =>
                refine iteT ⟨_, rfl, _, rfl, _, _, rfl, rfl, L, _, _, _, rfl, rfl, SqL.of hIL, atI_bef hi, _, rfl, ?_⟩
                have n2 : NM.nearB p q (NM.before p i) = true := by
                  cases n2 : NM.nearB p q (NM.before p i) with
                  | true => rfl
                  | false => exact absurd ((NM.start_iff hq hi).mp ⟨n1, n2⟩) hs
                rw [n2]
                exact iteF fin
          · rintro σ H' ⟨v7, v8, rfl, sm4, hd⟩
            obtain ⟨_, c, hFc, hc⟩ : _ ∧ ∃ c, H' F = some (.lst [.ref c]) ∧ H' c = some (.tup [.int (NM.stNear p q), .int ((NM.stNear p q : Nat) + (2 * q : Nat) : Int)]) := by
              rcases hd with ⟨z, _⟩ | z
              · have : NM.stNear p q < p := by unfold NM.stNear; split <;> omega
                omega
              · exact z
            refine ⟨_, rfl, _, rfl, F, _, rfl, .inl ⟨SqL.of hFc, fun r hr0 => ?_⟩⟩
            refine ⟨(by show 2 ≤ sizeLine; decide), fun t ht => ?_⟩
            have s5 := (s3.trans sm4).trans (same_new (o := .tup [.ref c]) hr0)
            have s6 := s5.trans (same_new (o := .tup [.int p, .ref r]) ht)
            have hr1 := same_new (o := .tup [.int p, .ref r]) ht _ _ (show (upd H' r (.tup [.ref c])) r = some (.tup [.ref c]) from upd_same)
            have hc1 := same_new (o := .tup [.int p, .ref r]) ht _ _ (same_new (o := .tup [.ref c]) hr0 _ _ hc)
            have ed : NM.dueNear p q = ((p : Int), [(((NM.stNear p q : Nat) : Int), ((NM.stNear p q : Nat) : Int) + ((2 * q : Nat) : Int))]) := by
              unfold NM.dueNear
              rw [if_neg hall]
              unfold NM.stNear
              split
              · rename_i e
                subst e
                rfl
              · refine congrArg (fun z => ((p : Int), [z])) (Prod.ext ?_ ?_)
                · show (p : Int) - q = ((p - q : Nat) : Int); omega
                · show (p : Int) + q = ((p - q : Nat) : Int) + ((2 * q : Nat) : Int); omega
            refine k t r _ s6 ?_ ?_
            · rw [ed]; exact upd_same
            · rw [ed]
              exact ⟨_, SqT.of hr1, rfl, fun i y e => by
                match i, e with
                | 0, e => cases e; exact ⟨c, _, rfl, rfl, SqT.of hc1⟩⟩

/-! ### defs told for callers around whom nothing is being shown by repr -/
def FnG (P : Program) (w : World) (K : PySem.W.Frag) (mg : Str → Option Value) (base : Heap) (CX : CXT) (k : Nat) (f : Addr) (sp : Sp) : Prop :=
  ∀ (A : Around) (outer : List Env) (s : Shared) (H : Hp) (us : List Value) (vs : List V) (Q : VK) (E : XK), A.guards = some [] → Room k A → Env0 P w K mg base A outer s H → Vals vs us → sp vs H Q E →
    codeAny (model P w) A (.call (.ref f) { pos := us, kw := [] }) (CR CX outer P w H s Q E) s
theorem FnG.of {P : Program} {w : World} {K : PySem.W.Frag} {mg : Str → Option Value} {base : Heap} {CX : CXT} {k : Nat} {f : Addr} {sp : Sp} (F : FnR P w K mg base CX k f sp) : FnG P w K mg base CX k f sp :=
  fun A o s H us vs Q E _ hr => F A o s H us vs Q E hr
theorem FnG.mk {P : Program} {w : World} {K : PySem.W.Frag} {mg : Str → Option Value} {base : Heap} {CX : CXT} {k : Nat} {x qual : Str} {st : Stmt} {f : Addr} {fd : FuncData} {N ps : List Str} {sp : Sp}
    (F : Fun K x qual st f fd) (S : FnScope N ps (defScope st)) (B : Binds K fd ps []) (len : ∀ vs H Q E, sp vs H Q E → vs.length = ps.length)
    (go : ∀ (cdv : Value) (A : Around) (outer : List Env) (s : Shared) (H : Hp) (vs : List V) (Q : VK) (E : XK), (A.deeper (envOfC qual (defScope st) s.heap.objs.size f cdv)).guards = some [] → Room k (A.deeper (envOfC qual (defScope st) s.heap.objs.size f cdv)) → sp vs H Q E →
      ∃ t, PSs (cxOf CX P w K mg base N qual (defScope st) f cdv A outer s H E) (defBody st) t ∧ t { nx := fun _ H1 => Q .non H1, rt := Q } (start N vs) H) : FnG P w K mg base CX (k + 1) f sp := by
  obtain ⟨oc, od, kV, doc, pm, an, cdv, ct, osl, e, lk, hcd⟩ := F.ex
  subst e
  intro A outer s H us vs Q E hg hr e0 rv hs
  have hl := len _ _ _ _ hs
  have hu : (us ++ []).length = ps.length := by rw [List.append_nil, ← hl]; exact rv.length.symm
  have b := B s us (e0.mod.kin.keeps fun b o z => (e0.bs b o z).1) hu
  rw [List.append_nil] at b
  exact LamX.run_ofS lk hcd S hr e0 b rv hl fun hr1 => go cdv A outer s H vs Q E hg hr1 hs
theorem FnG.mk0 {P : Program} {w : World} {K : PySem.W.Frag} {mg : Str → Option Value} {base : Heap} {k : Nat} {x qual : Str} {st : Stmt} {f : Addr} {fd : FuncData} {N ps : List Str} {sp : Sp}
    (F : Fun K x qual st f fd) (S : FnScope N ps (defScope st)) (B : Binds K fd ps []) (len : ∀ vs H Q E, sp vs H Q E → vs.length = ps.length)
    (go : ∀ (cdv : Value) (A : Around) (outer : List Env) (s : Shared) (H : Hp) (vs : List V) (Q : VK) (E : XK), (A.deeper (envOfC qual (defScope st) s.heap.objs.size f cdv)).guards = some [] → Room k (A.deeper (envOfC qual (defScope st) s.heap.objs.size f cdv)) → sp vs H Q E →
      ∃ t, PSs (cxOf CX0 P w K mg base N qual (defScope st) f cdv A outer s H E).nox (defBody st) t ∧ t { nx := fun _ H1 => Q .non H1, rt := Q } (start N vs) H) : FnG P w K mg base CX0 (k + 1) f sp :=
  FnG.mk F S B len fun cdv A outer s H vs Q E hg hr hs => by
    obtain ⟨t, ht, q⟩ := go cdv A outer s H vs Q E hg hr hs
    exact ⟨t, ht.nox, q⟩
/-- .. of a def whose code object is known -/
theorem FnG.mkL {P : Program} {w : World} {K : PySem.W.Frag} {mg : Str → Option Value} {base : Heap} {k : Nat} {x qual : Str} {st : Stmt} {f c : Addr} {N ps : List Str} {sp : Sp} {oc : Value} {od an : Option Addr} {osl : Array (Option Value)} {kV doc pm ct : Value}
    (lk : K.lookup f = some ⟨oc, od, .func (PySem.W.fnOf x qual (defArgs st) (defBody st) (defScope st) .none kV doc pm an (.ref c) ct), osl⟩) (hcd : PySem.W.codeIn K (.ref c) qual = true) (S : FnScope N ps (defScope st))
    (B : Binds K (PySem.W.fnOf x qual (defArgs st) (defBody st) (defScope st) .none kV doc pm an (.ref c) ct) ps []) (len : ∀ vs H Q E, sp vs H Q E → vs.length = ps.length)
    (go : ∀ (A : Around) (outer : List Env) (s : Shared) (H : Hp) (vs : List V) (Q : VK) (E : XK), (A.deeper (envOfC qual (defScope st) s.heap.objs.size f (.ref c))).guards = some [] → Room k (A.deeper (envOfC qual (defScope st) s.heap.objs.size f (.ref c))) → sp vs H Q E →
      ∃ t, PSs (cxOf CX0 P w K mg base N qual (defScope st) f (.ref c) A outer s H E).nox (defBody st) t ∧ t { nx := fun _ H1 => Q .non H1, rt := Q } (start N vs) H) : FnG P w K mg base CX0 (k + 1) f sp := by
  intro A outer s H us vs Q E hg hr e0 rv hs
  have hl := len _ _ _ _ hs
  have hu : (us ++ []).length = ps.length := by rw [List.append_nil, ← hl]; exact rv.length.symm
  have b := B s us (e0.mod.kin.keeps fun b o z => (e0.bs b o z).1) hu
  rw [List.append_nil] at b
  exact LamX.run_ofS lk hcd S hr e0 b rv hl fun hr1 => by
    obtain ⟨t, ht, q⟩ := go A outer s H vs Q E hg hr1 hs
    exact ⟨t, ht.nox, q⟩
/-- x(e, ..), x such a def -/
theorem pe_callG {X : Cx} {CX : CXT} {k : Nat} {f : Addr} {sp : Sp} {E : XK} {x : Str} {e : Expr} {es : List Expr} {t : TA} {p pos : Pos} (gu : X.A.guards = some []) (F : FnG X.prog X.w X.K X.mg X.base CX k f sp) (hr : Room k X.A) (hk : PySem.W.keepIn X.K (.ref f) = true) (hg : Gl X x) (hm : X.mg x = some (.ref f)) (hx : Passes CX X E)
    (ha : PA X (e :: es) t) (hd : (x == ("__debug__" : Str)) = false := by decide) (he : starEach (e :: es) X.env = (false, eval e X.env) :: starEach es X.env := by rfl) (hpl : (backTo pos (starEach es X.env)).any (·.1) = false := by rfl) :
    PE X (.Call (.Name x p) (e :: es) [] pos) (fun σ H Q => t σ H fun vs H1 => sp vs H1 Q E) := by
  refine ⟨fun pins s σ H Q I h => wpAny_Call_Name_kw (ld_glob I hg hm ?_ hd)⟩
  refine PySem.W.callWith_K (h₀ := X.base) I.ok.mod.kin hk (thn (ha.run pos pins s σ H _ I h) fun us s1 ⟨vs, H1, I1, r, q⟩ => ⟨I1.kIn, wpAny_call ?_⟩) he hpl
  refine codeAny_mono (F X.A X.stack s1 H1 us vs Q E gu hr I1.env0 r q) fun z s2 hz => ?_
  match z, hz with
  | .error er, hz => exact hx pins σ H1 s1 er s2 I1 hz
  | .ok (.ret u), hz => exact I1.after hz
/-! ### the law's entry, with tables of code objects and nothing being shown -/
section
variable {P : Program} {w : World} {K : PySem.W.Frag} {mg mb : Str → Option Value} {a : Addr} {cs : List (Addr × Addr)} {s : Shared} {vs : List Value} {ns : List Int}
open Classical in
/-- what is tracked at the entry: the script, if it is none of the written things, and the tables -/
noncomputable def H1st (K : PySem.W.Frag) (a : Addr) (cs : List (Addr × Addr)) (vs : List Value) (ns : List Int) : Hp := fun b =>
  if b = a ∧ K.lookup a = Option.none then some (.frz ({ cls := .type "list", data := .seq vs.toArray } : Obj) (.lst (ns.map V.int))) else if ∃ p ∈ cs, p.2 = b then some (.tbl #[]) else Option.none
theorem entry (KX : K.In s.heap) (G : s.heap.Ns mainGlobals mg) (Gb : s.heap.Ns builtinsNs mb) (bb : ∀ x : Str, x ≠ "__name__" → mb x = bootBuiltins x) (nl : s.heap.NoLimit) (ng : s.gens = #[])
    (tb : ∀ p ∈ cs, s.heap.get? p.2 = some ({ cls := .none, data := .fields #[] } : Obj)) (tk : ∀ p ∈ cs, K.lookup p.2 = Option.none) (ch : ∀ p ∈ cs, PySem.W.CodeHd s.heap p.1 p.2)
    (bm : ∃ (m : Addr) (o : Obj), mg "__builtins__" = some (.ref m) ∧ m ≠ builtinsNs ∧ s.heap.get? m = some o ∧ o.cls = .type "module" ∧ o.dict = some builtinsNs ∧ o.data = .plain)
    (sc : s.heap.get? a = some ({ cls := .type "list", data := .seq vs.toArray } : Obj)) (iv : IntsAre vs ns) (len : ns.length ≤ sizeLine) :
    ∃ (H : Hp) (base : Heap), K.In base ∧ base.Ns mainGlobals mg ∧ (∀ p ∈ cs, LamX.TabB base mg p.1 p.2) ∧ Env0 P w K mg base callerA [] s H ∧ (∀ p ∈ cs, H p.2 = some (.tbl #[])) ∧ SqL K H a (ns.map V.int) ∧
      ∀ b, H b = Option.none ∨ (∃ p ∈ cs, p.2 = b) ∨ ∃ o xs, H b = some (.frz o (.lst xs)) := by
  have rv := vals_ints iv
  have nt : ¬ ∃ p ∈ cs, p.2 = a := fun ⟨p, hp, e⟩ => by
    have z := tb p hp
    rw [e, sc] at z
    exact nomatch congrArg Obj.data (Option.some.inj z)
  -- what is tracked
  have tr : ∀ b u, H1st K a cs vs ns b = some u → (b = a ∧ K.lookup a = Option.none ∧ u = .frz ({ cls := .type "list", data := .seq vs.toArray } : Obj) (.lst (ns.map V.int))) ∨ ((∃ p ∈ cs, p.2 = b) ∧ u = .tbl #[]) := fun b u h => by
    unfold H1st at h
    split at h
    · rename_i c; exact .inl ⟨c.1, c.2, (Option.some.inj h).symm⟩
    · split at h
      · rename_i c; exact .inr ⟨c, (Option.some.inj h).symm⟩
      · cases h
  have tt : ∀ p ∈ cs, H1st K a cs vs ns p.2 = some (.tbl #[]) := fun p hp => by
    unfold H1st
    rw [if_neg (fun z : p.2 = a ∧ _ => nt ⟨p, hp, z.1⟩), if_pos ⟨p, hp, rfl⟩]
  have un : ∀ b o, s.heap.get? b = some o → (∀ v n, o.data ≠ .seq v n) → o.data ≠ .fields #[] → H1st K a cs vs ns b = Option.none := fun b o e n1 n2 => by
    match q : H1st K a cs vs ns b with
    | Option.none => rfl
    | some u =>
      exfalso
      rcases tr b u q with ⟨z, _, _⟩ | ⟨⟨p, hp, z⟩, _⟩
      · rw [z, sc] at e; cases e; exact n1 _ _ rfl
      · rw [← z, tb p hp] at e; cases e; exact n2 rfl
  have keep : ∀ {b : Addr} {o : Obj}, s.heap.get? b = some o → (∀ v n, o.data ≠ .seq v n) → o.data ≠ .fields #[] → (hidT s.heap (H1st K a cs vs ns)).get? b = some o := fun e n1 n2 => hidT_get e (un _ _ e n1 n2)
  have nsOf : ∀ {b : Addr} {m : Str → Option Value}, s.heap.Ns b m → (hidT s.heap (H1st K a cs vs ns)).Ns b m := fun {b m} ⟨o, es, ep, e, d, r⟩ => ⟨o, es, ep, keep e (fun v n z => by rw [d] at z; cases z) (fun z => by rw [d] at z; cases z), d, r⟩
  have kin : K.In (hidT s.heap (H1st K a cs vs ns)) := fun b o e => hidT_get (KX b o e) (by
    match q : H1st K a cs vs ns b with
    | Option.none => rfl
    | some u =>
      exfalso
      rcases tr b u q with ⟨z, z2, _⟩ | ⟨⟨p, hp, z⟩, _⟩
      · rw [z, z2] at e; cases e
      · rw [← z, tk p hp] at e; cases e)
  have md : L2.Mod K mg (hidT s.heap (H1st K a cs vs ns)) := { kin := kin, glob := nsOf G, blt := ⟨mb, nsOf Gb, bb⟩, nolimit := by obtain ⟨mc, q1, q2⟩ := nl; exact ⟨mc, nsOf q1, q2⟩ }
  have gl : ∀ p ∈ cs, mainGlobals ≠ p.2 := fun p hp z => by
    obtain ⟨o, es, ep, e, d, _⟩ := G
    rw [z, tb p hp] at e
    cases e
    cases d
  refine ⟨H1st K a cs vs ns, hidT s.heap (H1st K a cs vs ns), kin, nsOf G, fun p hp => ⟨?_, ?_, gl p hp⟩, ⟨rfl, md, fun b o e => of_hidT e, Nat.le_of_eq (hidT_size _ _), trivial, fun b hb => (List.not_mem_nil hb).elim, fun b u q => ?_, .of_eq ng⟩, tt, ?_, fun b => ?_⟩
  · obtain ⟨o, us, file, tf, flags, tg, inF, text, tt, q0, q1, q2, q3, rest⟩ := ch p hp
    refine ⟨o, us, file, tf, flags, tg, inF, text, tt, keep q0 (fun v n z => by rw [q2] at z; cases z) (fun z => ?_), q1, q2, q3, rest⟩
    rw [q2] at z
    cases z
    simp at q3
  · obtain ⟨m, o, b1, b2, b3, b4, b5, b6⟩ := bm
    refine ⟨m, o, b1, b2, fun z => ?_, fun z => ?_, keep b3 (fun v n z => by rw [b6] at z; cases z) (fun z => by rw [b6] at z; cases z), b4, b5, b6⟩
    · obtain ⟨o2, es, ep, e, d, _⟩ := G
      rw [z, e] at b3
      cases b3
      rw [d] at b6
      cases b6
    · rw [z, tb p hp] at b3
      cases b3
      cases b6
  · rcases tr b u q with ⟨z, _, z3⟩ | ⟨⟨p, hp, z⟩, z3⟩
    · rw [z, z3]
      exact ⟨sc, by rw [List.length_map]; exact len, vs, _, rv, sc⟩
    · rw [← z, z3]
      exact tb p hp
  · match q : K.lookup a with
    | Option.none => exact .inl (.inr ⟨_, by unfold H1st; rw [if_pos ⟨rfl, q⟩]⟩)
    | some o =>
      have e := KX a o q
      rw [sc] at e
      cases e
      exact .inr ⟨_, vs.toArray, _, q, rfl, rfl, rfl, by rw [List.size_toArray, iv.length]; exact len, by simpa using rv⟩
  · match q : H1st K a cs vs ns b with
    | Option.none => exact .inl rfl
    | some u =>
      rcases tr b u q with ⟨_, _, z3⟩ | ⟨z, _⟩
      · rw [z3]; exact .inr (.inr ⟨_, _, rfl⟩)
      · exact .inr (.inl z)
/-- what stood before the law stands behind it -/
theorem leave {H H2 : Hp} {s2 : Shared} (tb : ∀ p ∈ cs, s.heap.get? p.2 = some ({ cls := .none, data := .fields #[] } : Obj)) (ch : ∀ p ∈ cs, PySem.W.CodeHd s.heap p.1 p.2) (tt : ∀ p ∈ cs, H p.2 = some (.tbl #[]))
    (only : ∀ b, H b = Option.none ∨ (∃ p ∈ cs, p.2 = b) ∨ ∃ o xs, H b = some (.frz o (.lst xs))) (h1 : HOk P w H s.heap) (u : Un (frs []) [] H H2 s.heap s2.heap) (h2 : HOk P w H2 s2.heap) : OldK s.heap s2.heap := by
  have same : ∀ b o, ¬ (∃ p ∈ cs, p.2 = b) → s.heap.get? b = some o → s2.heap.get? b = some o := fun b o n e => by
    rcases only b with z | z | ⟨ob, xs, z⟩
    · exact u.keep b o e z List.not_mem_nil List.not_mem_nil
    · exact (n z).elim
    · have q1 := (h1 b _ z).1
      have q2 := (h2 b _ (u.frzs b ob _ z)).1
      rw [e] at q1
      rw [q2, Option.some.inj q1]
  have more : ∀ p ∈ cs, ∃ ps : Array Value, s2.heap.get? p.2 = some ({ cls := .none, data := .fields ps } : Obj) := fun p hp => by
    obtain ⟨ps, z⟩ := u.tbls p.2 #[] (tt p hp)
    exact ⟨_, h2 p.2 _ z⟩
  refine ⟨fun b o e => ?_, fun b o e => ?_⟩
  all_goals by_cases hb : ∃ p ∈ cs, p.2 = b
  · obtain ⟨p, hp, rfl⟩ := hb
    obtain ⟨ps, z⟩ := more p hp
    have e2 := e
    rw [tb p hp] at e2
    cases e2
    exact .inr (.inl ⟨((ch p hp).tab (tb p hp)).isCodeTable, rfl, #[], ps, rfl, by rw [Array.empty_append]; exact z⟩)
  · exact .inl (same b o hb e)
  · obtain ⟨p, hp, rfl⟩ := hb
    exact ⟨_, (more p hp).choose_spec⟩
  · exact ⟨o, same b o hb e⟩
end
/-- what is shown of the law behind the head: its promise, and the tables that it leans on -/
def LawG (l : PySem.W.OpenLaw) (w : World) (K : PySem.W.Frag) (k : Nat) (mg : Str → Option Value) (fa : Addr) (h : Heap) : Prop :=
  ∃ (cs : List (Addr × Addr)) (sp : Sp), (∀ p ∈ cs, h.get? p.2 = some ({ cls := .none, data := .fields #[] } : Obj)) ∧ (∀ p ∈ cs, K.lookup p.2 = Option.none) ∧ (∀ p ∈ cs, PySem.W.CodeHd h p.1 p.2) ∧
    (∀ (H : Hp) (a : Addr) (ns : List Int), ns.length ≤ 63 → (∀ z ∈ ns, Builtin.Int.intBits z ≤ 1048576) → (∀ p ∈ cs, H p.2 = some (.tbl #[])) → SqL K H a (ns.map V.int) → sp [.ref a] H (fun v _ => v = .bl true) fun _ _ _ => False) ∧
    ∀ base : Heap, K.In base → base.Ns mainGlobals mg → (∀ p ∈ cs, LamX.TabB base mg p.1 p.2) → FnG l.prog w K mg base CX0 k fa sp
/-- the table of the def x is empty behind the top -/
def TabOf (K : PySem.W.Frag) (mg : Str → Option Value) (h : Heap) (x : Str) : Prop := ∀ (f c P : Addr) (o : Obj) (fd : FuncData) (e : Value) (dd : Option Addr) (vs : Array Value) (sl : Array (Option Value)), mg x = some (.ref f) → K.lookup f = some o → o.data = .func fd → fd.code = .ref c →
  K.lookup c = some ⟨e, dd, .fields vs, sl⟩ → vs[11]? = some (.ref P) → h.get? P = some ({ cls := .none, data := .fields #[] } : Obj) ∧ PySem.W.CodeHd h c P
theorem walkG {l : PySem.W.OpenLaw} {k : Nat} {q : Program} {loose : List Str} {XP : (Str → Option Value) → Heap → Prop} {YP : World → Heap → Prop} {d : DefRec} {K : Params → PySem.W.Frag} (xs : List Str) (hxs : (xs.all fun x => (recsOf q).any fun e => e.name == x) = true)
    (hn : l.most = some 63) (hdf : d.params.defaults = []) (hr : Room k callerA) (hY : ∀ (w : World) (h : Heap), YP w h → (K w.params).In h)
    (F : ∀ (w : World) (mg : Str → Option Value) (fa : Addr) (h : Heap), (K w.params).In h → h.Ns mainGlobals mg → mg d.name = some (.ref fa) → (∀ x ∈ xs, TabOf (K w.params) mg h x) → LawG l w (K w.params) k mg fa h) :
    PySem.W.WalkO q loose XP YP l.row.toRowW d [] (fun f vs => PySem.call f vs) := by
  refine Att.attach_callB hn hdf fun w s₀ s mg mb fa o pm cd doc a vs ns G Y _ _ _ hmg hobj hints hlen hbits hg => ?_
  have KX := hY w _ Y
  have tabs : ∀ x ∈ xs, TabOf (K w.params) mg s.heap x := fun x hx f c P o fd e dd us sl m1 m2 m3 m4 m5 m6 => by
    obtain ⟨r, hr1, hr2⟩ := List.any_eq_true.mp (List.all_eq_true.mp hxs x hx)
    obtain ⟨f2, o2, fd2, c2, P2, t1, t2, t3, t4, t5, t6⟩ := G.T.tab r hr1
    rw [beq_iff_eq.mp hr2, m1] at t1
    cases t1
    rw [KX _ _ m2] at t2
    cases t2
    rw [m3] at t3
    cases t3
    rw [m4] at t4
    cases t4
    have hd := PySem.W.CodeHd.of t5 t6
    obtain ⟨⟨oc, vc, u1, _, u3, u4⟩, hP⟩ := t6
    rw [KX _ _ m5] at u1
    cases u1
    cases u3
    rw [m6] at u4
    cases u4
    exact ⟨hP, hd⟩
  obtain ⟨cs, sp, tb, tk, ch, hsp, FG⟩ := F w mg fa _ KX G.T.g hmg tabs
  obtain ⟨H, base, kin, ns1, TB, e0, tt, hS, only⟩ := entry (P := l.prog) (w := w) KX G.T.g G.T.b G.T.builtins G.T.nolimit hg tb tk ch G.T.bmain hobj hints (Nat.le_trans hlen (by decide))
  refine codeAny_mono (FG base kin ns1 TB callerA [] s H [.ref a] [.ref a] _ _ rfl hr e0 (.cons rfl .nil) (hsp H a ns hlen hbits tt hS)) fun r s2 h => ?_
  match r, h with
  | .ok (.ret u), ⟨v, H2, os, bare, un, hok, rel, e⟩ =>
    have e' : v = .bl true := e
    subst e'
    have eu : u = Value.bool true := rel
    subst eu
    exact ⟨rfl, leave tb ch tt only e0.hok un hok, os, bare⟩

/-! ### repr -/
/-- v is read as the datum d: as Dp, and dicts of no entry or one -/
inductive Dq (K : PySem.W.Frag) (H : Hp) : V → PyData → Prop where
  | dp {v : V} {d : PyData} : Dp K H v d → Dq K H v d
  | d0 {a : Addr} : H a = some (.dK []) → Dq K H (.ref a) (.dict [])
mutual
theorem dp_nodict {K : PySem.W.Frag} {H : Hp} : ∀ (d : PyData) (v : V), Dp K H v d → d.hasDict = false
  | .none, _, _ => rfl
  | .bool _, _, _ => rfl
  | .int _, _, _ => rfl
  | .str _, _, _ => rfl
  | .list ds, _, h => by
    cases h with
    | lst _ ha => exact dp_nodictAll ds _ ha
  | .tuple ds, _, h => by
    cases h with
    | tup _ ha => exact dp_nodictAll ds _ ha
  | .dict _, _, h => by cases h
theorem dp_nodictAll {K : PySem.W.Frag} {H : Hp} : ∀ (ds : List PyData) (vs : List V), DpAll K H vs ds → PyData.hasDictAll ds = false
  | [], _, _ => rfl
  | d :: ds, _, h => by
    cases h with
    | cons h1 h2 =>
      show (PyData.hasDict d || PyData.hasDictAll ds) = false
      rw [dp_nodict d _ h1, dp_nodictAll ds _ h2]
      rfl
end
theorem Dq.reads {X : Cx} {pins : List (Addr × Obj)} {σ : L2.St} {H : Hp} {s : Shared} (I : Inv X pins σ H s) {v : V} {d : PyData} {u : Value} (h : Dq X.K H v d) (r : RelV v u) : ∃ as, Reads s.heap u d as ∧ (d.hasDict = true → sysModules ∉ as) := by
  cases h with
  | dp h =>
    obtain ⟨as, q⟩ := Dp.reads I _ _ _ h r
    exact ⟨as, q, fun z => by rw [dp_nodict _ _ h] at z; cases z⟩
  | @d0 a h =>
    obtain rfl : u = Value.ref a := r
    obtain ⟨_, ns, vs, kv, o, es, ep, e1, e2, e3, e4⟩ := (show ObjOk X.prog X.w H s.heap a (.dK []) from I.hok a _ h)
    cases kv
    have e5 : es.toList = [] := by
      have e6 := e4.2.1
      generalize es.toList = l at e6
      cases e6
      rfl
    refine ⟨[a] ++ [] ++ [], Reads.dict e1 e2.1 e3 (by rw [e5]; exact .nil) (by rw [e5]; exact .nil), fun _ z => ?_⟩
    have z' : sysModules = a := by simpa using z
    rw [← z'] at ns
    simp at ns
def rRep (K : PySem.W.Frag) : List V → Hp → VK → Prop := fun vs H Q => ∃ v d, vs = [v] ∧ Dq K H v d ∧ d.showable = true ∧ d.depth ≤ 60 ∧ ((∃ i, d = .int i) ∨ d.shown.length ≤ sizeLine) ∧ Q (.str d.shown) H
theorem call_rep {X : Cx} (gu : X.A.guards = some []) (hu : X.A.units + 64 < cLine) : CallR X (.builtin "repr") (rRep X.K) := by
  intro pins s σ H xs us Q I r h
  obtain ⟨v, d, rfl, hd, h1, h2, h3, q⟩ := h
  obtain ⟨u, rfl, ru⟩ := vals1 r
  obtain ⟨as, rd, ns⟩ := hd.reads I ru
  have done : ∀ (h' : Heap) (t : Tok) (tk : Nat), (∀ b o, s.heap.get? b = some o → h'.get? b = some o) → EP X pins σ Q (.str d.shown t) { s with heap := h', toks := tk } := fun h' t tk k => ⟨.str d.shown, H, I.kept (t' := tk) k, ⟨t, rfl⟩, q⟩
  have same : ∀ t tk, EP X pins σ Q (.str d.shown t) { s with toks := tk } := fun t tk => done s.heap t tk fun _ _ z => z
  have h3 : (∀ i, d ≠ .int i) → d.shown.length ≤ sizeLine := fun n => h3.resolve_left fun ⟨i, z⟩ => n i z
  cases rd with
  | none => exact PySem.P.repr_of_none (same _ _)
  | bool b => exact PySem.P.repr_of_bool (same _ _)
  | int i t => exact PySem.P.repr_of_int (of_decide_eq_true h1) (same _ _)
  | str x t => exact PySem.P.repr_of_str (same _ _) (h3 fun _ z => nomatch z)
  | list e1 e2 e3 e4 => exact PySem.repr_of_reads' (.list e1 e2 e3 e4) h1 ns gu (by omega) (fun _ _ z => z) (fun h' u tk k => done h' u tk k) (h3 fun _ z => nomatch z)
  | tuple e1 e2 e3 e4 => exact PySem.repr_of_reads' (.tuple e1 e2 e3 e4) h1 ns gu (by omega) (fun _ _ z => z) (fun h' u tk k => done h' u tk k) (h3 fun _ z => nomatch z)
  | dict e1 e2 e3 e4 e5 => exact PySem.repr_of_reads' (.dict e1 e2 e3 e4 e5) h1 ns gu (by omega) (fun _ _ z => z) (fun h' u tk k => done h' u tk k) (h3 fun _ z => nomatch z)

/-! ### the draws -/
def spPen (K : PySem.W.Frag) : Sp := fun vs H Q _ => ∃ (a : Addr) (ns : List Int), vs = [.ref a] ∧ SqL K H a (ns.map V.int) ∧ ns.length ≤ 63 ∧ ∀ (p : Addr) (H' : Hp), Same H H' → Pen H' p 0 → Q (.ref p) H'
theorem ok_pen (T : Txt K mg) : FnOk P w K mg base CX0 1 T.a_pen T.fd_pen ["_law_script"] (spPen K) := by
  refine T.F_pen.ok sc_pen (fun vs H Q E h => ?_) (fun cdv A outer s H vs Q E hr h => ?_)
  · obtain ⟨a, ns, rfl, _⟩ := h; rfl
  · obtain ⟨a, ns, rfl, hS, hl, k⟩ := h
    refine ⟨_, pss_one (ps_ret (pe_lst (pa_cons (pe_callTy call_list_of (by rfl) T.n_list (by decide +kernel) (pa_cons (pe_slice sl_list (pv 0) (po_none) (po_some (pe_int))) (pa_nil))) (pa_cons (pe_int) (pa_cons (pe_int) (pa_nil)))))), ?_⟩
    obtain ⟨ms, em, lm⟩ := cut_ints ns none (some 63)
    refine ⟨_, rfl, _, rfl, a, _, rfl, hS, fun q hq => ?_⟩
    refine ⟨q, _, rfl, .inl (SqL.of upd_same), fun l hl => ?_⟩
    refine ⟨(by show 3 ≤ sizeLine; decide), fun p hp => k p _ ?_ ?_⟩
    · exact (same_new hq).trans ((same_new hl).trans (same_new hp))
    · refine ⟨l, ms, 0, 0, upd_same, ?_, by omega, by omega, by omega, by omega⟩
      rw [upd_ne (ne_of_none upd_same hp), upd_same, em]
def spDraw : Sp := fun vs H Q _ => ∃ (p : Addr) (m : Int) (n : Nat), vs = [.ref p, .int m] ∧ 0 < m ∧ m < 1073741824 ∧ Pen H p n ∧ n < 100000 ∧ ∀ (r : Int) (H' : Hp), 0 ≤ r → r < m → Pen H' p (n + 1) → Fr p H H' → Q (.int r) H'
theorem ok_draw (T : Txt K mg) : FnOk P w K mg base CX0 1 T.a_draw T.fd_draw ["_law_pen_here", "_law_many"] spDraw := by
  refine T.F_draw.ok sc_draw (fun vs H Q E h => ?_) (fun cdv A outer s H vs Q E hr h => ?_)
  · obtain ⟨p, m, n, rfl, _⟩ := h; rfl
  · obtain ⟨p, m, n, rfl, hm, hm2, ⟨c, ns, i, g, hp, hc, i0, i1, g0, hl⟩, hn, k⟩ := h
    have cp : c ≠ p := pen_ne hp hc
    have mb : m.natAbs < 2 ^ 30 := by omega
    refine ⟨_, pss_cons (ps_if (pt_cmpR op_gt (pe_ix ix_list (pv 0) (pe_int) (fun _ _ => rfl)) (pe_int) (nomark _)) (pss_cons (ps_set (i := 2) sc_draw.nd rfl (Or.inl rfl) (pe_op op_modN (pe_callTy call_int1 (by rfl) T.n_int (by decide +kernel) (pa_cons (pe_ix ix_list (pv 0) (pe_int) (fun _ _ => rfl)) (pa_nil))) (pv 1)))
      (pss_cons (ps_asg (pe_op op_fdivW (pe_callTy call_int1 (by rfl) T.n_int (by decide +kernel) (pa_cons (pe_ix ix_list (pv 0) (pe_int) (fun _ _ => rfl)) (pa_nil))) (pv 1)) (pg_sub (pv 0) (pe_int) set_list))
      (pss_one (ps_ret (pv 2))))) (pss_nil))
      (pss_cons (ps_set (i := 3) sc_draw.nd rfl (Or.inl rfl) (pe_ix ix_list (pv 0) (pe_int) (fun _ _ => rfl)))
      (pss_cons (ps_asg (pe_op op_add (pv 3) (pe_int)) (pg_sub (pv 0) (pe_int) set_list))
      (pss_cons (ps_set (i := 4) sc_draw.nd rfl (Or.inl rfl) (pe_op op_add (pe_op op_mul (pe_int) (pv 3)) (pe_int)))
      (C8.pss_cut (ps_if (pt_cmpR (op_neD hr.units) (pe_ix ix_list (pv 0) (pe_int) (fun _ _ => rfl)) (pe_lst (pa_nil)) (nomark _)) (pss_one (ps_set (i := 4) sc_draw.nd rfl (Or.inl rfl) (pe_ix ix_list (pe_ix ix_list (pv 0) (pe_int) (fun _ _ => rfl)) (pe_op op_modN (pe_callTy call_int1 (by rfl) T.n_int (by decide +kernel) (pa_cons (pv 3) (pa_nil))) (pe_callB call_len_seq (by rfl) T.n_len (by decide +kernel) (pa_cons (pe_ix ix_list (pv 0) (pe_int) (fun _ _ => rfl)) (pa_nil)))) (fun _ _ => rfl)))) (pss_nil))
      (C8.pss_cut (ps_if (PW.pt (pw_and (pt_cmpR op_lt (pv 3) (pe_callB call_len_seq (by rfl) T.n_len (by decide +kernel) (pa_cons (pe_ix ix_list (pv 0) (pe_int) (fun _ _ => rfl)) (pa_nil))) (nomark _)) (pw_and1 (pt_cmpR op_ge (pe_callB call_abs (by rfl) T.n_abs (by decide +kernel) (pa_cons (pv 4) (pa_nil))) (pe_op op_pow (pe_int) (pe_int)) (nomark _))))) (pss_cons (ps_set (i := 5) sc_draw.nd rfl (Or.inl rfl) (pe_op op_add (pe_op op_mul (pe_int) (pe_op op_sub (pe_callB call_abs (by rfl) T.n_abs (by decide +kernel) (pa_cons (pv 4) (pa_nil))) (pe_op op_pow (pe_int) (pe_int)))) (pe_callTy call_int1 (by rfl) T.n_int (by decide +kernel) (pa_cons (pe_cmpR op_lt (pv 4) (pe_int) (nomark _)) (pa_nil)))))
      (pss_cons (ps_asg (pe_op op_fdivW (pe_callTy call_int1 (by rfl) T.n_int (by decide +kernel) (pa_cons (pv 5) (pa_nil))) (pv 1)) (pg_sub (pv 0) (pe_int) set_list))
      (pss_one (ps_ret (pe_op op_modN (pe_callTy call_int1 (by rfl) T.n_int (by decide +kernel) (pa_cons (pv 5) (pa_nil))) (pv 1)))))) (pss_nil))
      (pss_cons (ps_set (i := 6) sc_draw.nd rfl (Or.inl rfl) (pe_op op_modN (pe_callTy call_int1 (by rfl) T.n_int (by decide +kernel) (pa_cons (pe_op op_pow (pe_op op_add (pe_op op_add (pe_op op_modN (pe_callTy call_int1 (by rfl) T.n_int (by decide +kernel) (pa_cons (pv 4) (pa_nil))) (pe_int)) (pe_op op_mul (pe_int) (pv 3))) (pe_int)) (pe_int)) (pa_nil))) (pe_int)))
      (pss_cons (ps_set (i := 6) sc_draw.nd rfl (Or.inl rfl) (pe_op op_modN (pe_callTy call_int1 (by rfl) T.n_int (by decide +kernel) (pa_cons (pe_op op_pow (pe_op op_add (pe_op op_add (pe_op op_mul (pv 6) (pe_op op_add (pe_op op_mul (pe_int) (pv 3)) (pe_int))) (pe_op op_mul (pe_op op_mul (pe_int) (pv 3)) (pv 3))) (pe_int)) (pe_int)) (pa_nil))) (pe_int)))
      (pss_one (ps_ret (pe_op op_modN (pe_callTy call_int1 (by rfl) T.n_int (by decide +kernel) (pa_cons (pe_op op_fdivW (pv 6) (pe_int)) (pa_nil))) (pv 1))))))))))), ?_⟩
    refine ⟨_, rfl, p, _, _, _, rfl, rfl, SqL.of hp, rfl, _, _, rfl, rfl, _, rfl, ?_⟩
    refine ite2 (fun hg => ?_) (fun hg => ?_)
    · refine ⟨_, rfl, p, _, _, _, rfl, rfl, SqL.of hp, rfl, .inl ⟨_, rfl, ?_⟩⟩
      refine ⟨_, rfl, _, _, rfl, rfl, (by omega), ?_⟩
      refine ⟨_, rfl, p, _, _, _, rfl, rfl, SqL.of hp, rfl, .inl ⟨_, rfl, ?_⟩⟩
      refine ⟨_, rfl, _, _, rfl, rfl, wide_div hm mb (by decide) (by decide), ?_⟩
      refine ⟨_, rfl, p, _, _, _, rfl, rfl, hp, rfl, _, rfl, ?_⟩
      have fm := fmod_pos (x := g) hm
      refine k _ _ fm.1 fm.2 ⟨c, ns, i, g / m, upd_same, ?_, i0, by omega, Int.ediv_nonneg g0 (by omega), hl⟩ (fr_upd hp)
      rw [upd_ne cp]; exact hc
    · refine ⟨_, rfl, p, _, _, _, rfl, rfl, SqL.of hp, rfl, ?_⟩
      refine ⟨_, rfl, _, _, rfl, rfl, _, rfl, p, _, _, _, rfl, rfl, hp, rfl, ?_⟩
      -- the index is one more
      have f1 : Fr p H (upd H p (.lst [.ref c, .int (i + 1), .int g])) := fr_upd hp
      have hp1 : (upd H p (.lst [.ref c, .int (i + 1), .int g])) p = some (.lst [.ref c, .int (i + 1), .int g]) := upd_same
      have hc1 : (upd H p (.lst [.ref c, .int (i + 1), .int g])) c = some (.lst (ns.map V.int)) := by rw [upd_ne cp]; exact hc
      show _
      refine ⟨_, rfl, _, _, rfl, rfl, .inl ⟨by decide, by decide⟩, _, _, rfl, rfl, ?_⟩
      refine ⟨fun σ' H' => ∃ raw : Int, σ' = [some (.ref p), some (.int m), Option.none, some (.int i), some (.int raw), Option.none, Option.none] ∧ Same (upd H p (.lst [.ref c, .int (i + 1), .int g])) H', ?_, ?_⟩
      · refine ⟨_, rfl, p, _, _, _, rfl, rfl, SqL.of hp1, rfl, Nat.zero_le _, fun l hl0 => ?_⟩
        refine ⟨.list (ns.map PyData.int), .list [], .lst (SqL.of (same_new hl0 _ _ hc1)) (dp_ints ns), .lst (SqL.of upd_same) .nil, PySem.W.ke_shaped_ints ns, by decide +kernel, _, rfl, ?_⟩
        have s1 := same_new (o := .lst []) hl0
        cases ns with
        | nil => exact iteF ⟨_, rfl, s1⟩
        | cons z r =>
          refine iteT ?_
          refine ⟨_, rfl, p, _, _, _, rfl, rfl, SqL.of (s1 _ _ hp1), rfl, ?_⟩
          refine ⟨_, rfl, .inl ⟨_, rfl, ?_⟩⟩
          refine ⟨_, rfl, p, _, _, _, rfl, rfl, SqL.of (s1 _ _ hp1), rfl, c, _, rfl, .inl (SqL.of (s1 _ _ hc1)), _, _, rfl, rfl, ?_⟩
          have lp : (0 : Int) < (((z :: r).map V.int).length : Nat) := by rw [List.length_map, List.length_cons]; omega
          have fm := fmod_pos (x := i) lp
          have fm2 : i.fmod (((z :: r).map V.int).length : Nat) < (((z :: r).length : Nat) : Int) := by have := fm.2; rw [List.length_map] at this; rw [List.length_map]; exact this
          obtain ⟨y, hy⟩ := atI_in fm.1 fm2
          exact ⟨by omega, c, _, _, _, rfl, rfl, SqL.of (s1 _ _ hc1), hy, y, rfl, s1⟩
      · rintro σ' H' ⟨raw, rfl, s1⟩
        have hp2 := s1 _ _ hp1
        have hc2 := s1 _ _ hc1
        have f2 : Fr p H H' := f1.trans (same_fr s1)
        have penE : ∀ g' : Int, 0 ≤ g' → Pen (upd H' p (.lst [.ref c, .int (i + 1), .int g'])) p (n + 1) := fun g' h' => ⟨c, ns, i + 1, g', upd_same, by rw [upd_ne cp]; exact hc2, by omega, by omega, h', hl⟩
        refine ⟨fun σ'' H'' => σ'' = [some (.ref p), some (.int m), Option.none, some (.int i), some (.int raw), Option.none, Option.none] ∧ H'' = H', ?_, ?_⟩
        rotate_left
        · rintro σ'' H'' ⟨rfl, rfl⟩
          refine ⟨_, rfl, .inl ⟨_, rfl, ?_⟩⟩
          refine ⟨_, _, rfl, rfl, (by show (_ : Int) ≠ 0; decide), _, rfl, _, _, rfl, rfl, .inl ⟨by decide, by decide⟩, _, _, rfl, rfl, _, _, rfl, rfl, ?_⟩
          have r1 := fmod_pos (x := raw) (m := 2147483563) (by decide)
          refine ⟨_, _, rfl, rfl, ⟨by decide, by decide, stir1 r1.1 (by omega) i0 (by omega) (by decide) (by decide) (by decide) (by decide)⟩, .inl ⟨_, rfl, ?_⟩⟩
          refine ⟨_, _, rfl, rfl, (by show (_ : Int) ≠ 0; decide), ?_⟩
          have r2 : ∀ x : Int, 0 ≤ x.fmod 2147483587 ∧ x.fmod 2147483587 < 2147483587 := fun x => fmod_pos (by decide)
          refine ⟨_, rfl, _, rfl, _, _, rfl, rfl, .inl ⟨by decide, by decide⟩, _, _, rfl, rfl, _, _, rfl, rfl, .inl (small64 (r2 _).1 (Int.lt_trans (r2 _).2 (by decide))), ?_⟩
          refine ⟨_, rfl, _, _, rfl, rfl, .inl ⟨by decide, by decide⟩, _, rfl, _, _, rfl, rfl, .inr ⟨by omega, by omega⟩, _, _, rfl, rfl, _, _, rfl, rfl, ?_⟩
          refine ⟨_, _, rfl, rfl, ⟨by decide, by decide, stir2 (r2 _).1 (Int.lt_trans (r2 _).2 (by decide)) i0 (by omega) (by decide) (by decide) (by decide) (by decide) (by decide) (by decide)⟩, .inl ⟨_, rfl, ?_⟩⟩
          refine ⟨_, _, rfl, rfl, (by show (_ : Int) ≠ 0; decide), ?_⟩
          refine ⟨_, rfl, _, _, rfl, rfl, wide_div (b := 10) (by decide) (by decide) (by decide) (by decide), .inl ⟨_, rfl, ?_⟩⟩
          refine ⟨_, rfl, _, _, rfl, rfl, (by omega), ?_⟩
          have fm := fun x => fmod_pos (x := x) hm
          exact k _ _ (fm _).1 (fm _).2 ⟨c, ns, i + 1, g, hp2, hc2, by omega, by omega, g0, hl⟩ f2
        refine ⟨_, rfl, _, rfl, p, _, _, _, rfl, rfl, SqL.of hp2, rfl, c, _, rfl, .inl (SqL.of hc2), _, _, rfl, rfl, _, rfl, ?_⟩
        refine ite2 (fun hlt => ?_) (fun hlt => ?_)
        · refine ⟨_, rfl, _, rfl, _, _, rfl, rfl, ⟨by decide, by decide, by decide⟩, _, _, rfl, rfl, _, rfl, ?_⟩
          refine ite2 (fun hge => ?_) (fun hge => ?_)
          · have hge := of_decide_eq_true hge
            refine ⟨_, rfl, _, rfl, _, _, rfl, rfl, ⟨by decide, by decide, by decide⟩, _, _, rfl, rfl, _, _, rfl, rfl, .inl ⟨by decide, by decide⟩, ?_⟩
            refine ⟨_, rfl, _, _, rfl, rfl, .inr ⟨_, rfl, ?_⟩⟩
            refine ⟨_, _, rfl, rfl, ?_⟩
            have gpos : (0 : Int) ≤ 2 * ((if raw < 0 then -raw else raw) - 10 ^ (18 : Int).toNat) + (if decide (raw < 0) = true then 1 else 0) := by
              have : (0 : Int) ≤ (if decide (raw < 0) = true then 1 else 0) := by split <;> omega
              omega
            refine ⟨_, rfl, .inl ⟨_, rfl, ?_⟩⟩
            refine ⟨_, rfl, _, _, rfl, rfl, wide_div hm mb (by decide) (by decide), ?_⟩
            refine ⟨_, rfl, p, _, _, _, rfl, rfl, hp2, rfl, ?_⟩
            refine ⟨_, rfl, .inl ⟨_, rfl, ?_⟩⟩
            refine ⟨_, rfl, _, _, rfl, rfl, (by omega), ?_⟩
            have fm := fun x => fmod_pos (x := x) hm
            exact k _ _ (fm _).1 (fm _).2 (penE _ (Int.ediv_nonneg gpos (by omega))) (f2.trans (fr_upd hp2))
          · exact ⟨rfl, rfl⟩
        · exact ⟨rfl, rfl⟩

def spPick (K : PySem.W.Frag) : Sp := fun vs H Q _ => ∃ (p l : Addr) (xs : List V) (n : Nat), vs = [.ref p, .ref l] ∧ SqL K H l xs ∧ l ≠ p ∧ 0 < xs.length ∧ xs.length < 1000000 ∧ Pen H p n ∧ n < 100000 ∧ ∀ (x : V) (H' : Hp), x ∈ xs → Pen H' p (n + 1) → Fr p H H' → Q x H'
theorem ok_pick (T : Txt K mg) : FnOk P w K mg base CX0 2 T.a_pick T.fd_pick ["_law_pen_here", "_law_some"] (spPick K) := by
  refine T.F_pick.ok sc_pick (fun vs H Q E h => ?_) (fun cdv A outer s H vs Q E hr h => ?_)
  · obtain ⟨p, l, xs, n, rfl, _⟩ := h; rfl
  · obtain ⟨p, l, xs, n, rfl, hS, hne, h0, h1, hP, hn, k⟩ := h
    refine ⟨_, pss_one (ps_ret (pe_ix ix_list (pv 1) (pe_call (ok_draw T) (hr.mono (by decide)) rfl T.m_draw T.F_draw.kp (b_draw T) .nil pass0 (pa_cons (pv 0) (pa_cons (pe_callB call_len_seq (by rfl) T.n_len (by decide +kernel) (pa_cons (pv 1) (pa_nil))) (pa_nil)))) (fun _ _ => rfl))), ?_⟩
    refine ⟨_, rfl, _, rfl, _, rfl, l, xs, rfl, .inl hS, p, _, n, rfl, (by omega), (by omega), hP, hn, fun r H' r0 r1 hP' fr => ?_⟩
    obtain ⟨x, hx, he⟩ := atI_any r0 r1
    exact ⟨l, xs, _, x, rfl, rfl, fr.seq hne hS, he, k x H' hx hP' fr⟩
/-! ### what is neither the pen nor a table stays -/
open Classical in
noncomputable def core (p : Addr) (H : Hp) : Hp := fun b => if b = p ∨ ∃ ps, H b = some (.tbl ps) then Option.none else H b
theorem core_sub {p : Addr} {H : Hp} : Same (core p H) H := fun b o e => by
  unfold core at e
  split at e
  · cases e
  · exact e
theorem core_at {p : Addr} {H : Hp} {a : Addr} {o : HO} (h : H a = some o) (n : a ≠ p) (nt : ∀ ps, o ≠ .tbl ps) : core p H a = some o := by
  unfold core
  rw [if_neg]
  · exact h
  · rintro (z | ⟨ps, z⟩)
    · exact n z
    · rw [h] at z
      exact nt ps (Option.some.inj z)
theorem core_of {p : Addr} {H : Hp} {a : Addr} {o : HO} (h : core p H a = some o) : a ≠ p ∧ (∀ ps, o ≠ .tbl ps) ∧ H a = some o := by
  have h2 := core_sub _ _ h
  unfold core at h
  split at h
  · cases h
  · rename_i n
    exact ⟨fun z => n (.inl z), fun ps z => n (.inr ⟨ps, z ▸ h2⟩), h2⟩
theorem core_fr {p : Addr} {H H' : Hp} (e : Fr p H H') : Same (core p H) H' := fun b o q => by
  obtain ⟨q1, _, q3⟩ := core_of q
  exact e b o q1 q3
theorem core_same {p : Addr} {H H' : Hp} (e : Same H H') : Same (core p H) H' := fun b o q => e b o (core_of q).2.2
theorem core_up {p : Addr} {H H' : Hp} (e : Same (core p H) H') : Same (core p H) (core p H') := fun b o q => by
  obtain ⟨q1, q2, _⟩ := core_of q
  exact core_at (e b o q) q1 q2
theorem SqL.same {K : PySem.W.Frag} {H H' : Hp} {a : Addr} {xs : List V} (s : Same H H') (h : SqL K H a xs) : SqL K H' a xs := by
  rcases h with (h | ⟨o, h⟩) | h
  · exact .inl (.inl (s _ _ h))
  · exact .inl (.inr ⟨o, s _ _ h⟩)
  · exact .inr h

/-! ### what the law shows by repr -/
theorem shown_int120 {i : Int} (h : i.natAbs < 10 ^ 120) : (PyData.shown (.int i)).length ≤ 121 := by
  have e := int_text_length_le10 (k := 120) (by decide) h
  show (Str.ofString (toString i)).length ≤ 121
  rw [PySem.ofString_length]; exact e
theorem log_int120 {i : Int} (h : i.natAbs < 10 ^ 120) : i.natAbs.log2 < 399 := by
  by_cases n0 : i.natAbs = 0
  · rw [n0]; decide
  · exact (Nat.log2_lt n0).mpr (Nat.lt_of_lt_of_le h (by decide +kernel))
theorem weight_int120 {i : Int} (h : i.natAbs < 10 ^ 120) : (PyData.int i).weight ≤ 400 := by
  have l := log_int120 h
  simp only [PyData.weight]
  split <;> omega
/-- shown without harm -/
def Fine (n : Nat) (d : PyData) : Prop := d.showable = true ∧ d.leavesShort 121 = true ∧ d.weight ≤ n
theorem Fine.int {i : Int} (h : i.natAbs < 10 ^ 120) : Fine 400 (.int i) := by
  have l := log_int120 h
  refine ⟨?_, ?_, weight_int120 h⟩
  · simp only [PyData.showable, decide_eq_true_eq]; omega
  · simp only [PyData.leavesShort, decide_eq_true_eq]; exact shown_int120 h
def FineAll (n : Nat) (ds : List PyData) : Prop := PyData.showableAll ds = true ∧ PyData.leavesShortAll 121 ds = true ∧ PyData.weightAll ds ≤ n
theorem FineAll.nil : FineAll 0 [] := ⟨rfl, rfl, Nat.le_refl _⟩
theorem FineAll.cons {n m : Nat} {d : PyData} {ds : List PyData} (h : Fine n d) (g : FineAll m ds) : FineAll (n + 1 + m) (d :: ds) := by
  refine ⟨?_, ?_, ?_⟩
  · simp only [PyData.showableAll, h.1, g.1, Bool.and_self]
  · simp only [PyData.leavesShortAll, h.2.1, g.2.1, Bool.and_self]
  · have := h.2.2
    have := g.2.2
    simp only [PyData.weightAll]
    omega
theorem FineAll.tup {n : Nat} {ds : List PyData} (h : FineAll n ds) : Fine n (.tuple ds) :=
  ⟨by simp only [PyData.showable, h.1], by simp only [PyData.leavesShort, h.2.1], by simp only [PyData.weight]; exact h.2.2⟩
theorem Fine.mono {n m : Nat} {d : PyData} (l : n ≤ m) (h : Fine n d) : Fine m d := ⟨h.1, h.2.1, Nat.le_trans h.2.2 l⟩
theorem Fine.size {n : Nat} {d : PyData} (h : Fine n d) (l : n ≤ 10000) : d.shown.length ≤ sizeLine := by
  have z := PyData.shown_le 121 (by decide) d h.2.1
  have h2 : (121 + 2) * d.weight ≤ 123 * 10000 := Nat.mul_le_mul (by omega) (Nat.le_trans h.2.2 l)
  rw [sizeLine_eq]
  omega
theorem fine_runs {rs : List (Int × Int)} (hl : rs.length ≤ 1) (hs : ∀ q ∈ rs, q.1.natAbs < 10 ^ 120 ∧ q.2.natAbs < 10 ^ 120) : Fine 1000 (.tuple (rs.map pairD)) := by
  match rs, hl, hs with
  | [], _, _ => exact FineAll.nil.tup.mono (by decide)
  | [q], _, hs => exact (FineAll.cons (FineAll.cons (Fine.int (hs q List.mem_cons_self).1) (FineAll.cons (Fine.int (hs q List.mem_cons_self).2) FineAll.nil)).tup FineAll.nil).tup.mono (by decide)
  | _ :: _ :: _, h, _ => simp at h
theorem deep_runs {rs : List (Int × Int)} (hl : rs.length ≤ 1) : (PyData.tuple (rs.map pairD)).depth ≤ 2 := by
  match rs, hl with
  | [], _ => decide
  | [q], _ => simp [pairD, PyData.depth, PyData.depthAll]
  | _ :: _ :: _, h => simp at h
def lotD (per : Int) (rs : List (Int × Int)) : PyData := .tuple [.int per, .tuple (rs.map pairD)]
def lotD3 (per : Int) (rs : List (Int × Int)) (z : Int) : PyData := .tuple [.int per, .tuple (rs.map pairD), .int z]
theorem fine_lot {per : Int} {rs : List (Int × Int)} (hl : rs.length ≤ 1) (hs : ∀ q ∈ rs, q.1.natAbs < 10 ^ 120 ∧ q.2.natAbs < 10 ^ 120) (hp : per.natAbs < 10 ^ 120) : (lotD per rs).showable = true ∧ (lotD per rs).depth ≤ 60 ∧ (lotD per rs).shown.length ≤ sizeLine := by
  have f := (FineAll.cons (Fine.int hp) (FineAll.cons (fine_runs hl hs) FineAll.nil)).tup
  have d := deep_runs hl
  refine ⟨f.1, ?_, f.size (by decide)⟩
  simp only [lotD, PyData.depth, PyData.depthAll] at d ⊢
  omega
theorem fine_lot3 {per z : Int} {rs : List (Int × Int)} (hl : rs.length ≤ 1) (hs : ∀ q ∈ rs, q.1.natAbs < 10 ^ 120 ∧ q.2.natAbs < 10 ^ 120) (hp : per.natAbs < 10 ^ 120) (hz : z.natAbs < 10 ^ 120) : (lotD3 per rs z).showable = true ∧ (lotD3 per rs z).depth ≤ 60 ∧ (lotD3 per rs z).shown.length ≤ sizeLine := by
  have f := (FineAll.cons (Fine.int hp) (FineAll.cons (fine_runs hl hs) (FineAll.cons (Fine.int hz) FineAll.nil))).tup
  have d := deep_runs hl
  refine ⟨f.1, ?_, f.size (by decide)⟩
  simp only [lotD3, PyData.depth, PyData.depthAll] at d ⊢
  omega
theorem lot1_len {per : Int} {b e : Int} : (lot1 per [(b, e)]).2.length ≤ 1 := by
  rw [lot1_one]
  split <;> exact Nat.le_refl _
theorem due_lot {p q : Nat} (h0 : 0 < p) : lot1 p [(-(q : Int), (q : Int))] = NM.dueNear p q := by
  rw [lot1_one]
  unfold NM.dueNear
  by_cases h : p ≤ 2 * q + 1
  · rw [if_pos (by omega), if_pos h]
  · rw [if_neg (by omega), if_neg h]
    by_cases z : q = 0
    · subst z
      rfl
    · have e : (-(q : Int)).fmod p = (p : Int) - q := by
        rw [Int.fmod_eq_emod_of_nonneg _ (by omega), ← Int.add_mul_emod_self_left (-(q : Int)) p 1, Int.emod_eq_of_lt (by omega) (by omega)]
        omega
      rw [e, if_neg z]
      congr 3
      omega
theorem due_small {p q : Nat} (hp : p ≤ 1000) (hq : q ≤ 1000) : (NM.dueNear p q).2.length ≤ 1 ∧ (NM.dueNear p q).1.natAbs < 10 ^ 120 ∧ ∀ r ∈ (NM.dueNear p q).2, r.1.natAbs < 10 ^ 120 ∧ r.2.natAbs < 10 ^ 120 := by
  have big : 3000 < 10 ^ 120 := by decide +kernel
  unfold NM.dueNear
  split
  · exact ⟨Nat.le_refl _, by decide +kernel, fun r hr => by rw [List.mem_singleton.mp hr]; decide +kernel⟩
  · refine ⟨Nat.le_refl _, (by show ((p : Int)).natAbs < _; omega), fun r hr => ?_⟩
    rw [List.mem_singleton.mp hr]
    split
    · decide +kernel
    · exact ⟨(by show ((p : Int) - q).natAbs < _; omega), (by show ((p : Int) + q).natAbs < _; omega)⟩
theorem same_drop {H : Hp} {it : Addr} {o : HO} (h : H it = Option.none) : Same H (ItX.dropH (upd H it o) it) := fun b ob e => by
  have n : b ≠ it := ne_of_none e h
  rw [ItX.dropH_ne n, upd_ne n]
  exact e
theorem pairs_same {H H' : Hp} {vs : List V} {rs : List (Int × Int)} (s : Same H H') (h : Pairs K H vs rs) : Pairs K H' vs rs := ⟨h.1, fun i y e => by
  obtain ⟨a, q, e1, e2, e3⟩ := h.2 i y e
  exact ⟨a, q, e1, e2, SqT.same s e3⟩⟩
theorem dpA_runs {H : Hp} {vs : List V} {rs : List (Int × Int)} (h : Pairs K H vs rs) (hl : rs.length ≤ 1) : DpAll K H vs (rs.map pairD) := by
  obtain ⟨h2, h3⟩ := h
  match vs, rs, h2, hl, h3 with
  | [], [], _, _, _ => exact .nil
  | [y], [q], _, _, h3 =>
    obtain ⟨b, q', rfl, e, hb⟩ := h3 0 y rfl
    cases e
    exact .cons (.tup hb (.cons (.int _) (.cons (.int _) .nil))) .nil
  | [], _ :: _, h, _, _ => simp at h
  | _ :: _, [], h, _, _ => simp at h
  | _ :: _ :: _, [_], h, _, _ => simp at h
  | _, _ :: _ :: _, _, h, _ => simp at h
theorem shapedL_runs {rs : List (Int × Int)} (hl : rs.length ≤ 1) : SeqAt.shaped (.list (rs.map pairD)) = true := by
  match rs, hl with
  | [], _ => decide +kernel
  | [q], _ => simp [pairD, SeqAt.shaped, PyData.canLay0, PyData.canLayAll0, PyData.depth, PyData.depthAll]
  | _ :: _ :: _, h => simp at h
theorem eqvL_runs {rs : List (Int × Int)} (hl : rs.length ≤ 1) : PyData.eqv (.list (rs.map pairD)) (.list (rs.map pairD)) = true := by
  match rs, hl with
  | [], _ => decide +kernel
  | [q], _ => simp [pairD, PyData.eqv, PyData.eqvAll]
  | _ :: _ :: _, h => simp at h
theorem ne_str (s : Str) : V.bl (!decide (V.str s = V.str s)) = V.bl false := by rw [decide_eq_true rfl]; rfl
theorem ne_int (i : Int) : V.bl (!decide (V.int i = V.int i)) = V.bl false := by rw [decide_eq_true rfl]; rfl
def spIs (K : PySem.W.Frag) (C : Addr) : Sp := fun vs H Q _ => ∃ (x : Addr) (p q : Nat) (a : Addr), vs = [.ref x, .int p, .ref a] ∧ 0 < p ∧ p ≤ 1000 ∧ q ≤ 1000 ∧ H a = some (.lst ((NM.nears p q).map fun i : Nat => V.int i)) ∧ LotAt K C H x (NM.dueNear p q).1 (NM.dueNear p q).2 ∧ ∀ H', Same H H' → Q (.bl true) H'
theorem ok_is (T : Txt K mg) : FnG P w K mg base CX0 4 T.a_is (spIs K T.a_Lot) := by
  refine FnG.mk0 T.F_is sc_is (b_is T) (fun vs H Q E h => ?_) (fun cdv A outer s H vs Q E gu hr h => ?_)
  · obtain ⟨x, p, q, a, rfl, _⟩ := h; rfl
  · obtain ⟨x, p, q, a, rfl, h0, hp, hq, hS, hL, k⟩ := h
    refine ⟨_, pss_cons (ps_set (i := 3) sc_is.nd rfl (Or.inl rfl) (pe_call (ok_least T) (hr.mono (by decide)) rfl T.m_least T.F_least.kp (b_least T) .nil pass0 (pa_cons (pv 1) (pa_cons (pv 2) (pa_nil)))))
      (pss_cons (ps_if (PW.pt (pw_or (pt_not (pt_val (pe_callB call_isi (by rfl) T.n_isinstance (by decide +kernel) (pa_cons (pv 0) (pa_cons (pe_glob (v := .ref T.a_Lot) rfl T.m_Lot rfl) (pa_nil)))))) (pw_or (pt_cmpR op_ne (pe_callB (call_rep gu hr.units) (by rfl) T.n_repr (by decide +kernel) (pa_cons (pe_tup (pa_cons (pe_fld (pv 0) rfl) (pa_cons (pe_fld (pv 0) rfl) (pa_nil)))) (pa_nil))) (pe_callB (call_rep gu hr.units) (by rfl) T.n_repr (by decide +kernel) (pa_cons (pv 3) (pa_nil))) (nomark _)) (pw_or1 (pt_cmpR op_ne (pe_callB (call_lenO (ok_Lot_len T) (hr.mono (by decide)) (b_Lot_len T) pass0 T.fi_len T.fn_len) (by rfl) T.n_len (by decide +kernel) (pa_cons (pv 0) (pa_nil))) (pe_callB call_len_seq (by rfl) T.n_len (by decide +kernel) (pa_cons (pe_ix ix_tup (pv 3) (pe_int) (fun _ _ => rfl)) (pa_nil))) (nomark _)))))) (pss_one (ps_ret (pe_bl))) (pss_nil))
      (pss_one (ps_ret (pe_and (pe_cmpR op_eq (pe_op op_mul (pe_fld (pv 0) rfl) (pv 1)) (pe_op op_mul (pe_callB call_len_seq (by rfl) T.n_len (by decide +kernel) (pa_cons (pv 2) (pa_nil))) (pe_ix ix_tup (pv 3) (pe_int) (fun _ _ => rfl))) (nomark _)) (pe_one (pe_cmpR (op_eqD hr.units) (pe_lc (own := [("_law_run", 4)]) (g := gName 4) (tt := tYes) rfl sc_is.nd (pi_ownT (pv 0) (ok_Lot_iter T) (hr.mono (by decide)) pass0 T.fi_iter T.fn_iter) (blkOk_by (own := [("_law_run", 4)]) (N := ["_law_lot", "_law_period", "_law_members", "_law_due", "_law_run"]) (sc := defScope s_is) (by decide +kernel)) (fun _ _ _ _ _ => pg_name (i := 4) sc_is.nd rfl (Or.inl rfl)) (fun _ _ _ _ _ => pts_nil) (fun _ _ _ _ _ => pv 4)) (pe_callTy call_list_of (by rfl) T.n_list (by decide +kernel) (pa_cons (pe_ix ix_tup (pv 3) (pe_int) (fun _ _ => rfl)) (pa_nil))) (nomark _))))))), ?_⟩
    refine ⟨_, rfl, _, rfl, p, q, a, rfl, h0, hp, hS, fun t r H1 s1 hT hR => ?_⟩
    have hL1 := hL.same s1
    obtain ⟨dx, b, hx, hB⟩ := hL1
    refine ⟨_, rfl, .ref x, .ref T.a_Lot, .ref T.a_Lot, .ref T.a_Lot, true, rfl, (by constructor), T.ki H1 x dx _ hx, T.kk, true, rfl, ?_⟩
    obtain ⟨l1, lp, lr⟩ := due_small hp hq
    obtain ⟨f1, f2, f3⟩ := fine_lot l1 lr lp
    refine ⟨_, rfl, x, T.a_Lot, dx, _, _, rfl, hx, T.cls, T.na _ (by simp), rfl, _, rfl, x, T.a_Lot, dx, _, _, rfl, hx, T.cls, T.na _ (by simp), rfl, (by show 2 ≤ sizeLine; decide), fun c kc => ?_⟩
    have s2 := same_new (o := .tup [.int (NM.dueNear p q).1, .ref b]) kc
    refine ⟨.ref c, lotD (NM.dueNear p q).1 (NM.dueNear p q).2, rfl, .dp (.tup (SqT.of upd_same) (.cons (.int _) (.cons (dp_runs (hB.same s2) l1) .nil))), f1, f2, .inr f3, ?_⟩
    refine ⟨_, rfl, .ref t, lotD (NM.dueNear p q).1 (NM.dueNear p q).2, rfl, .dp (.tup (SqT.of (s2 _ _ hT)) (.cons (.int _) (.cons (dp_runs (hR.same s2) l1) .nil))), f1, f2, .inr f3, ?_⟩
    generalize (lotD (NM.dueNear p q).1 (NM.dueNear p q).2).shown = sh
    refine ⟨rfl, false, ne_str _, iteF ?_⟩
    have s12 := s1.trans s2
    have hL2 := hL.same s12
    refine ⟨_, rfl, x, dx, _, rfl, s2 _ _ hx, x, _, _, rfl, hL2, ((NM.dueNear p q).2.length : Nat), rfl, by omega, by omega, ?_⟩
    obtain ⟨vr, hvr, hpr⟩ := (hR.same s2)
    have hpr0 : Pairs K _ vr _ := hpr
    refine ⟨_, rfl, t, _, 1, .ref r, rfl, rfl, SqT.of (s2 _ _ hT), rfl, r, vr, rfl, .inr hvr, rfl, false, ?_, iteF ?_⟩
    · rw [hpr.1]; exact ne_int _
    refine ⟨_, rfl, x, T.a_Lot, dx, _, _, rfl, s2 _ _ hx, T.cls, T.na _ (by simp), rfl, ?_⟩
    refine ⟨_, rfl, _, _, rfl, rfl, .inr (by omega), ?_⟩
    refine ⟨_, rfl, a, _, rfl, .inl (SqL.of (s12 _ _ hS)), ?_⟩
    refine ⟨_, rfl, t, _, 0, .int (NM.dueNear p q).1, rfl, rfl, SqT.of (s2 _ _ hT), rfl, ?_⟩
    have ln : (NM.nears p q).length ≤ 1000 := by
      have : (NM.nears p q).length ≤ (List.range p).length := List.length_filter_le _ _
      rw [List.length_range] at this
      omega
    refine ⟨_, _, rfl, rfl, .inl (by rw [List.length_map]; omega), rfl, true, ?_, ?_⟩
    · refine congrArg V.bl (decide_eq_true (congrArg V.int ?_))
      rw [List.length_map]
      exact NM.near_sizes (q := q) h0
    refine ⟨_, rfl, x, dx, _, rfl, s2 _ _ hx, fun n => ?_⟩
    obtain ⟨vb, hvb, hpb⟩ := (hB.same s2)
    have hpb0 : Pairs K _ vb _ := hpb
    refine ⟨x, dx, b, _, _, vb, rfl, s2 _ _ hx, hvb, fun it hit hn => ⟨it, b, rfl, hn, upd_same, fun D hD => ?_⟩⟩
    have s3 := same_drop (o := ItTO b it) hit
    generalize ItX.dropH (upd (upd H1 c (.tup [.int (NM.dueNear p q).1, .ref b])) it (ItTO b it)) it = H4 at s3 hD ⊢
    have lvb : vb.length ≤ 1 := by rw [hpb.1]; exact l1
    refine lc_tup (K := K) (a := b) (xs := vb) (fun i H' => H' = upd H4 D (.lst (vb.take i))) rfl (fun i H' _ e => by rw [e]; exact SqT.same ((s3.trans (same_new hD))) hvb) ?_ ?_
    · rintro i v H' hi rfl
      refine ⟨rfl, _, rfl, ?_⟩
      refine ⟨_, upd_same, (by rw [List.length_take]; exact Nat.lt_of_le_of_lt (Nat.le_trans (Nat.min_le_right _ _) lvb) (by decide)), ?_⟩
      rw [upd_upd, List.take_add_one, hi]
      rfl
    · rintro H' rfl
      rw [List.take_length]
      have s4 := s3.trans (same_new (o := .lst vb) hD)
      refine ⟨_, rfl, t, _, 1, .ref r, rfl, rfl, SqT.of (s4 _ _ (s2 _ _ hT)), rfl, r, vr, rfl, .inr (SqT.same s4 hvr), fun l hl => ?_⟩
      have s5 := same_new (o := .lst vr) hl
      refine ⟨.list ((NM.dueNear p q).2.map pairD), .list ((NM.dueNear p q).2.map pairD), .lst (SqL.of (s5 _ _ upd_same)) (dpA_runs (pairs_same (s4.trans s5) hpb0) l1), .lst (SqL.of upd_same) (dpA_runs (pairs_same (s4.trans s5) hpr0) l1), shapedL_runs l1, shapedL_runs l1, ?_⟩
      refine Eq.mpr (congrArg (fun b => Q (V.bl b) _) (eqvL_runs l1)) ?_
      exact k _ (s12.trans (s4.trans s5))

def gkA (α : Type) : List α → List α → List α
  | [], [a, b] => [b, a]
  | _, _ => []
def gkB (α : Type) : List α → List α → List α
  | [], [a] => [a]
  | _, _ => []
theorem kb_A {fd : FuncData} {p1 p2 k1 k2 : Str} (h : ∀ (a b : Value) (s : Shared), BindsTo s fd ⟨[], [(k1, a), (k2, b)]⟩ [(p1, b), (p2, a)]) : KBinds K fd [p1, p2] [k1, k2] (gkA Value) (gkA V) := by
  refine ⟨fun s us ws _ hl => ?_, fun {vs us zs ws} r rz => ?_⟩
  · match us, ws, hl with
    | [], [a, b], _ => exact h a b s
    | [], [], h => simp [gkA] at h
    | [], [_], h => simp [gkA] at h
    | [], _ :: _ :: _ :: _, h => simp [gkA] at h
    | _ :: _, _, h => simp [gkA] at h
  · match vs, us, zs, ws, r, rz with
    | _, _, _, _, .nil, .nil => exact .nil
    | _, _, _, _, .nil, .cons _ .nil => exact .nil
    | _, _, _, _, .nil, .cons r1 (.cons r2 .nil) => exact .cons r2 (.cons r1 .nil)
    | _, _, _, _, .nil, .cons _ (.cons _ (.cons _ _)) => exact .nil
    | _, _, _, _, .cons _ _, _ => exact .nil
theorem kb_B {fd : FuncData} {p1 k1 : Str} (h : ∀ (a : Value) (s : Shared), BindsTo s fd ⟨[], [(k1, a)]⟩ [(p1, a)]) : KBinds K fd [p1] [k1] (gkB Value) (gkB V) := by
  refine ⟨fun s us ws _ hl => ?_, fun {vs us zs ws} r rz => ?_⟩
  · match us, ws, hl with
    | [], [a], _ => exact h a s
    | [], [], h => simp [gkB] at h
    | [], _ :: _ :: _, h => simp [gkB] at h
    | _ :: _, _, h => simp [gkB] at h
  · match vs, us, zs, ws, r, rz with
    | _, _, _, _, .nil, .nil => exact .nil
    | _, _, _, _, .nil, .cons r1 .nil => exact .cons r1 .nil
    | _, _, _, _, .nil, .cons _ (.cons _ _) => exact .nil
    | _, _, _, _, .cons _ _, _ => exact .nil
theorem kb_Lot_around (T : Txt K mg) : KBinds K T.fd_Lot_around ["period", "play"] ["play", "period"] (gkA Value) (gkA V) := by
  obtain ⟨oc, od, kV, doc, pm, an, cdv, ct, osl, e, lk, hcd⟩ := T.F_Lot_around.ex
  refine kb_A fun a b s => ?_
  rw [e]; exact .of_eq rfl
theorem kb_Lot_multiples (T : Txt K mg) : KBinds K T.fd_Lot_multiples ["n"] ["n"] (gkB Value) (gkB V) := by
  obtain ⟨oc, od, kV, doc, pm, an, cdv, ct, osl, e, lk, hcd⟩ := T.F_Lot_multiples.ex
  refine kb_B fun a s => ?_
  rw [e]; exact .of_eq rfl
theorem rI0_add {i j k : Int} {H : Hp} {Q : VK} (e : i + j = k) (h : Q (.int k) H) : rI0 (fun i j => V.int (i + j)) (.int i) (.int j) H Q := ⟨i, j, rfl, rfl, by show Q (.int (i + j)) H; rw [e]; exact h⟩
theorem same_up {H H' : Hp} {D : Addr} {o : HO} (s : Same H H') (n : H D = Option.none) : Same H (upd H' D o) := fun b ob e => by rw [upd_ne (ne_of_none e n)]; exact s b ob e
def nearI (p q : Nat) (x : Int) : Bool := decide (x % (p : Int) ≤ q ∨ (p : Int) - x % (p : Int) ≤ q)
theorem due_rnd {p q : Nat} (h0 : 0 < p) : NM.Rnd (NM.dueNear p q).1 (NM.dueNear p q).2 := by
  rw [← due_lot h0]
  exact lot1_rnd (by omega) (by omega)
theorem due_mem {p q : Nat} (h0 : 0 < p) {x : Int} {o : Option Int} (h : NM.EndIs (NM.dueNear p q).1 (NM.dueNear p q).2 x o) : o.isSome = nearI p q x := by
  rw [← due_lot h0] at h
  have e := end_some h
  rw [lot1_mem (by omega) (by omega), mem_around (by omega)] at e
  unfold nearI
  rw [Bool.eq_iff_iff, decide_eq_true_iff, e]
  constructor
  · rintro ⟨z, _⟩; exact z
  · intro z; exact ⟨z, by omega⟩
theorem near_min {p q : Nat} (h0 : 0 < p) (x : Int) : decide ((if (0 - x) % (p : Int) < x % (p : Int) then (0 - x) % (p : Int) else x % (p : Int)) ≤ (q : Int)) = nearI p q x := by
  unfold nearI
  rw [decide_eq_decide]
  have n0 := Int.emod_nonneg x (show (p : Int) ≠ 0 by omega)
  have n1 := Int.emod_lt_of_pos x (show 0 < (p : Int) by omega)
  have e : (0 - x) % (p : Int) = if x % (p : Int) = 0 then 0 else (p : Int) - x % (p : Int) := by
    have ed := Int.emod_add_mul_ediv x p
    have e1 : 0 - x = (if x % (p : Int) = 0 then 0 else (p : Int) - x % (p : Int)) + p * (if x % (p : Int) = 0 then -(x / p) else -(x / p) - 1) := by
      split
      · rw [Int.mul_neg]; omega
      · rw [Int.mul_sub, Int.mul_neg]; omega
    rw [e1, Int.add_mul_emod_self_left]
    split
    · exact Int.emod_eq_of_lt (by omega) (by omega)
    · exact Int.emod_eq_of_lt (by omega) (by omega)
  rw [e]
  split <;> split <;> omega
def xsI (t : Nat) : List Int := (List.range t).map fun i : Nat => -40 + (i : Int)
theorem xsI_step {p q t : Nat} : (xsI (t + 1)).filter (nearI p q) = (xsI t).filter (nearI p q) ++ (if nearI p q (-40 + (t : Int)) = true then [-40 + (t : Int)] else []) := by
  unfold xsI
  rw [List.range_succ, List.map_append, List.filter_append]
  congr 1
  show List.filter _ [_] = _
  by_cases h : nearI p q (-40 + (t : Int)) = true
  · rw [List.filter_cons_of_pos h, if_pos h]; rfl
  · rw [List.filter_cons_of_neg h, if_neg h]; rfl
theorem xsI_len {p q t : Nat} (h : t ≤ 81) : ((xsI t).filter (nearI p q)).length < sizeLine := by
  have a : ((xsI t).filter (nearI p q)).length ≤ (xsI t).length := List.length_filter_le _ _
  have b : (xsI t).length = t := by unfold xsI; rw [List.length_map, List.length_range]
  exact Nat.lt_of_le_of_lt (show _ ≤ 81 by omega) (by decide)
theorem eqvAll_selfI : ∀ xs : List Int, PyData.eqvAll (xs.map PyData.int) (xs.map PyData.int) = true
  | [] => by simp [PyData.eqvAll]
  | a :: r => by simp [PyData.eqvAll, PyData.eqv, eqvAll_selfI r]
theorem eqv_selfI (xs : List Int) : PyData.eqv (.list (xs.map PyData.int)) (.list (xs.map PyData.int)) = true := by
  rw [PyData.eqv]; exact eqvAll_selfI xs
theorem due_every {p q : Nat} (h0 : 0 < p) : decide ((NM.dueNear p q).1 = (lot1 1 [(0, 0)]).1 ∧ (NM.dueNear p q).2 = (lot1 1 [(0, 0)]).2) = decide ((p : Int) ≤ 2 * (q : Int) + 1) := by
  rw [decide_eq_decide]
  have e : lot1 1 [(0, 0)] = (1, [(0, 0)]) := by decide
  rw [e]
  unfold NM.dueNear
  split
  · exact ⟨fun _ => by omega, fun _ => ⟨rfl, rfl⟩⟩
  · exact ⟨fun z => by have := z.1; have : (p : Int) = 1 := this; omega, fun z => by omega⟩
theorem ne_bl (b : Bool) : V.bl (!decide (V.bl b = V.bl b)) = V.bl false := by rw [decide_eq_true rfl]; rfl
def spRight : Sp := fun vs H Q _ => ∃ (p : Addr) (n : Nat), vs = [.ref p] ∧ Pen H p n ∧ n < 90000 ∧ ∀ H', Pen H' p (n + 4) → Fr p H H' → Q (.bl true) H'
theorem ok_small_right (T : Txt K mg) : FnG P w K mg base CX0 8 T.a_small_right spRight := by
  refine FnG.mk0 T.F_small_right sc_small_right (b_small_right T) (fun vs H Q E h => ?_) (fun cdv A outer s H vs Q E gu hr h => ?_)
  · obtain ⟨p, n, rfl, _⟩ := h; rfl
  · obtain ⟨pn, n, rfl, hP, hn, k⟩ := h
    refine ⟨_, pss_cons (ps_asg (pe_tup (pa_cons (pe_op op_add (pe_int) (pe_call (ok_draw T) (hr.mono (by decide)) rfl T.m_draw T.F_draw.kp (b_draw T) .nil pass0 (pa_cons (pv 0) (pa_cons (pe_int) (pa_nil))))) (pa_cons (pe_call (ok_draw T) (hr.mono (by decide)) rfl T.m_draw T.F_draw.kp (b_draw T) .nil pass0 (pa_cons (pv 0) (pa_cons (pe_int) (pa_nil)))) (pa_nil)))) (pg_tup rfl (pgs_cons (pg_name (i := 1) sc_small_right.nd rfl (Or.inr rfl)) (pgs_cons (pg_name (i := 2) sc_small_right.nd rfl (Or.inr rfl)) (pgs_nil)))))
      (pss_cons (ps_set (i := 3) sc_small_right.nd rfl (Or.inr rfl) (pe_stat (pe_glob (v := .ref T.a_Lot) rfl T.m_Lot rfl) T.rd T.st_around ((ok_Lot_around T).raw (b_Lot_around T) .nil) (hr.mono (by decide)) pass0 (pa_cons (pv 1) (pa_cons (pv 2) (pa_nil)))))
      (pss_cons (ps_if (pt_not (pt_val (pe_callG gu (ok_is T) (hr.mono (by decide)) T.F_is.kp rfl T.m_is pass0 (pa_cons (pv 3) (pa_cons (pv 1) (pa_cons (pe_lc (own := [("_law_at", 4)]) (g := gName 4) rfl sc_small_right.nd (pi_range1 (by rfl) T.n_range (pa_cons (pv 1) (pa_nil))) (blkOk_by (own := [("_law_at", 4)]) (N := ["_law_pen_here", "_law_period", "_law_play", "_law_made", "_law_at", "_law_near"]) (sc := defScope s_small_right) (by decide +kernel)) (fun _ _ _ _ _ => pg_name (i := 4) sc_small_right.nd rfl (Or.inl rfl)) (fun _ _ _ _ _ => pts_one (pt_cmpR op_le (pe_callB (call_min2 rfl) (by rfl) T.n_min (by decide +kernel) (pa_cons (pv 4) (pa_cons (pe_op op_sub (pv 1) (pv 4)) (pa_nil)))) (pv 2) (nomark _))) (fun _ _ _ _ _ => pv 4)) (pa_nil))))))) (pss_one (ps_ret (pe_bl))) (pss_nil))
      (pss_cons (ps_if (PW.pt (pw_or (pt_cmpR (op_neO (ok_Lot_eq T) (hr.mono (by decide)) (b_Lot_eq T) pass0 T.mro_o T.fi_ne T.fi_eq T.fn_eq) (pe_statK (pe_glob (v := .ref T.a_Lot) rfl T.m_Lot rfl) T.rd T.st_around (ok_Lot_around T) (hr.mono (by decide)) (kb_Lot_around T) pass0 (pk_cons (pv 2) (pk_cons (pv 1) (pk_nil)))) (pv 3) (nomark _)) (pw_or1 (pt_cmpR op_ne (pe_cmpR (op_eqO (ok_Lot_eq T) (hr.mono (by decide)) (b_Lot_eq T) pass0 T.fi_eq T.fn_eq) (pv 3) (pe_stat0 (pe_glob (v := .ref T.a_Lot) rfl T.m_Lot rfl) T.rd T.st_every ((ok_Lot_every T).raw (b_Lot_every T) .nil) (hr.mono (by decide)) pass0) (nomark _)) (pe_cmpR op_ge (pe_op op_add (pe_op op_mul (pe_int) (pv 2)) (pe_int)) (pv 1) (nomark _)) (nomark _))))) (pss_one (ps_ret (pe_bl))) (pss_nil))
      (pss_cons (ps_setLc (i := 5) (own := [("_law_at", 4)]) (g := gName 4) rfl sc_small_right.nd rfl rfl (sw_true rfl rfl rfl (by decide +kernel)) (pi_range2 (by rfl) T.n_range (pa_cons (pe_un un_neg (pe_int)) (pa_cons (pe_int) (pa_nil)))) (blkOk_by (own := [("_law_at", 4)]) (N := ["_law_pen_here", "_law_period", "_law_play", "_law_made", "_law_at", "_law_near"]) (sc := defScope s_small_right) (by decide +kernel)) (fun _ _ _ _ _ => pg_name (i := 4) sc_small_right.nd rfl (Or.inl rfl)) (fun _ _ _ _ _ => pts_one (pt_cmpR (op_inO (ok_Lot_contains T) (hr.mono (by decide)) (b_Lot_contains T) pass0 T.fi_in T.fn_in) (pv 4) (pv 3) rfl)) (fun _ _ _ _ _ => pv 4))
      (pss_one (ps_ret (pe_cmpR (op_eqD hr.units) (pv 5) (pe_lc (own := [("_law_at", 4)]) (g := gName 4) rfl sc_small_right.nd (pi_range2 (by rfl) T.n_range (pa_cons (pe_un un_neg (pe_int)) (pa_cons (pe_int) (pa_nil)))) (blkOk_by (own := [("_law_at", 4)]) (N := ["_law_pen_here", "_law_period", "_law_play", "_law_made", "_law_at", "_law_near"]) (sc := defScope s_small_right) (by decide +kernel)) (fun _ _ _ _ _ => pg_name (i := 4) sc_small_right.nd rfl (Or.inl rfl)) (fun _ _ _ _ _ => pts_one (pt_cmpR op_le (pe_callB (call_min2 rfl) (by rfl) T.n_min (by decide +kernel) (pa_cons (pe_op op_modN (pe_callTy call_int1 (by rfl) T.n_int (by decide +kernel) (pa_cons (pv 4) (pa_nil))) (pv 1)) (pa_cons (pe_op op_modN (pe_callTy call_int1 (by rfl) T.n_int (by decide +kernel) (pa_cons (pe_op op_sub (pe_int) (pv 4)) (pa_nil))) (pv 1)) (pa_nil)))) (pv 2) (nomark _))) (fun _ _ _ _ _ => pv 4)) (nomark _)))))))), ?_⟩
    refine ⟨_, rfl, pn, 30, n, rfl, by decide, by decide, hP, by omega, fun r H1 r0 r1 hP1 f1 => ?_⟩
    obtain ⟨q0, rfl⟩ : ∃ q0 : Nat, r = (q0 : Int) := ⟨r.toNat, by omega⟩
    refine rI0_add (k := ((q0 + 1 : Nat) : Int)) (by omega) ?_
    have hp0 : 0 < q0 + 1 := by omega
    have hp1 : q0 + 1 ≤ 30 := by omega
    generalize q0 + 1 = per at hp0 hp1 ⊢
    refine ⟨_, rfl, pn, 21, n + 1, rfl, by decide, by decide, hP1, by omega, fun u H2 u0 u1 hP2 f2 => ?_⟩
    obtain ⟨q, rfl⟩ : ∃ q : Nat, u = (q : Int) := ⟨u.toNat, by omega⟩
    have hq1 : q ≤ 20 := by omega
    refine ⟨(by show 2 ≤ sizeLine; decide), fun c kc => ?_⟩
    have s3 := same_new (o := .tup [V.int per, V.int q]) kc
    have hP3 := hP2.same s3
    refine ⟨c, _, rfl, SqT.of upd_same, rfl, ?_⟩
    generalize upd H2 c (.tup [V.int per, V.int q]) = H3 at s3 hP3 ⊢
    have f3 := (f1.trans f2).trans (same_fr s3)
    refine ⟨_, _, rfl, _, _, rfl, rfl, ?_⟩
    refine ⟨rfl, _, rfl, _, rfl, per, q, rfl, by omega, by omega, fun x H4 s4 hL4 => ?_⟩
    rw [due_lot hp0] at hL4
    refine ⟨_, rfl, _, rfl, _, rfl, (per : Int), rfl, by omega, by omega, fun L hL => lc_range (lo := 0) (n := ((per : Nat) : Int).toNat) (fun t H' => H' = upd H4 L (.lst ((((List.range t).filter (NM.nearB per q)).map fun i : Nat => V.int i)))) rfl ?_ ?_⟩
    · rintro t H5 ht rfl
      rw [Int.toNat_natCast] at ht
      refine ⟨rfl, ?_⟩
      refine ⟨_, rfl, _, rfl, _, rfl, _, _, rfl, rfl, _, _, rfl, _, rfl, _, _, rfl, rfl, _, rfl, ?_⟩
      have ec : decide ((if (per : Int) - (0 + (t : Int)) < 0 + (t : Int) then (per : Int) - (0 + (t : Int)) else 0 + (t : Int)) ≤ (q : Int)) = NM.nearB per q t := by
        unfold NM.nearB
        rw [decide_eq_decide]
        split <;> omega
      refine ite2 (fun hc => ?_) (fun hc => ?_)
      · rw [ec] at hc
        refine ⟨_, rfl, _, upd_same, ?_, ?_⟩
        · have : ((List.range t).filter (NM.nearB per q)).length ≤ (List.range t).length := List.length_filter_le _ _
          rw [List.length_map]
          rw [List.length_range] at this
          exact Nat.lt_of_lt_of_le (show _ < 1001 by omega) (by decide)
        · rw [upd_upd, List.range_succ, List.filter_append, List.map_append, List.filter_cons_of_pos hc, List.filter_nil, Int.zero_add]
          rfl
      · rw [ec] at hc
        rw [List.range_succ, List.filter_append, List.map_append, List.filter_cons_of_neg hc, List.filter_nil, List.map_nil, List.append_nil]
    · rintro H5 rfl
      rw [Int.toNat_natCast]
      have s5 := s4.trans (same_new (o := .lst (((List.range per).filter (NM.nearB per q)).map fun i : Nat => V.int i)) hL)
      refine ⟨x, per, q, L, rfl, hp0, by omega, by omega, upd_same, hL4.same (same_new hL), fun H6 s6 => ⟨true, rfl, iteF ?_⟩⟩
      have hL6 := hL4.same ((same_new (o := .lst (((List.range per).filter (NM.nearB per q)).map fun i : Nat => V.int i)) hL).trans s6)
      have s36 := s5.trans s6
      generalize upd H4 L (.lst (((List.range per).filter (NM.nearB per q)).map fun i : Nat => V.int i)) = H5 at s6
      obtain ⟨l1, lp, lr⟩ := due_small (p := per) (q := q) (by omega) (by omega)
      refine ⟨rfl, _, rfl, _, rfl, per, q, rfl, by omega, by omega, fun y H7 s7 hL7 => ?_⟩
      rw [due_lot hp0] at hL7
      have hL7x := hL6.same s7
      obtain ⟨dy, ay, hy, hAy⟩ := id hL7
      obtain ⟨dx, ax, hx, hAx⟩ := id hL7x
      refine ⟨_, rfl, y, x, dy, dx, _, _, rfl, rfl, hy, hx, y, x, _, _, _, _, rfl, hL7, hL7x, l1, l1, true, congrArg V.bl (decide_eq_true ⟨rfl, rfl⟩), _, rfl, iteF ?_⟩
      refine ⟨_, rfl, rfl, rfl, fun z H8 s8 hL8 => ?_⟩
      have hL8x := hL7x.same s8
      obtain ⟨dz, az, hz, hAz⟩ := id hL8
      obtain ⟨dx, ax, hx, hAx⟩ := id hL8x
      refine ⟨x, z, dx, dz, _, _, rfl, rfl, hx, hz, x, z, _, _, _, _, rfl, hL8x, hL8, l1, (by decide), _, rfl, ?_⟩
      refine ⟨_, rfl, _, _, rfl, rfl, .inl (by decide), _, _, rfl, rfl, _, rfl, _, _, rfl, rfl, rfl, false, ?_, iteF ?_⟩
      · show V.bl (!decide (V.bl _ = V.bl (decide ((per : Int) ≤ 2 * (q : Int) + 1)))) = _
        rw [due_every hp0]
        exact ne_bl _
      refine ⟨40, rfl, -40, 41, rfl, ⟨by decide, by decide, by decide, by decide⟩, fun D hD => lc_range (lo := -40) (n := ((41 : Int) - (-40)).toNat) (fun t H' => Same H8 H' ∧ H' D = some (.lst (((xsI t).filter (nearI per q)).map V.int))) ⟨same_new hD, upd_same⟩ ?_ ?_⟩
      · rintro t H9 ht ⟨s9, hD9⟩
        have ht : t < 81 := ht
        refine ⟨rfl, ?_⟩
        obtain ⟨dx, ax, hx, hAx⟩ := id (hL8x.same s9)
        refine ⟨_, rfl, _, rfl, x, dx, _, rfl, hx, x, _, _, _, rfl, hL8x.same s9, due_rnd hp0, l1, fun o H10 s10 ho => ⟨_, rfl, ?_⟩⟩
        rw [due_mem hp0 ho]
        refine ⟨_, rfl, ?_⟩
        refine ite2 (fun hc => ?_) (fun hc => ?_)
        · refine ⟨_, rfl, _, s10 _ _ hD9, by rw [List.length_map]; exact xsI_len (Nat.le_of_lt ht), same_up (s9.trans s10) hD, ?_⟩
          rw [upd_same, xsI_step, if_pos hc, List.map_append]
          rfl
        · refine ⟨s9.trans s10, ?_⟩
          rw [s10 _ _ hD9, xsI_step, if_neg hc, List.append_nil]
      · rintro H9 ⟨s9, hD9⟩
        refine ⟨_, rfl, 40, rfl, -40, 41, rfl, ⟨by decide, by decide, by decide, by decide⟩, fun D2 hD2 => lc_range (lo := -40) (n := ((41 : Int) - (-40)).toNat) (fun t H' => H' = upd H9 D2 (.lst (((xsI t).filter (nearI per q)).map V.int))) rfl ?_ ?_⟩
        · rintro t H10 ht rfl
          have ht : t < 81 := ht
          refine ⟨rfl, ?_⟩
          refine ⟨_, rfl, .inl ⟨_, rfl, _, rfl, _, _, rfl, rfl, (by omega), _, rfl, _, _, rfl, rfl, .inl ⟨_, rfl, _, rfl, _, _, rfl, rfl, (by omega), _, _, rfl, _, rfl, _, _, rfl, rfl, _, rfl, ?_⟩⟩⟩
          have ec : decide ((if (0 - (-40 + (t : Int))).fmod (per : Int) < (-40 + (t : Int)).fmod (per : Int) then (0 - (-40 + (t : Int))).fmod (per : Int) else (-40 + (t : Int)).fmod (per : Int)) ≤ (q : Int)) = nearI per q (-40 + (t : Int)) := by
            rw [Int.fmod_eq_emod_of_nonneg _ (by omega), Int.fmod_eq_emod_of_nonneg _ (by omega)]
            exact near_min hp0 _
          refine ite2 (fun hc => ?_) (fun hc => ?_)
          · rw [ec] at hc
            refine ⟨_, rfl, _, upd_same, by rw [List.length_map]; exact xsI_len (Nat.le_of_lt ht), ?_⟩
            rw [upd_upd, xsI_step, if_pos hc, List.map_append]
            rfl
          · rw [ec] at hc
            rw [xsI_step, if_neg hc, List.append_nil]
        · rintro H10 rfl
          have s10 := same_new (o := .lst (((xsI 81).filter (nearI per q)).map V.int)) hD2
          refine ⟨.list (((xsI 81).filter (nearI per q)).map PyData.int), .list (((xsI 81).filter (nearI per q)).map PyData.int), .lst (SqL.of (s10 _ _ hD9)) (dp_ints _), .lst (SqL.of upd_same) (dp_ints _), PySem.W.ke_shaped_ints _, PySem.W.ke_shaped_ints _, ?_⟩
          refine Eq.mpr (congrArg (fun b => Q (V.bl b) _) (eqv_selfI _)) ?_
          have sF := (((s36.trans s7).trans s8).trans s9).trans s10
          exact k _ ((hP3.same sF).mono (by omega)) (f3.trans (same_fr sF))

theorem lot_near {per q : Int} (h : per ≤ 2 * q + 1) : lot1 per [(-q, q)] = (1, [(0, 0)]) := by
  rw [lot1_one, if_pos (by omega)]
theorem lot_far {per q : Int} (h0 : 0 < per) (q0 : 0 ≤ q) (h : ¬ per ≤ 2 * q + 1) : lot1 per [(-q, q)] = (per, [if 0 < q then (per - q, per + q) else (0, 0)]) := by
  rw [lot1_one, if_neg (by omega)]
  by_cases z : 0 < q
  · have e : (-q).fmod per = per - q := by
      rw [Int.fmod_eq_emod_of_nonneg _ (by omega), ← Int.add_mul_emod_self_left (-q) per 1, Int.emod_eq_of_lt (by omega) (by omega)]
      omega
    rw [e, if_pos z]
    congr 3
    omega
  · have : q = 0 := by omega
    subst this
    rw [if_neg z]
    have e : (-(0 : Int)).fmod per = 0 := by rw [Int.neg_zero, Int.zero_fmod]
    rw [e]
    rfl
theorem far_rnd {per q : Int} {rs : List (Int × Int)} (h0 : 0 < per) (q0 : 0 ≤ q) (hrs : lot1 per [(-q, q)] = (per, rs)) : NM.Rnd per rs := by
  have := lot1_rnd (per := per) (b := -q) (e := q) h0 (by omega)
  rw [hrs] at this
  exact this
theorem far_mem {per q x : Int} {rs : List (Int × Int)} {o : Option Int} (h0 : 0 < per) (q0 : 0 ≤ q) (hrs : lot1 per [(-q, q)] = (per, rs)) (ho : NM.EndIs per rs x o) : o.isSome = true ↔ (x % per ≤ q ∨ per - x % per ≤ q) := by
  have h : NM.EndIs (lot1 per [(-q, q)]).1 (lot1 per [(-q, q)]).2 x o := by rw [hrs]; exact ho
  rw [end_some h, lot1_mem h0 (by omega), mem_around h0]
  exact ⟨fun z => z.1, fun z => ⟨z, q0⟩⟩
theorem neg_near {per q : Int} (h0 : 0 < per) (q0 : 0 ≤ q) (hc : ¬ per ≤ 2 * q + 1) : (0 - q) % per ≤ q ∨ per - (0 - q) % per ≤ q := by
  by_cases z : q = 0
  · subst z
    left
    rw [Int.sub_zero, Int.zero_emod]
    exact Int.le_refl _
  · right
    have e : (0 - q) % per = per - q := by
      rw [← Int.add_mul_emod_self_left (0 - q) per 1, Int.emod_eq_of_lt (by omega) (by omega)]
      omega
    omega
theorem not_some {o : Option Int} (h : ¬ o.isSome = true) : (!o.isSome) = true := by
  cases o with
  | none => rfl
  | some _ => exact absurd rfl h
theorem ok_great_right (T : Txt K mg) : FnG P w K mg base CX0 8 T.a_great_right spRight := by
  refine FnG.mk0 T.F_great_right sc_great_right (b_great_right T) (fun vs H Q E h => ?_) (fun cdv A outer s H vs Q E gu hr h => ?_)
  · obtain ⟨p, n, rfl, _⟩ := h; rfl
  · obtain ⟨pn, n, rfl, hP, hn, k⟩ := h
    refine ⟨_, pss_cons (ps_set (i := 1) sc_great_right.nd rfl (Or.inl rfl) (pe_call (ok_pick T) (hr.mono (by decide)) rfl T.m_pick T.F_pick.kp (b_pick T) .nil pass0 (pa_cons (pv 0) (pa_cons (pe_lst (pa_cons (pe_op op_mulW (pe_op op_pow (pe_int) (pe_int)) (pe_op op_pow (pe_int) (pe_int))) (pa_cons (pe_op op_pow (pe_int) (pe_int)) (pa_cons (pe_op op_add (pe_op op_pow (pe_int) (pe_int)) (pe_int)) (pa_cons (pe_op op_pow (pe_int) (pe_int)) (pa_cons (pe_op op_add (pe_op op_pow (pe_int) (pe_int)) (pe_call (ok_draw T) (hr.mono (by decide)) rfl T.m_draw T.F_draw.kp (b_draw T) .nil pass0 (pa_cons (pv 0) (pa_cons (pe_op op_pow (pe_int) (pe_int)) (pa_nil))))) (pa_nil))))))) (pa_nil)))))
      (pss_cons (ps_set (i := 2) sc_great_right.nd rfl (Or.inl rfl) (pe_call (ok_pick T) (hr.mono (by decide)) rfl T.m_pick T.F_pick.kp (b_pick T) .nil pass0 (pa_cons (pv 0) (pa_cons (pe_lst (pa_cons (pe_int) (pa_cons (pe_int) (pa_cons (pe_call (ok_draw T) (hr.mono (by decide)) rfl T.m_draw T.F_draw.kp (b_draw T) .nil pass0 (pa_cons (pv 0) (pa_cons (pe_op op_pow (pe_int) (pe_int)) (pa_nil)))) (pa_cons (pe_op op_fdivW (pe_op op_sub (pv 1) (pe_int)) (pe_int)) (pa_cons (pe_op op_fdivW (pe_op op_sub (pv 1) (pe_int)) (pe_int)) (pa_cons (pv 1) (pa_cons (pe_op op_mulW (pe_op op_pow (pe_int) (pe_int)) (pe_op op_pow (pe_int) (pe_int))) (pa_nil))))))))) (pa_nil)))))
      (pss_cons (ps_set (i := 3) sc_great_right.nd rfl (Or.inl rfl) (pe_stat (pe_glob (v := .ref T.a_Lot) rfl T.m_Lot rfl) T.rd T.st_around ((ok_Lot_around T).raw (b_Lot_around T) .nil) (hr.mono (by decide)) pass0 (pa_cons (pv 1) (pa_cons (pv 2) (pa_nil)))))
      (pss_cons (ps_if (pt_cmpR op_ge (pe_op op_add (pe_op op_mulW (pe_int) (pv 2)) (pe_int)) (pv 1) (nomark _)) (pss_one (ps_ret (pe_and (pe_cmpR (op_eqO (ok_Lot_eq T) (hr.mono (by decide)) (b_Lot_eq T) pass0 T.fi_eq T.fn_eq) (pv 3) (pe_stat0 (pe_glob (v := .ref T.a_Lot) rfl T.m_Lot rfl) T.rd T.st_every ((ok_Lot_every T).raw (b_Lot_every T) .nil) (hr.mono (by decide)) pass0) (nomark _)) (pe_one (pe_cmpR op_eq (pe_fld (pv 3) rfl) (pe_int) (nomark _)))))) (pss_nil))
      (pss_cons (ps_set (i := 4) sc_great_right.nd rfl (Or.inl rfl) (pe_ifExp (pt_cmpR op_gt (pv 2) (pe_int) (nomark _)) (pe_tup (pa_cons (pe_tup (pa_cons (pe_op op_sub (pv 1) (pv 2)) (pa_cons (pe_op op_add (pv 1) (pv 2)) (pa_nil)))) (pa_nil))) (pe_tup (pa_cons (pe_tup (pa_cons (pe_int) (pa_cons (pe_int) (pa_nil)))) (pa_nil)))))
      (pss_cons (ps_if (pt_cmpR op_ne (pe_callB (call_rep gu hr.units) (by rfl) T.n_repr (by decide +kernel) (pa_cons (pe_tup (pa_cons (pe_fld (pv 3) rfl) (pa_cons (pe_fld (pv 3) rfl) (pa_cons (pe_fld (pv 3) rfl) (pa_nil))))) (pa_nil))) (pe_callB (call_rep gu hr.units) (by rfl) T.n_repr (by decide +kernel) (pa_cons (pe_tup (pa_cons (pv 1) (pa_cons (pv 4) (pa_cons (pe_op op_add (pe_op op_mulW (pe_int) (pv 2)) (pe_int)) (pa_nil))))) (pa_nil))) (nomark _)) (pss_one (ps_ret (pe_bl))) (pss_nil))
      (pss_one (ps_ret (pe_and (pe_cmpR (op_inO (ok_Lot_contains T) (hr.mono (by decide)) (b_Lot_contains T) pass0 T.fi_in T.fn_in) (pv 2) (pv 3) rfl) (pe_and (pe_cmpR (op_inO (ok_Lot_contains T) (hr.mono (by decide)) (b_Lot_contains T) pass0 T.fi_in T.fn_in) (pe_op op_sub (pe_int) (pv 2)) (pv 3) rfl) (pe_and (pe_cmpR (op_notInO (ok_Lot_contains T) (hr.mono (by decide)) (b_Lot_contains T) pass0 T.fi_in T.fn_in) (pe_op op_add (pv 2) (pe_int)) (pv 3) rfl) (pe_one (pe_cmpR (op_notInO (ok_Lot_contains T) (hr.mono (by decide)) (b_Lot_contains T) pass0 T.fi_in T.fn_in) (pe_op op_sub (pe_op op_sub (pv 1) (pv 2)) (pe_int)) (pv 3) rfl)))))))))))), ?_⟩
    refine ⟨_, rfl, ?_⟩
    refine ⟨_, _, rfl, rfl, ⟨by decide, by decide, by decide⟩, ?_⟩
    refine ⟨_, _, rfl, rfl, ⟨by decide, by decide, by decide⟩, _, _, rfl, rfl, wide_mul (a := 200) (b := 200) (by decide +kernel) (by decide +kernel) (by decide) (by decide) (by decide), ?_⟩
    refine ⟨_, _, rfl, rfl, ⟨by decide, by decide, by decide⟩, ?_⟩
    refine ⟨_, _, rfl, rfl, ⟨by decide, by decide, by decide⟩, _, _, rfl, rfl, ?_⟩
    refine ⟨_, _, rfl, rfl, ⟨by decide, by decide, by decide⟩, ?_⟩
    refine ⟨_, _, rfl, rfl, ⟨by decide, by decide, by decide⟩, _, rfl, _, _, rfl, rfl, ⟨by decide, by decide, by decide⟩, ?_⟩
    refine ⟨pn, _, n, rfl, by decide +kernel, by decide +kernel, hP, by omega, fun r H1 r0 r1 hP1 f1 => ?_⟩
    refine ⟨_, _, rfl, rfl, (by show 5 ≤ sizeLine; decide), fun l hl => ?_⟩
    have hl0 := hP1.neq hl
    refine ⟨pn, l, _, n + 1, rfl, SqL.of upd_same, hl0, (by show 0 < 5; decide), (by show 5 < 1000000; decide), hP1.same (same_new hl), by omega, fun x H2 hx hP2 f2 => ?_⟩
    obtain ⟨per, rfl, p0, p1⟩ : ∃ per : Int, x = .int per ∧ 1000 ≤ per ∧ per ≤ 10 ^ 100 := by
      simp only [List.mem_cons, List.not_mem_nil, or_false] at hx
      rcases hx with e | e | e | e | e
      · exact ⟨_, e, by decide +kernel, by decide +kernel⟩
      · exact ⟨_, e, by decide +kernel, by decide +kernel⟩
      · exact ⟨_, e, by decide +kernel, by decide +kernel⟩
      · exact ⟨_, e, by decide +kernel, by decide +kernel⟩
      · refine ⟨_, e, ?_, ?_⟩
        · have : (10 : Int) ^ (6 : Int).toNat = 1000000 := by decide +kernel
          omega
        · have : (10 : Int) ^ (6 : Int).toNat = 1000000 := by decide +kernel
          have b : (2000000 : Int) ≤ 10 ^ 100 := by decide +kernel
          rw [this] at r1
          have r1 : r < 1000000 := r1
          rw [this]
          omega
    have hb : ∀ z : Int, z.natAbs ≤ 10 ^ 100 → z.natAbs < 2 ^ 400 := fun z hz => Nat.lt_of_le_of_lt hz (by decide +kernel)
    refine ⟨_, rfl, ?_⟩
    refine ⟨_, rfl, _, _, rfl, rfl, ⟨by decide, by decide, by decide⟩, ?_⟩
    refine ⟨pn, _, n + 1 + 1, rfl, by decide +kernel, by decide +kernel, hP2, by omega, fun r3 H3 r30 r31 hP3 f3 => ?_⟩
    refine ⟨_, rfl, _, _, rfl, rfl, ?_⟩
    refine ⟨_, _, rfl, rfl, ⟨by decide, by decide⟩, ?_⟩
    refine ⟨_, rfl, _, _, rfl, rfl, _, _, rfl, rfl, ⟨by decide, by decide⟩, ?_⟩
    refine ⟨_, rfl, ?_⟩
    refine ⟨_, _, rfl, rfl, ⟨by decide, by decide, by decide⟩, _, _, rfl, rfl, ⟨by decide, by decide, by decide⟩, _, _, rfl, rfl, wide_mul (a := 300) (b := 300) (by decide +kernel) (by decide +kernel) (by decide) (by decide) (by decide), ?_⟩
    refine ⟨(by show 7 ≤ sizeLine; decide), fun l2 hl2 => ?_⟩
    have hl20 := hP3.neq hl2
    refine ⟨pn, l2, _, n + 1 + 1 + 1, rfl, SqL.of upd_same, hl20, (by show 0 < 7; decide), (by show 7 < 1000000; decide), hP3.same (same_new hl2), by omega, fun y H4 hy hP4 f4 => ?_⟩
    obtain ⟨q, rfl, q0, q1⟩ : ∃ q : Int, y = .int q ∧ 0 ≤ q ∧ q ≤ 10 ^ 110 := by
      have big : (10 : Int) ^ 100 ≤ 10 ^ 110 := by decide +kernel
      simp only [List.mem_cons, List.not_mem_nil, or_false] at hy
      rcases hy with e | e | e | e | e | e | e
      · exact ⟨_, e, by decide +kernel, by decide +kernel⟩
      · exact ⟨_, e, by decide +kernel, by decide +kernel⟩
      · refine ⟨_, e, r30, ?_⟩
        have : (10 : Int) ^ (5 : Int).toNat = 100000 := by decide +kernel
        rw [this] at r31
        have b : (100000 : Int) ≤ 10 ^ 110 := by decide +kernel
        omega
      · exact ⟨_, e, by omega, by omega⟩
      · exact ⟨_, e, by omega, by omega⟩
      · exact ⟨_, e, by omega, by omega⟩
      · exact ⟨_, e, by decide +kernel, by decide +kernel⟩
    have f5 : Fr pn H H4 := by
      refine ((f1.trans ((same_fr (same_new hl)).trans f2)).trans f3).trans ((same_fr (same_new hl2)).trans f4)
    refine ⟨rfl, _, rfl, _, rfl, per, q, rfl, by omega, q0, fun z H5 s5 hL => ?_⟩
    have hqb : q.natAbs < 2 ^ 400 := Nat.lt_of_le_of_lt (show q.natAbs ≤ 10 ^ 110 by omega) (by decide +kernel)
    refine ⟨_, rfl, _, _, rfl, rfl, wide_mul (a := 10) (b := 400) (by decide) hqb (by decide) (by decide) (by decide), _, _, rfl, rfl, _, rfl, _, _, rfl, rfl, _, rfl, ite2 (fun hc => ?_) (fun hc => ?_)⟩
    · have hc : per ≤ 2 * q + 1 := of_decide_eq_true hc
      rw [lot_near hc] at hL
      obtain ⟨dz, az, hz, hAz⟩ := id hL
      refine ⟨_, rfl, rfl, rfl, fun e H6 s6 hLe => ?_⟩
      obtain ⟨de, ae, he, hAe⟩ := id hLe
      refine ⟨z, e, dz, de, _, _, rfl, rfl, s6 _ _ hz, he, z, e, _, _, _, _, rfl, hL.same s6, hLe, by decide, by decide, true, congrArg V.bl (decide_eq_true (by decide)), true, rfl, ?_⟩
      refine ⟨_, rfl, z, T.a_Lot, dz, _, _, rfl, s6 _ _ hz, T.cls, T.na _ (by simp), rfl, rfl, ?_⟩
      exact k _ ((hP4.same (s5.trans s6)).mono (by omega)) (f5.trans (same_fr (s5.trans s6)))
    · have hc : ¬ per ≤ 2 * q + 1 := of_decide_eq_false (Bool.eq_false_iff.mpr hc)
      have hfar := lot_far (by omega) q0 hc
      rw [hfar] at hL
      have b120 : (10 : Int) ^ 110 + 10 ^ 110 + 1 < 10 ^ 120 ∧ ((10 : Int) ^ 100) ≤ 10 ^ 110 ∧ ((10 ^ 120 : Nat) : Int) = 10 ^ 120 := ⟨by decide +kernel, by decide +kernel, by decide +kernel⟩
      refine ⟨_, rfl, _, _, rfl, rfl, _, rfl, ite2 (fun hq => ?_) (fun hq => ?_)⟩
      · have hq : 0 < q := of_decide_eq_true hq
        rw [if_pos hq] at hL hfar
        refine ⟨_, rfl, _, rfl, _, _, rfl, rfl, _, rfl, _, rfl, _, _, rfl, rfl, (by show 2 ≤ sizeLine; decide), fun b hb => ⟨(by show 1 ≤ sizeLine; decide), fun a ha => ?_⟩⟩
        have s6 := (same_new (o := .tup [.int (per - q), .int (per + q)]) hb).trans (same_new (o := .tup [.ref b]) ha)
        have hRa := runsT_one (K := K) (q := (per - q, per + q)) (show (upd (upd H5 b (.tup [.int (per - q), .int (per + q)])) a (.tup [.ref b])) a = _ from upd_same) (same_new ha _ _ upd_same)
        have hL5 := hL.same s6
        have hrs := hfar
        generalize upd (upd H5 b (.tup [.int (per - q), .int (per + q)])) a (.tup [.ref b]) = H6 at s6 hRa hL5 ⊢
        obtain ⟨dz, az, hz, hAz⟩ := id hL5
        have et : total [(per - q, per + q)] = 2 * q + 1 := by show ((per + q) - (per - q) + 1) + 0 = _; omega
        rw [et] at hz
        have l1 : ([(per - q, per + q)] : List (Int × Int)).length ≤ 1 := Nat.le_refl _
        obtain ⟨g1, g2, g3⟩ := fine_lot3 (per := per) (z := 2 * q + 1) (rs := [(per - q, per + q)]) l1 (fun w hw => by rw [List.mem_singleton.mp hw]; exact ⟨by have := b120; show ((per - q)).natAbs < _; omega, by have := b120; show ((per + q)).natAbs < _; omega⟩) (by have := b120; omega) (by have := b120; omega)
        refine ⟨_, rfl, z, T.a_Lot, dz, _, _, rfl, hz, T.cls, T.na _ (by simp), rfl, _, rfl, z, T.a_Lot, dz, _, _, rfl, hz, T.cls, T.na _ (by simp), rfl, _, rfl, z, T.a_Lot, dz, _, _, rfl, hz, T.cls, T.na _ (by simp), rfl, (by show 3 ≤ sizeLine; decide), fun c kc => ?_⟩
        have s7 := same_new (o := .tup [.int per, .ref az, .int (2 * q + 1)]) kc
        refine ⟨.ref c, lotD3 per [(per - q, per + q)] (2 * q + 1), rfl, .dp (.tup (SqT.of upd_same) (.cons (.int _) (.cons (dp_runs (hAz.same s7) l1) (.cons (.int _) .nil)))), g1, g2, .inr g3, ?_⟩
        refine ⟨_, rfl, _, rfl, _, rfl, _, _, rfl, rfl, wide_mul (a := 10) (b := 400) (by decide) hqb (by decide) (by decide) (by decide), _, _, rfl, rfl, (by show 3 ≤ sizeLine; decide), fun c2 kc2 => ?_⟩
        have s8 := same_new (o := .tup [.int per, .ref a, .int (2 * q + 1)]) kc2
        refine ⟨.ref c2, lotD3 per [(per - q, per + q)] (2 * q + 1), rfl, .dp (.tup (SqT.of upd_same) (.cons (.int _) (.cons (dp_runs (hRa.same (s7.trans s8)) l1) (.cons (.int _) .nil)))), g1, g2, .inr g3, ?_⟩
        generalize (lotD3 per [(per - q, per + q)] (2 * q + 1)).shown = sh
        refine ⟨rfl, false, ne_str _, iteF ?_⟩
        have s78 := s7.trans s8
        have hL8 := hL5.same s78
        have hz8 := s78 _ _ hz
        generalize upd (upd H6 c (.tup [.int per, .ref az, .int (2 * q + 1)])) c2 (.tup [.int per, .ref a, .int (2 * q + 1)]) = H8 at s78 hL8 hz8
        refine ⟨_, rfl, _, rfl, z, dz, _, rfl, hz8, z, _, _, _, rfl, hL8, far_rnd (by omega) q0 hrs, l1, fun o1 H9 s9 ho1 => ⟨_, rfl, true, congrArg V.bl ((far_mem (by omega) q0 hrs ho1).mpr (.inl (by rw [Int.emod_eq_of_lt (by omega) (by omega)]; omega))), ?_⟩⟩
        refine ⟨_, rfl, _, _, rfl, rfl, _, rfl, z, dz, _, rfl, s9 _ _ hz8, z, _, _, _, rfl, hL8.same s9, far_rnd (by omega) q0 hrs, l1, fun o2 H10 s10 ho2 => ⟨_, rfl, true, congrArg V.bl ((far_mem (by omega) q0 hrs ho2).mpr (neg_near (by omega) q0 hc)), ?_⟩⟩
        refine ⟨_, rfl, _, _, rfl, rfl, _, rfl, z, dz, _, rfl, s10 _ _ (s9 _ _ hz8), z, _, _, _, rfl, (hL8.same s9).same s10, far_rnd (by omega) q0 hrs, l1, fun o3 H11 s11 ho3 => ⟨_, rfl, true, congrArg V.bl (not_some fun e => by
          have := (far_mem (by omega) q0 hrs ho3).mp e
          rw [Int.emod_eq_of_lt (by omega) (by omega)] at this
          omega), ?_⟩⟩
        refine ⟨_, rfl, _, rfl, _, _, rfl, rfl, _, _, rfl, rfl, _, rfl, z, dz, _, rfl, s11 _ _ (s10 _ _ (s9 _ _ hz8)), z, _, _, _, rfl, ((hL8.same s9).same s10).same s11, far_rnd (by omega) q0 hrs, l1, fun o4 H12 s12 ho4 => ⟨_, rfl, ?_⟩⟩
        have e4 : (!o4.isSome) = true := not_some fun e => by
          have := (far_mem (by omega) q0 hrs ho4).mp e
          rw [Int.emod_eq_of_lt (by omega) (by omega)] at this
          omega
        rw [e4]
        have sF := s5.trans (s6.trans (s78.trans (s9.trans (s10.trans (s11.trans s12)))))
        exact k _ ((hP4.same sF).mono (by omega)) (f5.trans (same_fr sF))
      · have hq : ¬ 0 < q := of_decide_eq_false (Bool.eq_false_iff.mpr hq)
        rw [if_neg hq] at hL hfar
        refine ⟨(by show 2 ≤ sizeLine; decide), fun b hb => ⟨(by show 1 ≤ sizeLine; decide), fun a ha => ?_⟩⟩
        have s6 := (same_new (o := .tup [.int 0, .int 0]) hb).trans (same_new (o := .tup [.ref b]) ha)
        have hRa := runsT_one (K := K) (q := (0, 0)) (show (upd (upd H5 b (.tup [.int 0, .int 0])) a (.tup [.ref b])) a = _ from upd_same) (same_new ha _ _ upd_same)
        have hL5 := hL.same s6
        have hrs := hfar
        generalize upd (upd H5 b (.tup [.int 0, .int 0])) a (.tup [.ref b]) = H6 at s6 hRa hL5 ⊢
        obtain ⟨dz, az, hz, hAz⟩ := id hL5
        have et : total [(0, 0)] = 2 * q + 1 := by show ((0 : Int) - (0 : Int) + 1) + 0 = _; omega
        rw [et] at hz
        have l1 : ([(0, 0)] : List (Int × Int)).length ≤ 1 := Nat.le_refl _
        obtain ⟨g1, g2, g3⟩ := fine_lot3 (per := per) (z := 2 * q + 1) (rs := [(0, 0)]) l1 (fun w hw => by rw [List.mem_singleton.mp hw]; exact ⟨by have := b120; show ((0 : Int)).natAbs < _; omega, by have := b120; show ((0 : Int)).natAbs < _; omega⟩) (by have := b120; omega) (by have := b120; omega)
        refine ⟨_, rfl, z, T.a_Lot, dz, _, _, rfl, hz, T.cls, T.na _ (by simp), rfl, _, rfl, z, T.a_Lot, dz, _, _, rfl, hz, T.cls, T.na _ (by simp), rfl, _, rfl, z, T.a_Lot, dz, _, _, rfl, hz, T.cls, T.na _ (by simp), rfl, (by show 3 ≤ sizeLine; decide), fun c kc => ?_⟩
        have s7 := same_new (o := .tup [.int per, .ref az, .int (2 * q + 1)]) kc
        refine ⟨.ref c, lotD3 per [(0, 0)] (2 * q + 1), rfl, .dp (.tup (SqT.of upd_same) (.cons (.int _) (.cons (dp_runs (hAz.same s7) l1) (.cons (.int _) .nil)))), g1, g2, .inr g3, ?_⟩
        refine ⟨_, rfl, _, rfl, _, rfl, _, _, rfl, rfl, wide_mul (a := 10) (b := 400) (by decide) hqb (by decide) (by decide) (by decide), _, _, rfl, rfl, (by show 3 ≤ sizeLine; decide), fun c2 kc2 => ?_⟩
        have s8 := same_new (o := .tup [.int per, .ref a, .int (2 * q + 1)]) kc2
        refine ⟨.ref c2, lotD3 per [(0, 0)] (2 * q + 1), rfl, .dp (.tup (SqT.of upd_same) (.cons (.int _) (.cons (dp_runs (hRa.same (s7.trans s8)) l1) (.cons (.int _) .nil)))), g1, g2, .inr g3, ?_⟩
        generalize (lotD3 per [(0, 0)] (2 * q + 1)).shown = sh
        refine ⟨rfl, false, ne_str _, iteF ?_⟩
        have s78 := s7.trans s8
        have hL8 := hL5.same s78
        have hz8 := s78 _ _ hz
        generalize upd (upd H6 c (.tup [.int per, .ref az, .int (2 * q + 1)])) c2 (.tup [.int per, .ref a, .int (2 * q + 1)]) = H8 at s78 hL8 hz8
        refine ⟨_, rfl, _, rfl, z, dz, _, rfl, hz8, z, _, _, _, rfl, hL8, far_rnd (by omega) q0 hrs, l1, fun o1 H9 s9 ho1 => ⟨_, rfl, true, congrArg V.bl ((far_mem (by omega) q0 hrs ho1).mpr (.inl (by rw [Int.emod_eq_of_lt (by omega) (by omega)]; omega))), ?_⟩⟩
        refine ⟨_, rfl, _, _, rfl, rfl, _, rfl, z, dz, _, rfl, s9 _ _ hz8, z, _, _, _, rfl, hL8.same s9, far_rnd (by omega) q0 hrs, l1, fun o2 H10 s10 ho2 => ⟨_, rfl, true, congrArg V.bl ((far_mem (by omega) q0 hrs ho2).mpr (neg_near (by omega) q0 hc)), ?_⟩⟩
        refine ⟨_, rfl, _, _, rfl, rfl, _, rfl, z, dz, _, rfl, s10 _ _ (s9 _ _ hz8), z, _, _, _, rfl, (hL8.same s9).same s10, far_rnd (by omega) q0 hrs, l1, fun o3 H11 s11 ho3 => ⟨_, rfl, true, congrArg V.bl (not_some fun e => by
          have := (far_mem (by omega) q0 hrs ho3).mp e
          rw [Int.emod_eq_of_lt (by omega) (by omega)] at this
          omega), ?_⟩⟩
        refine ⟨_, rfl, _, rfl, _, _, rfl, rfl, _, _, rfl, rfl, _, rfl, z, dz, _, rfl, s11 _ _ (s10 _ _ (s9 _ _ hz8)), z, _, _, _, rfl, ((hL8.same s9).same s10).same s11, far_rnd (by omega) q0 hrs, l1, fun o4 H12 s12 ho4 => ⟨_, rfl, ?_⟩⟩
        have e4 : (!o4.isSome) = true := not_some fun e => by
          have := (far_mem (by omega) q0 hrs ho4).mp e
          rw [Int.emod_eq_of_lt (by omega) (by omega)] at this
          omega
        rw [e4]
        have sF := s5.trans (s6.trans (s78.trans (s9.trans (s10.trans (s11.trans s12)))))
        exact k _ ((hP4.same sF).mono (by omega)) (f5.trans (same_fr sF))

def spLaw (K : PySem.W.Frag) : Sp := fun vs H Q _ => ∃ (a : Addr) (ns : List Int), vs = [.ref a] ∧ SqL K H a (ns.map V.int) ∧ ns.length ≤ 63 ∧ ∀ H', Q (.bl true) H'
theorem lot_mult {n : Int} (h : 2 ≤ n) : lot1 n [(0, 0)] = (n, [(0, 0)]) := by
  have := lot_far (per := n) (q := 0) (by omega) (Int.le_refl _) (by omega)
  exact this
theorem every_lot : lot1 1 [(0, 0)] = (1, [(0, 0)]) := by decide
theorem five_lot : lot1 5 [(-2, 2)] = (1, [(0, 0)]) := by decide
theorem six_lot : lot1 6 [(-2, 2)] = (6, [(4, 8)]) := by decide
theorem none_lot : lot1 1 [] = (1, []) := by decide
def toldD : PyData := .list [.int 1, .tuple ([(0, 0)].map pairD), .int 1, .int 1, .tuple (([] : List (Int × Int)).map pairD), .int 0]
theorem ok_law (T : Txt K mg) : FnG P w K mg base CX0 9 T.a_law (spLaw K) := by
  refine FnG.mk0 T.F_law sc_law (b_law T) (fun vs H Q E h => ?_) (fun cdv A outer s H vs Q E gu hr h => ?_)
  · obtain ⟨a, ns, rfl, _⟩ := h; rfl
  · obtain ⟨a, ns, rfl, hS, hl, k⟩ := h
    refine ⟨_, pss_cons (ps_set (i := 1) sc_law.nd rfl (Or.inl rfl) (pe_call (ok_pen T) (hr.mono (by decide)) rfl T.m_pen T.F_pen.kp (b_pen T) .nil pass0 (pa_cons (pv 0) (pa_nil))))
      (pss_cons (ps_for PassesOwn.never rfl (pi_range1 (by rfl) T.n_range (pa_cons (pe_int) (pa_nil))) (pg_name (i := 2) sc_law.nd rfl (Or.inl rfl)) (pss_cons (ps_if (PW.pt (pw_or (pt_not (pt_val (pe_callG gu (ok_small_right T) (hr.mono (by decide)) T.F_small_right.kp rfl T.m_small_right pass0 (pa_cons (pv 1) (pa_nil))))) (pw_or1 (pt_not (pt_val (pe_callG gu (ok_great_right T) (hr.mono (by decide)) T.F_great_right.kp rfl T.m_great_right pass0 (pa_cons (pv 1) (pa_nil)))))))) (pss_one (ps_ret (pe_bl))) (pss_nil))
      (pss_cons (ps_set (i := 3) sc_law.nd rfl (Or.inl rfl) (pe_op op_add (pe_int) (pe_call (ok_draw T) (hr.mono (by decide)) rfl T.m_draw T.F_draw.kp (b_draw T) .nil pass0 (pa_cons (pv 1) (pa_cons (pe_op op_pow (pe_int) (pe_int)) (pa_nil))))))
      (pss_one (ps_if (pt_cmpR op_ne (pe_callB (call_rep gu hr.units) (by rfl) T.n_repr (by decide +kernel) (pa_cons (pe_tup (pa_cons (pe_fld (pe_stat (pe_glob (v := .ref T.a_Lot) rfl T.m_Lot rfl) T.rd T.st_multiples ((ok_Lot_multiples T).raw (b_Lot_multiples T) .nil) (hr.mono (by decide)) pass0 (pa_cons (pv 3) (pa_nil))) rfl) (pa_cons (pe_fld (pe_statK (pe_glob (v := .ref T.a_Lot) rfl T.m_Lot rfl) T.rd T.st_multiples (ok_Lot_multiples T) (hr.mono (by decide)) (kb_Lot_multiples T) pass0 (pk_cons (pv 3) (pk_nil))) rfl) (pa_nil)))) (pa_nil))) (pe_callB (call_rep gu hr.units) (by rfl) T.n_repr (by decide +kernel) (pa_cons (pe_tup (pa_cons (pv 3) (pa_cons (pe_tup (pa_cons (pe_tup (pa_cons (pe_int) (pa_cons (pe_int) (pa_nil)))) (pa_nil))) (pa_nil)))) (pa_nil))) (nomark _)) (pss_one (ps_ret (pe_bl))) (pss_nil))))))
      (pss_cons (ps_set (i := 4) sc_law.nd rfl (Or.inl rfl) (pe_lst (pa_cons (pe_fld (pe_stat0 (pe_glob (v := .ref T.a_Lot) rfl T.m_Lot rfl) T.rd T.st_every ((ok_Lot_every T).raw (b_Lot_every T) .nil) (hr.mono (by decide)) pass0) rfl) (pa_cons (pe_fld (pe_stat0 (pe_glob (v := .ref T.a_Lot) rfl T.m_Lot rfl) T.rd T.st_every ((ok_Lot_every T).raw (b_Lot_every T) .nil) (hr.mono (by decide)) pass0) rfl) (pa_cons (pe_fld (pe_stat0 (pe_glob (v := .ref T.a_Lot) rfl T.m_Lot rfl) T.rd T.st_every ((ok_Lot_every T).raw (b_Lot_every T) .nil) (hr.mono (by decide)) pass0) rfl) (pa_cons (pe_fld (pe_stat0 (pe_glob (v := .ref T.a_Lot) rfl T.m_Lot rfl) T.rd T.st_none ((ok_Lot_none T).raw (b_Lot_none T) .nil) (hr.mono (by decide)) pass0) rfl) (pa_cons (pe_fld (pe_stat0 (pe_glob (v := .ref T.a_Lot) rfl T.m_Lot rfl) T.rd T.st_none ((ok_Lot_none T).raw (b_Lot_none T) .nil) (hr.mono (by decide)) pass0) rfl) (pa_cons (pe_fld (pe_stat0 (pe_glob (v := .ref T.a_Lot) rfl T.m_Lot rfl) T.rd T.st_none ((ok_Lot_none T).raw (b_Lot_none T) .nil) (hr.mono (by decide)) pass0) rfl) (pa_nil)))))))))
      (pss_cons (ps_if (PW.pt (pw_or (pt_cmpR op_ne (pe_callB (call_rep gu hr.units) (by rfl) T.n_repr (by decide +kernel) (pa_cons (pv 4) (pa_nil))) (pe_callB (call_rep gu hr.units) (by rfl) T.n_repr (by decide +kernel) (pa_cons (pe_lst (pa_cons (pe_int) (pa_cons (pe_tup (pa_cons (pe_tup (pa_cons (pe_int) (pa_cons (pe_int) (pa_nil)))) (pa_nil))) (pa_cons (pe_int) (pa_cons (pe_int) (pa_cons (pe_tup (pa_nil)) (pa_cons (pe_int) (pa_nil)))))))) (pa_nil))) (nomark _)) (pw_or (pt_cmpR (op_neO (ok_Lot_eq T) (hr.mono (by decide)) (b_Lot_eq T) pass0 T.mro_o T.fi_ne T.fi_eq T.fn_eq) (pe_stat (pe_glob (v := .ref T.a_Lot) rfl T.m_Lot rfl) T.rd T.st_multiples ((ok_Lot_multiples T).raw (b_Lot_multiples T) .nil) (hr.mono (by decide)) pass0 (pa_cons (pe_int) (pa_nil))) (pe_stat0 (pe_glob (v := .ref T.a_Lot) rfl T.m_Lot rfl) T.rd T.st_every ((ok_Lot_every T).raw (b_Lot_every T) .nil) (hr.mono (by decide)) pass0) (nomark _)) (pw_or1 (pt_cmpR op_ne (ClX.pe_cval (pe_glob (v := .ref T.a_Lot) rfl T.m_Lot rfl)) (pe_int) (nomark _)))))) (pss_one (ps_ret (pe_bl))) (pss_nil))
      (pss_one (ps_ret (pe_and (pe_callTy (call_boolO (ok_Lot_len T) (hr.mono (by decide)) (b_Lot_len T) pass0 T.fi_bool T.fi_len T.fn_len) (by rfl) T.n_bool (by decide +kernel) (pa_cons (pe_stat0 (pe_glob (v := .ref T.a_Lot) rfl T.m_Lot rfl) T.rd T.st_every ((ok_Lot_every T).raw (b_Lot_every T) .nil) (hr.mono (by decide)) pass0) (pa_nil))) (pe_and (pe_notT (tru_lenO (ok_Lot_len T) (hr.mono (by decide)) (b_Lot_len T) pass0 T.fi_bool T.fi_len T.fn_len) (pe_stat0 (pe_glob (v := .ref T.a_Lot) rfl T.m_Lot rfl) T.rd T.st_none ((ok_Lot_none T).raw (b_Lot_none T) .nil) (hr.mono (by decide)) pass0)) (pe_and (pe_cmpR (op_eqO (ok_Lot_eq T) (hr.mono (by decide)) (b_Lot_eq T) pass0 T.fi_eq T.fn_eq) (pe_stat (pe_glob (v := .ref T.a_Lot) rfl T.m_Lot rfl) T.rd T.st_around ((ok_Lot_around T).raw (b_Lot_around T) .nil) (hr.mono (by decide)) pass0 (pa_cons (pe_int) (pa_cons (pe_int) (pa_nil)))) (pe_stat0 (pe_glob (v := .ref T.a_Lot) rfl T.m_Lot rfl) T.rd T.st_every ((ok_Lot_every T).raw (b_Lot_every T) .nil) (hr.mono (by decide)) pass0) (nomark _)) (pe_one (pe_cmpR (op_eqD hr.units) (pe_fld (pe_stat (pe_glob (v := .ref T.a_Lot) rfl T.m_Lot rfl) T.rd T.st_around ((ok_Lot_around T).raw (b_Lot_around T) .nil) (hr.mono (by decide)) pass0 (pa_cons (pe_int) (pa_cons (pe_int) (pa_nil)))) rfl) (pe_tup (pa_cons (pe_tup (pa_cons (pe_int) (pa_cons (pe_int) (pa_nil)))) (pa_nil))) (nomark _))))))))))), ?_⟩
    refine ⟨_, rfl, a, ns, rfl, hS, hl, fun p H1 s1 hP => ?_⟩
    refine ⟨10, rfl, by decide, by decide, for_range (n := 10) (fun i σ H' => ∃ x2 x3 x4 : Option V, σ = [some (.ref a), some (.ref p), x2, x3, x4] ∧ Pen H' p (9 * i))
      ⟨_, _, _, rfl, hP⟩ ?_ ?_⟩
    · rintro i σ H2 hi ⟨x2, x3, x4, rfl, hP2⟩
      refine ⟨_, rfl, p, 9 * i, rfl, hP2, by omega, fun H3 hP3 f3 => ⟨true, rfl, iteF ?_⟩⟩
      refine ⟨_, rfl, p, 9 * i + 4, rfl, hP3, by omega, fun H4 hP4 f4 => ⟨true, rfl, iteF ?_⟩⟩
      refine ⟨_, rfl, _, _, rfl, rfl, ⟨by decide, by decide, by decide⟩, ?_⟩
      refine ⟨p, _, 9 * i + 4 + 4, rfl, by decide +kernel, by decide +kernel, hP4, by omega, fun r H5 r0 r1 hP5 f5 => ?_⟩
      have r1 : r < 1000000000 := by
        have e : (10 : Int) ^ (9 : Int).toNat = 1000000000 := by decide +kernel
        rw [e] at r1
        exact r1
      refine rI0_add (k := 2 + r) rfl ?_
      have n0 : 2 ≤ 2 + r := by omega
      have n1 : 2 + r < 1000000002 := by omega
      generalize 2 + r = N at n0 n1 ⊢
      have b120 : (1000000002 : Int) < 10 ^ 120 ∧ ((10 ^ 120 : Nat) : Int) = 10 ^ 120 := ⟨by decide +kernel, by decide +kernel⟩
      have l1 : ([(0, 0)] : List (Int × Int)).length ≤ 1 := Nat.le_refl _
      obtain ⟨g1, g2, g3⟩ := fine_lot (per := N) (rs := [(0, 0)]) l1 (fun w hw => by rw [List.mem_singleton.mp hw]; decide +kernel) (by omega)
      refine ⟨rfl, _, rfl, N, rfl, by omega, fun x H6 s6 hL6 => ?_⟩
      rw [lot_mult n0] at hL6
      obtain ⟨dx, ax, hx, hAx⟩ := id hL6
      refine ⟨x, T.a_Lot, dx, _, _, rfl, hx, T.cls, T.na _ (by simp), rfl, rfl, _, rfl, N, rfl, by omega, fun y H7 s7 hL7 => ?_⟩
      rw [lot_mult n0] at hL7
      obtain ⟨dy, ay, hy, hAy⟩ := id hL7
      refine ⟨y, T.a_Lot, dy, _, _, rfl, hy, T.cls, T.na _ (by simp), rfl, (by show 2 ≤ sizeLine; decide), fun c kc => ?_⟩
      have s8 := same_new (o := .tup [.int N, .ref ay]) kc
      refine ⟨.ref c, lotD N [(0, 0)], rfl, .dp (.tup (SqT.of upd_same) (.cons (.int _) (.cons (dp_runs (hAy.same s8) l1) .nil))), g1, g2, .inr g3, ?_⟩
      generalize upd H7 c (.tup [.int N, .ref ay]) = H8 at s8 ⊢
      refine ⟨_, rfl, (by show 2 ≤ sizeLine; decide), fun c1 k1 => ⟨(by show 1 ≤ sizeLine; decide), fun c2 k2 => ⟨(by show 2 ≤ sizeLine; decide), fun c3 k3 => ?_⟩⟩⟩
      have t1 := same_new (o := .tup [.int 0, .int 0]) k1
      have t2 := same_new (o := .tup [.ref c1]) k2
      have t3 := same_new (o := .tup [.int N, .ref c2]) k3
      have hR := (runsT_one (K := K) (q := (0, 0)) (show (upd (upd H8 c1 (.tup [.int 0, .int 0])) c2 (.tup [.ref c1])) c2 = _ from upd_same) (t2 _ _ upd_same)).same t3
      refine ⟨.ref c3, lotD N [(0, 0)], rfl, .dp (.tup (SqT.of upd_same) (.cons (.int _) (.cons (dp_runs hR l1) .nil))), g1, g2, .inr g3, ?_⟩
      generalize (lotD N [(0, 0)]).shown = sh
      refine ⟨rfl, false, ne_str _, iteF ?_⟩
      have sF := s6.trans (s7.trans (s8.trans (t1.trans (t2.trans t3))))
      exact ⟨_, _, _, rfl, (hP5.same sF).mono (by omega)⟩
    · rintro σ H2 ⟨x2, x3, x4, rfl, hP2⟩
      refine ⟨rfl, rfl, fun e1 G1 u1 hL1 => ?_⟩
      have hL1 : LotAt K T.a_Lot G1 e1 1 [(0, 0)] := by rw [every_lot] at hL1; exact hL1
      obtain ⟨d1, a1, h1, hA1⟩ := id hL1
      refine ⟨e1, T.a_Lot, d1, _, _, rfl, h1, T.cls, T.na _ (by simp), rfl, ?_⟩
      refine ⟨rfl, rfl, fun e2 G2 u2 hL2 => ?_⟩
      have hL2 : LotAt K T.a_Lot G2 e2 1 [(0, 0)] := by rw [every_lot] at hL2; exact hL2
      obtain ⟨d2, a2, h2, hA2⟩ := id hL2
      refine ⟨e2, T.a_Lot, d2, _, _, rfl, h2, T.cls, T.na _ (by simp), rfl, ?_⟩
      refine ⟨rfl, rfl, fun e3 G3 u3 hL3 => ?_⟩
      have hL3 : LotAt K T.a_Lot G3 e3 1 [(0, 0)] := by rw [every_lot] at hL3; exact hL3
      obtain ⟨d3, a3, h3, hA3⟩ := id hL3
      refine ⟨e3, T.a_Lot, d3, _, _, rfl, h3, T.cls, T.na _ (by simp), rfl, ?_⟩
      refine ⟨rfl, rfl, fun e4 G4 u4 hL4 => ?_⟩
      have hL4 : LotAt K T.a_Lot G4 e4 1 [] := by rw [none_lot] at hL4; exact hL4
      obtain ⟨d4, a4, h4, hA4⟩ := id hL4
      refine ⟨e4, T.a_Lot, d4, _, _, rfl, h4, T.cls, T.na _ (by simp), rfl, ?_⟩
      refine ⟨rfl, rfl, fun e5 G5 u5 hL5 => ?_⟩
      have hL5 : LotAt K T.a_Lot G5 e5 1 [] := by rw [none_lot] at hL5; exact hL5
      obtain ⟨d5, a5, h5, hA5⟩ := id hL5
      refine ⟨e5, T.a_Lot, d5, _, _, rfl, h5, T.cls, T.na _ (by simp), rfl, ?_⟩
      refine ⟨rfl, rfl, fun e6 G6 u6 hL6 => ?_⟩
      have hL6 : LotAt K T.a_Lot G6 e6 1 [] := by rw [none_lot] at hL6; exact hL6
      obtain ⟨d6, a6, h6, hA6⟩ := id hL6
      refine ⟨e6, T.a_Lot, d6, _, _, rfl, h6, T.cls, T.na _ (by simp), rfl, (by show 6 ≤ sizeLine; decide), fun l kl => ?_⟩
      have v1 := same_new (o := .lst [.int 1, .ref a2, .int (total [(0, 0)]), .int 1, .ref a5, .int (total [])]) kl
      have hl : (upd G6 l (.lst [.int 1, .ref a2, .int (total [(0, 0)]), .int 1, .ref a5, .int (total [])])) l = _ := upd_same
      have hA2 : RunsT K _ a2 [(0, 0)] := ((((hA2.same u3).same u4).same u5).same u6).same v1
      have hA5 : RunsT K _ a5 [] := (hA5.same u6).same v1
      have l1 : ([(0, 0)] : List (Int × Int)).length ≤ 1 := Nat.le_refl _
      have l0 : ([] : List (Int × Int)).length ≤ 1 := Nat.zero_le _
      generalize upd G6 l (.lst [.int 1, .ref a2, .int (total [(0, 0)]), .int 1, .ref a5, .int (total [])]) = G7 at v1 hl hA2 hA5 ⊢
      have big : (toldD).showable = true ∧ (toldD).depth ≤ 60 ∧ (toldD).shown.length ≤ sizeLine := ⟨by decide +kernel, by decide +kernel, by decide +kernel⟩
      refine ⟨_, rfl, .ref l, toldD, rfl, .dp (.lst (SqL.of hl) (.cons (.int _) (.cons (dp_runs hA2 l1) (.cons (.int _) (.cons (.int _) (.cons (dp_runs hA5 l0) (.cons (.int _) .nil))))))), big.1, big.2.1, .inr big.2.2, ?_⟩
      refine ⟨(by show 2 ≤ sizeLine; decide), fun c1 k1 => ⟨(by show 1 ≤ sizeLine; decide), fun c2 k2 => ⟨(by show 0 ≤ sizeLine; decide), fun c3 k3 => ⟨(by show 6 ≤ sizeLine; decide), fun l2 kl2 => ?_⟩⟩⟩⟩
      have t1 := same_new (o := .tup [.int 0, .int 0]) k1
      have t2 := same_new (o := .tup [.ref c1]) k2
      have t3 := same_new (o := .tup []) k3
      have t4 := same_new (o := .lst [.int 1, .ref c2, .int 1, .int 1, .ref c3, .int 0]) kl2
      have hB2 := (runsT_one (K := K) (q := (0, 0)) (show (upd (upd G7 c1 (.tup [.int 0, .int 0])) c2 (.tup [.ref c1])) c2 = _ from upd_same) (t2 _ _ upd_same)).same (t3.trans t4)
      have hB5 : RunsT K _ c3 [] := ⟨[], SqT.of (t4 _ _ upd_same), rfl, fun i y e => by simp at e⟩
      refine ⟨.ref l2, toldD, rfl, .dp (.lst (SqL.of upd_same) (.cons (.int _) (.cons (dp_runs hB2 l1) (.cons (.int _) (.cons (.int _) (.cons (dp_runs hB5 l0) (.cons (.int _) .nil))))))), big.1, big.2.1, .inr big.2.2, ?_⟩
      have v2 := t1.trans (t2.trans (t3.trans t4))
      generalize toldD.shown = sh
      refine ⟨rfl, false, ne_str _, iteF ?_⟩
      generalize upd (upd (upd (upd G7 c1 (.tup [.int 0, .int 0])) c2 (.tup [.ref c1])) c3 (.tup [])) l2 (.lst [.int 1, .ref c2, .int 1, .int 1, .ref c3, .int 0]) = G8 at v2 ⊢
      refine ⟨rfl, 1, rfl, by decide, fun f1 G9 w1 hM1 => ?_⟩
      have hM1 : LotAt K T.a_Lot G9 f1 1 [(0, 0)] := by rw [every_lot] at hM1; exact hM1
      refine ⟨rfl, rfl, fun f2 G10 w2 hM2 => ?_⟩
      have hM2 : LotAt K T.a_Lot G10 f2 1 [(0, 0)] := by rw [every_lot] at hM2; exact hM2
      have hM1 := hM1.same w2
      obtain ⟨m1, b1, hm1, hN1⟩ := id hM1
      obtain ⟨m2, b2, hm2, hN2⟩ := id hM2
      refine ⟨f1, f2, m1, m2, _, _, rfl, rfl, hm1, hm2, f1, f2, _, _, _, _, rfl, hM1, hM2, l1, l1, true, congrArg V.bl (decide_eq_true ⟨rfl, rfl⟩), _, rfl, iteF ?_⟩
      refine ⟨T.a_Lot, _, .int 2000, T.u_CM, rfl, T.rd, T.cv_MOST, rfl, false, ne_int _, iteF ?_⟩
      refine ⟨rfl, rfl, fun f3 G11 w3 hM3 => ?_⟩
      have hM3 : LotAt K T.a_Lot G11 f3 1 [(0, 0)] := by rw [every_lot] at hM3; exact hM3
      obtain ⟨m3, b3, hm3, hN3⟩ := id hM3
      refine ⟨f3, m3, _, rfl, hm3, f3, _, _, rfl, hM3, 1, rfl, by decide, by decide, true, rfl, ?_⟩
      refine ⟨rfl, rfl, fun f4 G12 w4 hM4 => ?_⟩
      have hM4 : LotAt K T.a_Lot G12 f4 1 [] := by rw [none_lot] at hM4; exact hM4
      obtain ⟨m4, b4, hm4, hN4⟩ := id hM4
      refine ⟨f4, m4, _, rfl, hm4, f4, _, _, rfl, hM4, 0, rfl, by decide, by decide, true, rfl, ?_⟩
      refine ⟨rfl, 5, 2, rfl, by decide, by decide, fun f5 G13 w5 hM5 => ?_⟩
      have hM5 : LotAt K T.a_Lot G13 f5 1 [(0, 0)] := by rw [five_lot] at hM5; exact hM5
      refine ⟨rfl, rfl, fun f6 G14 w6 hM6 => ?_⟩
      have hM6 : LotAt K T.a_Lot G14 f6 1 [(0, 0)] := by rw [every_lot] at hM6; exact hM6
      have hM5 := hM5.same w6
      obtain ⟨m5, b5, hm5, hN5⟩ := id hM5
      obtain ⟨m6, b6, hm6, hN6⟩ := id hM6
      refine ⟨f5, f6, m5, m6, _, _, rfl, rfl, hm5, hm6, f5, f6, _, _, _, _, rfl, hM5, hM6, l1, l1, true, congrArg V.bl (decide_eq_true ⟨rfl, rfl⟩), true, rfl, ?_⟩
      refine ⟨rfl, 6, 2, rfl, by decide, by decide, fun f7 G15 w7 hM7 => ?_⟩
      have hM7 : LotAt K T.a_Lot G15 f7 6 [(4, 8)] := by rw [six_lot] at hM7; exact hM7
      obtain ⟨m7, b7, hm7, hN7⟩ := id hM7
      refine ⟨f7, T.a_Lot, m7, _, _, rfl, hm7, T.cls, T.na _ (by simp), rfl, ?_⟩
      refine ⟨(by show 2 ≤ sizeLine; decide), fun c4 k4 => ⟨(by show 1 ≤ sizeLine; decide), fun c5 k5 => ?_⟩⟩
      have l8 : ([(4, 8)] : List (Int × Int)).length ≤ 1 := Nat.le_refl _
      have x4 := same_new (o := .tup [.int 4, .int 8]) k4
      have x5 := same_new (o := .tup [.ref c4]) k5
      have hB8 := runsT_one (K := K) (q := (4, 8)) (show (upd (upd G15 c4 (.tup [.int 4, .int 8])) c5 (.tup [.ref c4])) c5 = _ from upd_same) (x5 _ _ upd_same)
      refine ⟨.tuple ([(4, 8)].map pairD), .tuple ([(4, 8)].map pairD), dp_runs (hN7.same (x4.trans x5)) l8, dp_runs hB8 l8, shaped_runs l8, shaped_runs l8, ?_⟩
      refine Eq.mpr (congrArg (fun b => Q (V.bl b) _) (eqv_runs l8 l8)) ?_
      exact k _


end
theorem all_mk {l : PySem.W.OpenLaw} {w : World} {K : PySem.W.Frag} {h : Heap} {mg : Str → Option Value} {fa : Addr} (X : K.In h) (G : h.Ns mainGlobals mg) (hfa : mg "law" = some (.ref fa)) (tabs : ∀ x ∈ ([] : List Str), TabOf K mg h x)
    {f_is_whole : Addr} {od_is_whole an_is_whole : Option Addr} {sl_is_whole : Array (Option Value)} {oc_is_whole kV_is_whole dc_is_whole pm_is_whole cd_is_whole ct_is_whole : Value}
    {f_is_from : Addr} {od_is_from an_is_from : Option Addr} {sl_is_from : Array (Option Value)} {oc_is_from kV_is_from dc_is_from pm_is_from cd_is_from ct_is_from : Value}
    {f_is_run : Addr} {od_is_run an_is_run : Option Addr} {sl_is_run : Array (Option Value)} {oc_is_run kV_is_run dc_is_run pm_is_run cd_is_run ct_is_run : Value}
    {f_is_full : Addr} {od_is_full an_is_full : Option Addr} {sl_is_full : Array (Option Value)} {oc_is_full kV_is_full dc_is_full pm_is_full cd_is_full ct_is_full : Value}
    {f_size_of : Addr} {od_size_of an_size_of : Option Addr} {sl_size_of : Array (Option Value)} {oc_size_of kV_size_of dc_size_of pm_size_of cd_size_of ct_size_of : Value}
    {f_round_of : Addr} {od_round_of an_round_of : Option Addr} {sl_round_of : Array (Option Value)} {oc_round_of kV_round_of dc_round_of pm_round_of cd_round_of ct_round_of : Value}
    {f_closed : Addr} {od_closed an_closed : Option Addr} {sl_closed : Array (Option Value)} {oc_closed kV_closed dc_closed pm_closed cd_closed ct_closed : Value}
    {f_least_form : Addr} {od_least_form an_least_form : Option Addr} {sl_least_form : Array (Option Value)} {oc_least_form kV_least_form dc_least_form pm_least_form cd_least_form ct_least_form : Value}
    {f_begun : Addr} {od_begun an_begun : Option Addr} {sl_begun : Array (Option Value)} {oc_begun kV_begun dc_begun pm_begun cd_begun ct_begun : Value}
    {f_end_behind : Addr} {od_end_behind an_end_behind : Option Addr} {sl_end_behind : Array (Option Value)} {oc_end_behind kV_end_behind dc_end_behind pm_end_behind cd_end_behind ct_end_behind : Value}
    {f_next_member : Addr} {od_next_member an_next_member : Option Addr} {sl_next_member : Array (Option Value)} {oc_next_member kV_next_member dc_next_member pm_next_member cd_next_member ct_next_member : Value}
    {f_form_of : Addr} {od_form_of an_form_of : Option Addr} {sl_form_of : Array (Option Value)} {oc_form_of kV_form_of dc_form_of pm_form_of cd_form_of ct_form_of : Value}
    {f_pen : Addr} {od_pen an_pen : Option Addr} {sl_pen : Array (Option Value)} {oc_pen kV_pen dc_pen pm_pen cd_pen ct_pen : Value}
    {f_draw : Addr} {od_draw an_draw : Option Addr} {sl_draw : Array (Option Value)} {oc_draw kV_draw dc_draw pm_draw cd_draw ct_draw : Value}
    {f_pick : Addr} {od_pick an_pick : Option Addr} {sl_pick : Array (Option Value)} {oc_pick kV_pick dc_pick pm_pick cd_pick ct_pick : Value}
    {f_least : Addr} {od_least an_least : Option Addr} {sl_least : Array (Option Value)} {oc_least kV_least dc_least pm_least cd_least ct_least : Value}
    {f_is : Addr} {od_is an_is : Option Addr} {sl_is : Array (Option Value)} {oc_is kV_is dc_is pm_is cd_is ct_is : Value}
    {f_small_right : Addr} {od_small_right an_small_right : Option Addr} {sl_small_right : Array (Option Value)} {oc_small_right kV_small_right dc_small_right pm_small_right cd_small_right ct_small_right : Value}
    {f_great_right : Addr} {od_great_right an_great_right : Option Addr} {sl_great_right : Array (Option Value)} {oc_great_right kV_great_right dc_great_right pm_great_right cd_great_right ct_great_right : Value}
    {f_law : Addr} {od_law an_law : Option Addr} {sl_law : Array (Option Value)} {oc_law kV_law dc_law pm_law cd_law ct_law : Value}
    {f_Lot_init : Addr} {od_Lot_init an_Lot_init : Option Addr} {sl_Lot_init : Array (Option Value)} {oc_Lot_init kV_Lot_init dc_Lot_init pm_Lot_init cd_Lot_init ct_Lot_init : Value}
    {f_Lot_every : Addr} {od_Lot_every an_Lot_every : Option Addr} {sl_Lot_every : Array (Option Value)} {oc_Lot_every kV_Lot_every dc_Lot_every pm_Lot_every cd_Lot_every ct_Lot_every : Value}
    {p_Lot_every : Addr}
    {f_Lot_none : Addr} {od_Lot_none an_Lot_none : Option Addr} {sl_Lot_none : Array (Option Value)} {oc_Lot_none kV_Lot_none dc_Lot_none pm_Lot_none cd_Lot_none ct_Lot_none : Value}
    {p_Lot_none : Addr}
    {f_Lot_around : Addr} {od_Lot_around an_Lot_around : Option Addr} {sl_Lot_around : Array (Option Value)} {oc_Lot_around kV_Lot_around dc_Lot_around pm_Lot_around cd_Lot_around ct_Lot_around : Value}
    {p_Lot_around : Addr}
    {f_Lot_multiples : Addr} {od_Lot_multiples an_Lot_multiples : Option Addr} {sl_Lot_multiples : Array (Option Value)} {oc_Lot_multiples kV_Lot_multiples dc_Lot_multiples pm_Lot_multiples cd_Lot_multiples ct_Lot_multiples : Value}
    {p_Lot_multiples : Addr}
    {f_Lot_len : Addr} {od_Lot_len an_Lot_len : Option Addr} {sl_Lot_len : Array (Option Value)} {oc_Lot_len kV_Lot_len dc_Lot_len pm_Lot_len cd_Lot_len ct_Lot_len : Value}
    {f_Lot_iter : Addr} {od_Lot_iter an_Lot_iter : Option Addr} {sl_Lot_iter : Array (Option Value)} {oc_Lot_iter kV_Lot_iter dc_Lot_iter pm_Lot_iter cd_Lot_iter ct_Lot_iter : Value}
    {f_Lot_eq : Addr} {od_Lot_eq an_Lot_eq : Option Addr} {sl_Lot_eq : Array (Option Value)} {oc_Lot_eq kV_Lot_eq dc_Lot_eq pm_Lot_eq cd_Lot_eq ct_Lot_eq : Value}
    {f_Lot_contains : Addr} {od_Lot_contains an_Lot_contains : Option Addr} {sl_Lot_contains : Array (Option Value)} {oc_Lot_contains kV_Lot_contains dc_Lot_contains pm_Lot_contains cd_Lot_contains ct_Lot_contains : Value}
    {C_Lot A_ALL A_ALL2 A_ALL3 : Addr} {tM tC tA1 tA2 tA3 : Tok} {wc0 wc1 wc2 : Value} {wd0 wd1 wd2 : Option Addr} {wv0 wv1 wv2 : Array Value} {wn0 wn1 wn2 : Nat} {ws0 ws1 ws2 : Array (Option Value)}
    (a_is_whole : PySem.W.nsIn K mainGlobals "is_whole" = some (some (.ref f_is_whole)))
    (l_is_whole : K.lookup f_is_whole = some ⟨oc_is_whole, od_is_whole, .func (PySem.W.fnOf "is_whole" "is_whole" (defArgs s_is_whole) (defBody s_is_whole) (defScope s_is_whole) .none kV_is_whole dc_is_whole pm_is_whole an_is_whole cd_is_whole ct_is_whole), sl_is_whole⟩)
    (c_is_whole : PySem.W.codeIn K cd_is_whole "is_whole" = true)
    (k_is_whole : PySem.W.keepIn K (.ref f_is_whole) = true)
    (a_is_from : PySem.W.nsIn K mainGlobals "is_from" = some (some (.ref f_is_from)))
    (l_is_from : K.lookup f_is_from = some ⟨oc_is_from, od_is_from, .func (PySem.W.fnOf "is_from" "is_from" (defArgs s_is_from) (defBody s_is_from) (defScope s_is_from) .none kV_is_from dc_is_from pm_is_from an_is_from cd_is_from ct_is_from), sl_is_from⟩)
    (c_is_from : PySem.W.codeIn K cd_is_from "is_from" = true)
    (k_is_from : PySem.W.keepIn K (.ref f_is_from) = true)
    (a_is_run : PySem.W.nsIn K mainGlobals "is_run" = some (some (.ref f_is_run)))
    (l_is_run : K.lookup f_is_run = some ⟨oc_is_run, od_is_run, .func (PySem.W.fnOf "is_run" "is_run" (defArgs s_is_run) (defBody s_is_run) (defScope s_is_run) .none kV_is_run dc_is_run pm_is_run an_is_run cd_is_run ct_is_run), sl_is_run⟩)
    (c_is_run : PySem.W.codeIn K cd_is_run "is_run" = true)
    (k_is_run : PySem.W.keepIn K (.ref f_is_run) = true)
    (a_is_full : PySem.W.nsIn K mainGlobals "is_full" = some (some (.ref f_is_full)))
    (l_is_full : K.lookup f_is_full = some ⟨oc_is_full, od_is_full, .func (PySem.W.fnOf "is_full" "is_full" (defArgs s_is_full) (defBody s_is_full) (defScope s_is_full) .none kV_is_full dc_is_full pm_is_full an_is_full cd_is_full ct_is_full), sl_is_full⟩)
    (c_is_full : PySem.W.codeIn K cd_is_full "is_full" = true)
    (k_is_full : PySem.W.keepIn K (.ref f_is_full) = true)
    (a_size_of : PySem.W.nsIn K mainGlobals "size_of" = some (some (.ref f_size_of)))
    (l_size_of : K.lookup f_size_of = some ⟨oc_size_of, od_size_of, .func (PySem.W.fnOf "size_of" "size_of" (defArgs s_size_of) (defBody s_size_of) (defScope s_size_of) .none kV_size_of dc_size_of pm_size_of an_size_of cd_size_of ct_size_of), sl_size_of⟩)
    (c_size_of : PySem.W.codeIn K cd_size_of "size_of" = true)
    (k_size_of : PySem.W.keepIn K (.ref f_size_of) = true)
    (a_round_of : PySem.W.nsIn K mainGlobals "round_of" = some (some (.ref f_round_of)))
    (l_round_of : K.lookup f_round_of = some ⟨oc_round_of, od_round_of, .func (PySem.W.fnOf "round_of" "round_of" (defArgs s_round_of) (defBody s_round_of) (defScope s_round_of) .none kV_round_of dc_round_of pm_round_of an_round_of cd_round_of ct_round_of), sl_round_of⟩)
    (c_round_of : PySem.W.codeIn K cd_round_of "round_of" = true)
    (k_round_of : PySem.W.keepIn K (.ref f_round_of) = true)
    (a_closed : PySem.W.nsIn K mainGlobals "closed" = some (some (.ref f_closed)))
    (l_closed : K.lookup f_closed = some ⟨oc_closed, od_closed, .func (PySem.W.fnOf "closed" "closed" (defArgs s_closed) (defBody s_closed) (defScope s_closed) .none kV_closed dc_closed pm_closed an_closed cd_closed ct_closed), sl_closed⟩)
    (c_closed : PySem.W.codeIn K cd_closed "closed" = true)
    (k_closed : PySem.W.keepIn K (.ref f_closed) = true)
    (a_least_form : PySem.W.nsIn K mainGlobals "least_form" = some (some (.ref f_least_form)))
    (l_least_form : K.lookup f_least_form = some ⟨oc_least_form, od_least_form, .func (PySem.W.fnOf "least_form" "least_form" (defArgs s_least_form) (defBody s_least_form) (defScope s_least_form) .none kV_least_form dc_least_form pm_least_form an_least_form cd_least_form ct_least_form), sl_least_form⟩)
    (c_least_form : PySem.W.codeIn K cd_least_form "least_form" = true)
    (k_least_form : PySem.W.keepIn K (.ref f_least_form) = true)
    (a_begun : PySem.W.nsIn K mainGlobals "begun" = some (some (.ref f_begun)))
    (l_begun : K.lookup f_begun = some ⟨oc_begun, od_begun, .func (PySem.W.fnOf "begun" "begun" (defArgs s_begun) (defBody s_begun) (defScope s_begun) .none kV_begun dc_begun pm_begun an_begun cd_begun ct_begun), sl_begun⟩)
    (c_begun : PySem.W.codeIn K cd_begun "begun" = true)
    (k_begun : PySem.W.keepIn K (.ref f_begun) = true)
    (a_end_behind : PySem.W.nsIn K mainGlobals "end_behind" = some (some (.ref f_end_behind)))
    (l_end_behind : K.lookup f_end_behind = some ⟨oc_end_behind, od_end_behind, .func (PySem.W.fnOf "end_behind" "end_behind" (defArgs s_end_behind) (defBody s_end_behind) (defScope s_end_behind) .none kV_end_behind dc_end_behind pm_end_behind an_end_behind cd_end_behind ct_end_behind), sl_end_behind⟩)
    (c_end_behind : PySem.W.codeIn K cd_end_behind "end_behind" = true)
    (k_end_behind : PySem.W.keepIn K (.ref f_end_behind) = true)
    (a_next_member : PySem.W.nsIn K mainGlobals "next_member" = some (some (.ref f_next_member)))
    (l_next_member : K.lookup f_next_member = some ⟨oc_next_member, od_next_member, .func (PySem.W.fnOf "next_member" "next_member" (defArgs s_next_member) (defBody s_next_member) (defScope s_next_member) .none kV_next_member dc_next_member pm_next_member an_next_member cd_next_member ct_next_member), sl_next_member⟩)
    (c_next_member : PySem.W.codeIn K cd_next_member "next_member" = true)
    (k_next_member : PySem.W.keepIn K (.ref f_next_member) = true)
    (a_form_of : PySem.W.nsIn K mainGlobals "form_of" = some (some (.ref f_form_of)))
    (l_form_of : K.lookup f_form_of = some ⟨oc_form_of, od_form_of, .func (PySem.W.fnOf "form_of" "form_of" (defArgs s_form_of) (defBody s_form_of) (defScope s_form_of) .none kV_form_of dc_form_of pm_form_of an_form_of cd_form_of ct_form_of), sl_form_of⟩)
    (c_form_of : PySem.W.codeIn K cd_form_of "form_of" = true)
    (k_form_of : PySem.W.keepIn K (.ref f_form_of) = true)
    (a_pen : PySem.W.nsIn K mainGlobals "_law_pen" = some (some (.ref f_pen)))
    (l_pen : K.lookup f_pen = some ⟨oc_pen, od_pen, .func (PySem.W.fnOf "_law_pen" "_law_pen" (defArgs s_pen) (defBody s_pen) (defScope s_pen) .none kV_pen dc_pen pm_pen an_pen cd_pen ct_pen), sl_pen⟩)
    (c_pen : PySem.W.codeIn K cd_pen "_law_pen" = true)
    (k_pen : PySem.W.keepIn K (.ref f_pen) = true)
    (a_draw : PySem.W.nsIn K mainGlobals "_law_draw" = some (some (.ref f_draw)))
    (l_draw : K.lookup f_draw = some ⟨oc_draw, od_draw, .func (PySem.W.fnOf "_law_draw" "_law_draw" (defArgs s_draw) (defBody s_draw) (defScope s_draw) .none kV_draw dc_draw pm_draw an_draw cd_draw ct_draw), sl_draw⟩)
    (c_draw : PySem.W.codeIn K cd_draw "_law_draw" = true)
    (k_draw : PySem.W.keepIn K (.ref f_draw) = true)
    (a_pick : PySem.W.nsIn K mainGlobals "_law_pick" = some (some (.ref f_pick)))
    (l_pick : K.lookup f_pick = some ⟨oc_pick, od_pick, .func (PySem.W.fnOf "_law_pick" "_law_pick" (defArgs s_pick) (defBody s_pick) (defScope s_pick) .none kV_pick dc_pick pm_pick an_pick cd_pick ct_pick), sl_pick⟩)
    (c_pick : PySem.W.codeIn K cd_pick "_law_pick" = true)
    (k_pick : PySem.W.keepIn K (.ref f_pick) = true)
    (a_least : PySem.W.nsIn K mainGlobals "_law_least" = some (some (.ref f_least)))
    (l_least : K.lookup f_least = some ⟨oc_least, od_least, .func (PySem.W.fnOf "_law_least" "_law_least" (defArgs s_least) (defBody s_least) (defScope s_least) .none kV_least dc_least pm_least an_least cd_least ct_least), sl_least⟩)
    (c_least : PySem.W.codeIn K cd_least "_law_least" = true)
    (k_least : PySem.W.keepIn K (.ref f_least) = true)
    (a_is : PySem.W.nsIn K mainGlobals "_law_is" = some (some (.ref f_is)))
    (l_is : K.lookup f_is = some ⟨oc_is, od_is, .func (PySem.W.fnOf "_law_is" "_law_is" (defArgs s_is) (defBody s_is) (defScope s_is) .none kV_is dc_is pm_is an_is cd_is ct_is), sl_is⟩)
    (c_is : PySem.W.codeIn K cd_is "_law_is" = true)
    (k_is : PySem.W.keepIn K (.ref f_is) = true)
    (a_small_right : PySem.W.nsIn K mainGlobals "_law_small_right" = some (some (.ref f_small_right)))
    (l_small_right : K.lookup f_small_right = some ⟨oc_small_right, od_small_right, .func (PySem.W.fnOf "_law_small_right" "_law_small_right" (defArgs s_small_right) (defBody s_small_right) (defScope s_small_right) .none kV_small_right dc_small_right pm_small_right an_small_right cd_small_right ct_small_right), sl_small_right⟩)
    (c_small_right : PySem.W.codeIn K cd_small_right "_law_small_right" = true)
    (k_small_right : PySem.W.keepIn K (.ref f_small_right) = true)
    (a_great_right : PySem.W.nsIn K mainGlobals "_law_great_right" = some (some (.ref f_great_right)))
    (l_great_right : K.lookup f_great_right = some ⟨oc_great_right, od_great_right, .func (PySem.W.fnOf "_law_great_right" "_law_great_right" (defArgs s_great_right) (defBody s_great_right) (defScope s_great_right) .none kV_great_right dc_great_right pm_great_right an_great_right cd_great_right ct_great_right), sl_great_right⟩)
    (c_great_right : PySem.W.codeIn K cd_great_right "_law_great_right" = true)
    (k_great_right : PySem.W.keepIn K (.ref f_great_right) = true)
    (a_law : PySem.W.nsIn K mainGlobals "law" = some (some (.ref f_law)))
    (l_law : K.lookup f_law = some ⟨oc_law, od_law, .func (PySem.W.fnOf "law" "law" (defArgs s_law) (defBody s_law) (defScope s_law) .none kV_law dc_law pm_law an_law cd_law ct_law), sl_law⟩)
    (c_law : PySem.W.codeIn K cd_law "law" = true)
    (k_law : PySem.W.keepIn K (.ref f_law) = true)
    (a_Lot_init : PySem.W.findIn K (.ref C_Lot) "__init__" = some (some (.ref f_Lot_init)))
    (l_Lot_init : K.lookup f_Lot_init = some ⟨oc_Lot_init, od_Lot_init, .func (PySem.W.fnOf "__init__" "Lot.__init__" (defArgs s_Lot_init) (defBody s_Lot_init) (defScope s_Lot_init) .none kV_Lot_init dc_Lot_init pm_Lot_init an_Lot_init cd_Lot_init ct_Lot_init), sl_Lot_init⟩)
    (c_Lot_init : PySem.W.codeIn K cd_Lot_init "Lot.__init__" = true)
    (k_Lot_init : PySem.W.keepIn K (.ref f_Lot_init) = true)
    (a_Lot_every : CStat K C_Lot (.type "type") "every" p_Lot_every f_Lot_every)
    (l_Lot_every : K.lookup f_Lot_every = some ⟨oc_Lot_every, od_Lot_every, .func (PySem.W.fnOf "every" "Lot.every" (defArgs s_Lot_every) (defBody s_Lot_every) (defScope s_Lot_every) .none kV_Lot_every dc_Lot_every pm_Lot_every an_Lot_every cd_Lot_every ct_Lot_every), sl_Lot_every⟩)
    (c_Lot_every : PySem.W.codeIn K cd_Lot_every "Lot.every" = true)
    (k_Lot_every : PySem.W.keepIn K (.ref f_Lot_every) = true)
    (a_Lot_none : CStat K C_Lot (.type "type") "none" p_Lot_none f_Lot_none)
    (l_Lot_none : K.lookup f_Lot_none = some ⟨oc_Lot_none, od_Lot_none, .func (PySem.W.fnOf "none" "Lot.none" (defArgs s_Lot_none) (defBody s_Lot_none) (defScope s_Lot_none) .none kV_Lot_none dc_Lot_none pm_Lot_none an_Lot_none cd_Lot_none ct_Lot_none), sl_Lot_none⟩)
    (c_Lot_none : PySem.W.codeIn K cd_Lot_none "Lot.none" = true)
    (k_Lot_none : PySem.W.keepIn K (.ref f_Lot_none) = true)
    (a_Lot_around : CStat K C_Lot (.type "type") "around" p_Lot_around f_Lot_around)
    (l_Lot_around : K.lookup f_Lot_around = some ⟨oc_Lot_around, od_Lot_around, .func (PySem.W.fnOf "around" "Lot.around" (defArgs s_Lot_around) (defBody s_Lot_around) (defScope s_Lot_around) .none kV_Lot_around dc_Lot_around pm_Lot_around an_Lot_around cd_Lot_around ct_Lot_around), sl_Lot_around⟩)
    (c_Lot_around : PySem.W.codeIn K cd_Lot_around "Lot.around" = true)
    (k_Lot_around : PySem.W.keepIn K (.ref f_Lot_around) = true)
    (a_Lot_multiples : CStat K C_Lot (.type "type") "multiples" p_Lot_multiples f_Lot_multiples)
    (l_Lot_multiples : K.lookup f_Lot_multiples = some ⟨oc_Lot_multiples, od_Lot_multiples, .func (PySem.W.fnOf "multiples" "Lot.multiples" (defArgs s_Lot_multiples) (defBody s_Lot_multiples) (defScope s_Lot_multiples) .none kV_Lot_multiples dc_Lot_multiples pm_Lot_multiples an_Lot_multiples cd_Lot_multiples ct_Lot_multiples), sl_Lot_multiples⟩)
    (c_Lot_multiples : PySem.W.codeIn K cd_Lot_multiples "Lot.multiples" = true)
    (k_Lot_multiples : PySem.W.keepIn K (.ref f_Lot_multiples) = true)
    (a_Lot_len : PySem.W.findIn K (.ref C_Lot) "__len__" = some (some (.ref f_Lot_len)))
    (l_Lot_len : K.lookup f_Lot_len = some ⟨oc_Lot_len, od_Lot_len, .func (PySem.W.fnOf "__len__" "Lot.__len__" (defArgs s_Lot_len) (defBody s_Lot_len) (defScope s_Lot_len) .none kV_Lot_len dc_Lot_len pm_Lot_len an_Lot_len cd_Lot_len ct_Lot_len), sl_Lot_len⟩)
    (c_Lot_len : PySem.W.codeIn K cd_Lot_len "Lot.__len__" = true)
    (k_Lot_len : PySem.W.keepIn K (.ref f_Lot_len) = true)
    (a_Lot_iter : PySem.W.findIn K (.ref C_Lot) "__iter__" = some (some (.ref f_Lot_iter)))
    (l_Lot_iter : K.lookup f_Lot_iter = some ⟨oc_Lot_iter, od_Lot_iter, .func (PySem.W.fnOf "__iter__" "Lot.__iter__" (defArgs s_Lot_iter) (defBody s_Lot_iter) (defScope s_Lot_iter) .none kV_Lot_iter dc_Lot_iter pm_Lot_iter an_Lot_iter cd_Lot_iter ct_Lot_iter), sl_Lot_iter⟩)
    (c_Lot_iter : PySem.W.codeIn K cd_Lot_iter "Lot.__iter__" = true)
    (k_Lot_iter : PySem.W.keepIn K (.ref f_Lot_iter) = true)
    (a_Lot_eq : PySem.W.findIn K (.ref C_Lot) "__eq__" = some (some (.ref f_Lot_eq)))
    (l_Lot_eq : K.lookup f_Lot_eq = some ⟨oc_Lot_eq, od_Lot_eq, .func (PySem.W.fnOf "__eq__" "Lot.__eq__" (defArgs s_Lot_eq) (defBody s_Lot_eq) (defScope s_Lot_eq) .none kV_Lot_eq dc_Lot_eq pm_Lot_eq an_Lot_eq cd_Lot_eq ct_Lot_eq), sl_Lot_eq⟩)
    (c_Lot_eq : PySem.W.codeIn K cd_Lot_eq "Lot.__eq__" = true)
    (k_Lot_eq : PySem.W.keepIn K (.ref f_Lot_eq) = true)
    (a_Lot_contains : PySem.W.findIn K (.ref C_Lot) "__contains__" = some (some (.ref f_Lot_contains)))
    (l_Lot_contains : K.lookup f_Lot_contains = some ⟨oc_Lot_contains, od_Lot_contains, .func (PySem.W.fnOf "__contains__" "Lot.__contains__" (defArgs s_Lot_contains) (defBody s_Lot_contains) (defScope s_Lot_contains) .none kV_Lot_contains dc_Lot_contains pm_Lot_contains an_Lot_contains cd_Lot_contains ct_Lot_contains), sl_Lot_contains⟩)
    (c_Lot_contains : PySem.W.codeIn K cd_Lot_contains "Lot.__contains__" = true)
    (k_Lot_contains : PySem.W.keepIn K (.ref f_Lot_contains) = true)
    (i_gcd : PySem.W.nsIn K mainGlobals "gcd" = some (some (.builtin "math.gcd")))
    (z_ValueError : PySem.W.nsIn K mainGlobals "ValueError" = some none)
    (z_abs : PySem.W.nsIn K mainGlobals "abs" = some none)
    (z_bool : PySem.W.nsIn K mainGlobals "bool" = some none)
    (z_divmod : PySem.W.nsIn K mainGlobals "divmod" = some none)
    (z_enumerate : PySem.W.nsIn K mainGlobals "enumerate" = some none)
    (z_int : PySem.W.nsIn K mainGlobals "int" = some none)
    (z_isinstance : PySem.W.nsIn K mainGlobals "isinstance" = some none)
    (z_iter : PySem.W.nsIn K mainGlobals "iter" = some none)
    (z_len : PySem.W.nsIn K mainGlobals "len" = some none)
    (z_list : PySem.W.nsIn K mainGlobals "list" = some none)
    (z_max : PySem.W.nsIn K mainGlobals "max" = some none)
    (z_min : PySem.W.nsIn K mainGlobals "min" = some none)
    (z_range : PySem.W.nsIn K mainGlobals "range" = some none)
    (z_repr : PySem.W.nsIn K mainGlobals "repr" = some none)
    (z_sorted : PySem.W.nsIn K mainGlobals "sorted" = some none)
    (z_staticmethod : PySem.W.nsIn K mainGlobals "staticmethod" = some none)
    (z_str : PySem.W.nsIn K mainGlobals "str" = some none)
    (z_sum : PySem.W.nsIn K mainGlobals "sum" = some none)
    (z_tuple : PySem.W.nsIn K mainGlobals "tuple" = some none)
    (x_Lot : PySem.W.nsIn K mainGlobals "Lot" = some (some (.ref C_Lot)))
    (x_ALL : PySem.W.nsIn K mainGlobals "ALL" = some (some (.ref A_ALL)))
    (x_MOST : PySem.W.nsIn K mainGlobals "MOST_RUNS" = some (some (.int 2000 tM)))
    (w0_l : K.lookup A_ALL = some ⟨wc0, wd0, .seq wv0 wn0, ws0⟩)
    (w0_c : wc0 = .type "tuple")
    (w0_v : wv0.toList = [.int 1 tA1, .ref A_ALL2])
    (w1_l : K.lookup A_ALL2 = some ⟨wc1, wd1, .seq wv1 wn1, ws1⟩)
    (w1_c : wc1 = .type "tuple")
    (w1_v : wv1.toList = [.ref A_ALL3])
    (w2_l : K.lookup A_ALL3 = some ⟨wc2, wd2, .seq wv2 wn2, ws2⟩)
    (w2_c : wc2 = .type "tuple")
    (w2_v : wv2.toList = [.int 0 tA2, .int 0 tA3])
    (y_cls : Cls K C_Lot)
    (y_m1 : PySem.W.makesIn K C_Lot = true)
    (y_m3 : PySem.W.isFn K (.ref f_Lot_init) = true)
    (y_m4 : PySem.W.keepIn K (.ref C_Lot) = true)
    (y_r1 : PySem.W.readsIn K C_Lot (.type "type") = true)
    (y_r2 : PySem.W.specialIn K (.ref C_Lot) "__getattribute__" = some (some (.builtin "type.__getattribute__")))
    (x_ha : PySem.W.findIn K (.ref C_Lot) "__class__" = some (some (.builtin "object.__class__")))
    (x_hn : PySem.W.specialIn K (.builtin "object.__class__") "__get__" = some (some (.builtin "getset_descriptor.__get__")))
    (x_ht : PySem.W.takesIn K (.builtin "object.__class__") = some true)
    (x_hm : PySem.W.mroIn K C_Lot (.type "object") = some true)
    (y_kk : PySem.W.kitOne K (.ref C_Lot) (.ref C_Lot) = some true)
    (y_n1 : NoAttr K C_Lot "period")
    (y_n2 : NoAttr K C_Lot "runs")
    (y_n3 : NoAttr K C_Lot "size")
    (y_ne : PySem.W.findIn K (.ref C_Lot) "__ne__" = some (some (.builtin "object.__ne__")))
    (y_bo : PySem.W.findIn K (.ref C_Lot) "__bool__" = some Option.none)
    (y_f1 : PySem.W.isFn K (.ref f_Lot_contains) = true)
    (y_f2 : PySem.W.isFn K (.ref f_Lot_eq) = true)
    (y_f3 : PySem.W.isFn K (.ref f_Lot_len) = true)
    (y_f4 : PySem.W.isFn K (.ref f_Lot_iter) = true)
    (y_cv : PySem.W.findCls K (.ref C_Lot) (.type "type") "MOST" = some (.val (.int 2000 tC))) :
    LawG l w K 9 mg fa h := by
  have e := hfa.symm.trans (PySem.W.mg_of X G a_law)
  cases e
  let T : Txt K mg := { a_is_whole := f_is_whole, fd_is_whole := _, F_is_whole := fun_mk (st := s_is_whole) l_is_whole c_is_whole k_is_whole, m_is_whole := PySem.W.mg_of X G a_is_whole, a_is_from := f_is_from, fd_is_from := _, F_is_from := fun_mk (st := s_is_from) l_is_from c_is_from k_is_from, m_is_from := PySem.W.mg_of X G a_is_from, a_is_run := f_is_run, fd_is_run := _, F_is_run := fun_mk (st := s_is_run) l_is_run c_is_run k_is_run, m_is_run := PySem.W.mg_of X G a_is_run, a_is_full := f_is_full, fd_is_full := _, F_is_full := fun_mk (st := s_is_full) l_is_full c_is_full k_is_full, m_is_full := PySem.W.mg_of X G a_is_full, a_size_of := f_size_of, fd_size_of := _, F_size_of := fun_mk (st := s_size_of) l_size_of c_size_of k_size_of, m_size_of := PySem.W.mg_of X G a_size_of, a_round_of := f_round_of, fd_round_of := _, F_round_of := fun_mk (st := s_round_of) l_round_of c_round_of k_round_of, m_round_of := PySem.W.mg_of X G a_round_of, a_closed := f_closed, fd_closed := _, F_closed := fun_mk (st := s_closed) l_closed c_closed k_closed, m_closed := PySem.W.mg_of X G a_closed, a_least_form := f_least_form, fd_least_form := _, F_least_form := fun_mk (st := s_least_form) l_least_form c_least_form k_least_form, m_least_form := PySem.W.mg_of X G a_least_form, a_begun := f_begun, fd_begun := _, F_begun := fun_mk (st := s_begun) l_begun c_begun k_begun, m_begun := PySem.W.mg_of X G a_begun, a_end_behind := f_end_behind, fd_end_behind := _, F_end_behind := fun_mk (st := s_end_behind) l_end_behind c_end_behind k_end_behind, m_end_behind := PySem.W.mg_of X G a_end_behind, a_next_member := f_next_member, fd_next_member := _, F_next_member := fun_mk (st := s_next_member) l_next_member c_next_member k_next_member, m_next_member := PySem.W.mg_of X G a_next_member, a_form_of := f_form_of, fd_form_of := _, F_form_of := fun_mk (st := s_form_of) l_form_of c_form_of k_form_of, m_form_of := PySem.W.mg_of X G a_form_of, a_pen := f_pen, fd_pen := _, F_pen := fun_mk (st := s_pen) l_pen c_pen k_pen, m_pen := PySem.W.mg_of X G a_pen, a_draw := f_draw, fd_draw := _, F_draw := fun_mk (st := s_draw) l_draw c_draw k_draw, m_draw := PySem.W.mg_of X G a_draw, a_pick := f_pick, fd_pick := _, F_pick := fun_mk (st := s_pick) l_pick c_pick k_pick, m_pick := PySem.W.mg_of X G a_pick, a_least := f_least, fd_least := _, F_least := fun_mk (st := s_least) l_least c_least k_least, m_least := PySem.W.mg_of X G a_least, a_is := f_is, fd_is := _, F_is := fun_mk (st := s_is) l_is c_is k_is, m_is := PySem.W.mg_of X G a_is, a_small_right := f_small_right, fd_small_right := _, F_small_right := fun_mk (st := s_small_right) l_small_right c_small_right k_small_right, m_small_right := PySem.W.mg_of X G a_small_right, a_great_right := f_great_right, fd_great_right := _, F_great_right := fun_mk (st := s_great_right) l_great_right c_great_right k_great_right, m_great_right := PySem.W.mg_of X G a_great_right, a_law := fa, fd_law := _, F_law := fun_mk (st := s_law) l_law c_law k_law, m_law := PySem.W.mg_of X G a_law, a_Lot_init := f_Lot_init, fd_Lot_init := _, F_Lot_init := fun_mk (st := s_Lot_init) l_Lot_init c_Lot_init k_Lot_init, a_Lot_every := f_Lot_every, fd_Lot_every := _, F_Lot_every := fun_mk (st := s_Lot_every) l_Lot_every c_Lot_every k_Lot_every, a_Lot_none := f_Lot_none, fd_Lot_none := _, F_Lot_none := fun_mk (st := s_Lot_none) l_Lot_none c_Lot_none k_Lot_none, a_Lot_around := f_Lot_around, fd_Lot_around := _, F_Lot_around := fun_mk (st := s_Lot_around) l_Lot_around c_Lot_around k_Lot_around, a_Lot_multiples := f_Lot_multiples, fd_Lot_multiples := _, F_Lot_multiples := fun_mk (st := s_Lot_multiples) l_Lot_multiples c_Lot_multiples k_Lot_multiples, a_Lot_len := f_Lot_len, fd_Lot_len := _, F_Lot_len := fun_mk (st := s_Lot_len) l_Lot_len c_Lot_len k_Lot_len, a_Lot_iter := f_Lot_iter, fd_Lot_iter := _, F_Lot_iter := fun_mk (st := s_Lot_iter) l_Lot_iter c_Lot_iter k_Lot_iter, a_Lot_eq := f_Lot_eq, fd_Lot_eq := _, F_Lot_eq := fun_mk (st := s_Lot_eq) l_Lot_eq c_Lot_eq k_Lot_eq, a_Lot_contains := f_Lot_contains, fd_Lot_contains := _, F_Lot_contains := fun_mk (st := s_Lot_contains) l_Lot_contains c_Lot_contains k_Lot_contains, m_gcd := PySem.W.mg_of X G i_gcd, n_ValueError := PySem.W.mg_none_of X G z_ValueError, n_abs := PySem.W.mg_none_of X G z_abs, n_bool := PySem.W.mg_none_of X G z_bool, n_divmod := PySem.W.mg_none_of X G z_divmod, n_enumerate := PySem.W.mg_none_of X G z_enumerate, n_int := PySem.W.mg_none_of X G z_int, n_isinstance := PySem.W.mg_none_of X G z_isinstance, n_iter := PySem.W.mg_none_of X G z_iter, n_len := PySem.W.mg_none_of X G z_len, n_list := PySem.W.mg_none_of X G z_list, n_max := PySem.W.mg_none_of X G z_max, n_min := PySem.W.mg_none_of X G z_min, n_range := PySem.W.mg_none_of X G z_range, n_repr := PySem.W.mg_none_of X G z_repr, n_sorted := PySem.W.mg_none_of X G z_sorted, n_staticmethod := PySem.W.mg_none_of X G z_staticmethod, n_str := PySem.W.mg_none_of X G z_str, n_sum := PySem.W.mg_none_of X G z_sum, n_tuple := PySem.W.mg_none_of X G z_tuple, a_ALL := A_ALL, m_ALL := PySem.W.mg_of X G x_ALL, r_ALL := ⟨A_ALL2, A_ALL3, (.inr ⟨_, _, _, w0_l, w0_c, rfl, by rw [← Array.length_toList, w0_v]; exact (show 2 ≤ sizeLine by decide), by rw [w0_v]; exact .cons ⟨_, rfl⟩ (.cons rfl .nil)⟩), (.inr ⟨_, _, _, w1_l, w1_c, rfl, by rw [← Array.length_toList, w1_v]; exact (show 1 ≤ sizeLine by decide), by rw [w1_v]; exact .cons rfl .nil⟩), (.inr ⟨_, _, _, w2_l, w2_c, rfl, by rw [← Array.length_toList, w2_v]; exact (show 2 ≤ sizeLine by decide), by rw [w2_v]; exact .cons ⟨_, rfl⟩ (.cons ⟨_, rfl⟩ .nil)⟩)⟩, u_MOST := .int 2000 tM, m_MOST := PySem.W.mg_of X G x_MOST, r_MOST := ⟨_, rfl⟩, a_Lot := C_Lot, m_Lot := PySem.W.mg_of X G x_Lot, cls := y_cls, mks := ⟨y_m1, a_Lot_init, y_m3, y_m4⟩, rd := ⟨y_r1, y_r2⟩, ki := fun H a dx fs e => .base (.ins e y_cls x_ha x_hn x_ht x_hm), kk := y_kk, na := fun y hy => by simp only [List.mem_cons, List.not_mem_nil, or_false] at hy; rcases hy with rfl | rfl | rfl; exact y_n1; exact y_n2; exact y_n3, p_every := p_Lot_every, st_every := a_Lot_every, p_none := p_Lot_none, st_none := a_Lot_none, p_around := p_Lot_around, st_around := a_Lot_around, p_multiples := p_Lot_multiples, st_multiples := a_Lot_multiples, fi_in := a_Lot_contains, fi_eq := a_Lot_eq, fi_len := a_Lot_len, fi_iter := a_Lot_iter, u_CM := .int 2000 tC, cv_MOST := ⟨y_cv, ⟨_, rfl⟩⟩, fi_ne := y_ne, fi_bool := y_bo, mro_o := x_hm, fn_in := y_f1, fn_eq := y_f2, fn_len := y_f3, fn_iter := y_f4 }
  refine ⟨[], spLaw K, fun p hp => absurd hp List.not_mem_nil, fun p hp => absurd hp List.not_mem_nil, fun p hp => absurd hp List.not_mem_nil, fun H a ns hl hb tt hS => ⟨a, ns, rfl, hS, hl, fun _ => rfl⟩, fun base KB NB TBs => ok_law T⟩
end My
open PySem PySem.W PyProof.Rows in
set_option maxRecDepth 100000 in
set_option maxHeartbeats 0 in
theorem PySem.Challenge.cw_wheelreach_k06_lots_around_multiples_holds : PySem.Challenge.rw_wheelreach_k06_lots_around_multiples.Holds := by
  w_on; o_law; k_head; (case hw => w_witness2)
  k_fill
  refine My.walkG (l := PySem.Challenge.rw_wheelreach_k06_lots_around_multiples) (k := 9) [] (by decide +kernel) rfl rfl ⟨rfl, by decide, by decide⟩ (fun w h Y => PySem.W.kIn_of Y) ?F
  case F =>
    intro w mg fa h KX G hmg tabs
    refine' My.all_mk KX G hmg tabs ?a_is_whole ?l_is_whole ?c_is_whole ?k_is_whole ?a_is_from ?l_is_from ?c_is_from ?k_is_from ?a_is_run ?l_is_run ?c_is_run ?k_is_run ?a_is_full ?l_is_full ?c_is_full ?k_is_full ?a_size_of ?l_size_of ?c_size_of ?k_size_of ?a_round_of ?l_round_of ?c_round_of ?k_round_of ?a_closed ?l_closed ?c_closed ?k_closed ?a_least_form ?l_least_form ?c_least_form ?k_least_form ?a_begun ?l_begun ?c_begun ?k_begun ?a_end_behind ?l_end_behind ?c_end_behind ?k_end_behind ?a_next_member ?l_next_member ?c_next_member ?k_next_member ?a_form_of ?l_form_of ?c_form_of ?k_form_of ?a_pen ?l_pen ?c_pen ?k_pen ?a_draw ?l_draw ?c_draw ?k_draw ?a_pick ?l_pick ?c_pick ?k_pick ?a_least ?l_least ?c_least ?k_least ?a_is ?l_is ?c_is ?k_is ?a_small_right ?l_small_right ?c_small_right ?k_small_right ?a_great_right ?l_great_right ?c_great_right ?k_great_right ?a_law ?l_law ?c_law ?k_law ?a_Lot_init ?l_Lot_init ?c_Lot_init ?k_Lot_init ?a_Lot_every ?l_Lot_every ?c_Lot_every ?k_Lot_every ?a_Lot_none ?l_Lot_none ?c_Lot_none ?k_Lot_none ?a_Lot_around ?l_Lot_around ?c_Lot_around ?k_Lot_around ?a_Lot_multiples ?l_Lot_multiples ?c_Lot_multiples ?k_Lot_multiples ?a_Lot_len ?l_Lot_len ?c_Lot_len ?k_Lot_len ?a_Lot_iter ?l_Lot_iter ?c_Lot_iter ?k_Lot_iter ?a_Lot_eq ?l_Lot_eq ?c_Lot_eq ?k_Lot_eq ?a_Lot_contains ?l_Lot_contains ?c_Lot_contains ?k_Lot_contains ?i_gcd ?z_ValueError ?z_abs ?z_bool ?z_divmod ?z_enumerate ?z_int ?z_isinstance ?z_iter ?z_len ?z_list ?z_max ?z_min ?z_range ?z_repr ?z_sorted ?z_staticmethod ?z_str ?z_sum ?z_tuple ?x_Lot ?x_ALL ?x_MOST ?w0_l ?w0_c ?w0_v ?w1_l ?w1_c ?w1_v ?w2_l ?w2_c ?w2_v ?y_cls ?y_m1 ?y_m3 ?y_m4 ?y_r1 ?y_r2 ?x_ha ?x_hn ?x_ht ?x_hm ?y_kk ?y_n1 ?y_n2 ?y_n3 ?y_ne ?y_bo ?y_f1 ?y_f2 ?y_f3 ?y_f4 ?y_cv
    (case x_Lot => first | k_is | rfl | decide +kernel)
    (case x_ALL => first | k_is | rfl | decide +kernel)
    (case w0_l => first | k_is | rfl | decide +kernel)
    (case w0_c => first | k_is | rfl | decide +kernel)
    (case w0_v => first | k_is | rfl | decide +kernel)
    (case w1_l => first | k_is | rfl | decide +kernel)
    (case w1_c => first | k_is | rfl | decide +kernel)
    (case w1_v => first | k_is | rfl | decide +kernel)
    (case w2_l => first | k_is | rfl | decide +kernel)
    (case w2_c => first | k_is | rfl | decide +kernel)
    (case w2_v => first | k_is | rfl | decide +kernel)
    (case a_is_whole => k_is)
    (case l_is_whole => k_is)
    (case c_is_whole => k_is)
    (case k_is_whole => k_is)
    (case a_is_from => k_is)
    (case l_is_from => k_is)
    (case c_is_from => k_is)
    (case k_is_from => k_is)
    (case a_is_run => k_is)
    (case l_is_run => k_is)
    (case c_is_run => k_is)
    (case k_is_run => k_is)
    (case a_is_full => k_is)
    (case l_is_full => k_is)
    (case c_is_full => k_is)
    (case k_is_full => k_is)
    (case a_size_of => k_is)
    (case l_size_of => k_is)
    (case c_size_of => k_is)
    (case k_size_of => k_is)
    (case a_round_of => k_is)
    (case l_round_of => k_is)
    (case c_round_of => k_is)
    (case k_round_of => k_is)
    (case a_closed => k_is)
    (case l_closed => k_is)
    (case c_closed => k_is)
    (case k_closed => k_is)
    (case a_least_form => k_is)
    (case l_least_form => k_is)
    (case c_least_form => k_is)
    (case k_least_form => k_is)
    (case a_begun => k_is)
    (case l_begun => k_is)
    (case c_begun => k_is)
    (case k_begun => k_is)
    (case a_end_behind => k_is)
    (case l_end_behind => k_is)
    (case c_end_behind => k_is)
    (case k_end_behind => k_is)
    (case a_next_member => k_is)
    (case l_next_member => k_is)
    (case c_next_member => k_is)
    (case k_next_member => k_is)
    (case a_form_of => k_is)
    (case l_form_of => k_is)
    (case c_form_of => k_is)
    (case k_form_of => k_is)
    (case a_pen => k_is)
    (case l_pen => k_is)
    (case c_pen => k_is)
    (case k_pen => k_is)
    (case a_draw => k_is)
    (case l_draw => k_is)
    (case c_draw => k_is)
    (case k_draw => k_is)
    (case a_pick => k_is)
    (case l_pick => k_is)
    (case c_pick => k_is)
    (case k_pick => k_is)
    (case a_least => k_is)
    (case l_least => k_is)
    (case c_least => k_is)
    (case k_least => k_is)
    (case a_is => k_is)
    (case l_is => k_is)
    (case c_is => k_is)
    (case k_is => k_is)
    (case a_small_right => k_is)
    (case l_small_right => k_is)
    (case c_small_right => k_is)
    (case k_small_right => k_is)
    (case a_great_right => k_is)
    (case l_great_right => k_is)
    (case c_great_right => k_is)
    (case k_great_right => k_is)
    (case a_law => k_is)
    (case l_law => k_is)
    (case c_law => k_is)
    (case k_law => k_is)
    (case a_Lot_init => k_is)
    (case l_Lot_init => k_is)
    (case c_Lot_init => k_is)
    (case k_Lot_init => k_is)
    (case a_Lot_every => exact ⟨by k_is, ⟨_, by k_is⟩, by k_is⟩)
    (case l_Lot_every => k_is)
    (case c_Lot_every => k_is)
    (case k_Lot_every => k_is)
    (case a_Lot_none => exact ⟨by k_is, ⟨_, by k_is⟩, by k_is⟩)
    (case l_Lot_none => k_is)
    (case c_Lot_none => k_is)
    (case k_Lot_none => k_is)
    (case a_Lot_around => exact ⟨by k_is, ⟨_, by k_is⟩, by k_is⟩)
    (case l_Lot_around => k_is)
    (case c_Lot_around => k_is)
    (case k_Lot_around => k_is)
    (case a_Lot_multiples => exact ⟨by k_is, ⟨_, by k_is⟩, by k_is⟩)
    (case l_Lot_multiples => k_is)
    (case c_Lot_multiples => k_is)
    (case k_Lot_multiples => k_is)
    (case a_Lot_len => k_is)
    (case l_Lot_len => k_is)
    (case c_Lot_len => k_is)
    (case k_Lot_len => k_is)
    (case a_Lot_iter => k_is)
    (case l_Lot_iter => k_is)
    (case c_Lot_iter => k_is)
    (case k_Lot_iter => k_is)
    (case a_Lot_eq => k_is)
    (case l_Lot_eq => k_is)
    (case c_Lot_eq => k_is)
    (case k_Lot_eq => k_is)
    (case a_Lot_contains => k_is)
    (case l_Lot_contains => k_is)
    (case c_Lot_contains => k_is)
    (case k_Lot_contains => k_is)
    (case i_gcd => k_is)
    (case z_ValueError => k_is)
    (case z_abs => k_is)
    (case z_bool => k_is)
    (case z_divmod => k_is)
    (case z_enumerate => k_is)
    (case z_int => k_is)
    (case z_isinstance => k_is)
    (case z_iter => k_is)
    (case z_len => k_is)
    (case z_list => k_is)
    (case z_max => k_is)
    (case z_min => k_is)
    (case z_range => k_is)
    (case z_repr => k_is)
    (case z_sorted => k_is)
    (case z_staticmethod => k_is)
    (case z_str => k_is)
    (case z_sum => k_is)
    (case z_tuple => k_is)
    (case x_MOST => first | k_is | rfl | decide +kernel)
    (case y_cls => exact ⟨by k_is, by k_is, by k_is, by k_is⟩)
    (case y_m1 => first | k_is | rfl | decide +kernel)
    (case y_m3 => first | k_is | rfl | decide +kernel)
    (case y_m4 => first | k_is | rfl | decide +kernel)
    (case y_r1 => first | k_is | rfl | decide +kernel)
    (case y_r2 => first | k_is | rfl | decide +kernel)
    (case x_ha => first | k_is | rfl | decide +kernel)
    (case x_hn => first | k_is | rfl | decide +kernel)
    (case x_ht => first | k_is | rfl | decide +kernel)
    (case x_hm => first | k_is | rfl | decide +kernel)
    (case y_kk => first | k_is | rfl | decide +kernel)
    (case y_n1 => show PySem.W.findIn _ _ _ = _; k_is)
    (case y_n2 => show PySem.W.findIn _ _ _ = _; k_is)
    (case y_n3 => show PySem.W.findIn _ _ _ = _; k_is)
    (case y_ne => first | k_is | rfl | decide +kernel)
    (case y_bo => first | k_is | rfl | decide +kernel)
    (case y_f1 => first | k_is | rfl | decide +kernel)
    (case y_f2 => first | k_is | rfl | decide +kernel)
    (case y_f3 => first | k_is | rfl | decide +kernel)
    (case y_f4 => first | k_is | rfl | decide +kernel)
    (case y_cv => first | k_is | rfl | decide +kernel)
