import PyProof.Rows.All
import Wide.All
import OpenK.AllK
import Wide.FinOn
import HandS.Walk
import KE.DatumOrd
import KE.KDictZip
import KE.GoesMore
import HandS.ForMost
import HandS.ForExc
import HandS.Star
import HandS.Gcd
import HandS.Wide
import HandS.IsInst
import HandS.Style
import HandS.Codes
import HandS.Sort
import HandS.TupAny
import HandS.OwnEq
import HandS.ClsMeth
import HandS.MakeKw
import HandS.MakeKwOnly
import HandS.IterVal
import HandS.Lambda
import KE.KOwnIter
import HandS.EndTab
import KE.KExcIs
import KE.DataMinMax
import HandS.AnyAll
import HandS.Zip
import HandS.Property
import HandS.ExcInit
import HandS.ExcIs
import HandS.WordsExc
import KE.KSuper
import HandS.FStr
import HandS.Text
import HandS.StrMore
import HandS.StrSplit
import KE.KOpsOwn
import HandS.Steps
import HandS.Flow
import PySem.Challenge.RW_wheelreach_k74_trains_made_and_read
set_option Elab.async false
set_option linter.all false
set_option maxRecDepth 100000
set_option maxHeartbeats 4000000
/-! Numbers: divisors, multiples, remainders put together, as plain functions, and what holds of them. -/
namespace NM

/-! ### common, multiple -/
def gcdL (ns : List Int) : Nat := ns.foldl (fun g n => Nat.gcd g n.natAbs) 0
def lcmL (ns : List Int) : Nat := ns.foldl (fun g n => Nat.lcm g n.natAbs) 1
theorem gcdL_snoc (l : List Int) (z : Int) : gcdL (l ++ [z]) = Nat.gcd (gcdL l) z.natAbs := by
  unfold gcdL; rw [List.foldl_append]; rfl
theorem lcmL_snoc (l : List Int) (z : Int) : lcmL (l ++ [z]) = Nat.lcm (lcmL l) z.natAbs := by
  unfold lcmL; rw [List.foldl_append]; rfl
theorem take_snoc {α : Type} : ∀ {l : List α} {i : Nat} {x : α}, l[i]? = some x → l.take (i + 1) = l.take i ++ [x]
  | [], i, x, h => by simp at h
  | a :: l, 0, x, h => by
    have e : a = x := Option.some.inj h
    subst e
    rfl
  | a :: l, i + 1, x, h => by
    have ih := take_snoc (l := l) (i := i) (x := x) h
    show a :: l.take (i + 1) = a :: l.take i ++ [x]
    rw [ih]
    rfl
theorem lcm_step {f n : Int} (hf : 0 < f) (hn : 0 < n) : f / ((Nat.gcd f.natAbs n.natAbs : Nat) : Int) * n = ((Nat.lcm f.natAbs n.natAbs : Nat) : Int) := by
  obtain ⟨a, rfl⟩ : ∃ a : Nat, f = (a : Int) := ⟨f.toNat, by omega⟩
  obtain ⟨b, rfl⟩ : ∃ b : Nat, n = (b : Int) := ⟨n.toNat, by omega⟩
  simp only [Int.natAbs_natCast]
  have h := Nat.gcd_dvd_left a b
  rw [← Int.natCast_ediv, ← Int.natCast_mul]
  congr 1
  unfold Nat.lcm
  rw [Nat.mul_comm (a / _) b, Nat.mul_comm a b, Nat.mul_div_assoc _ h]
theorem lcmL_pos {l : List Int} (h : ∀ z ∈ l, 0 < z) : 0 < lcmL l := by
  unfold lcmL
  suffices ∀ (l : List Int) (a : Nat), 0 < a → (∀ z ∈ l, 0 < z) → 0 < l.foldl (fun g n => Nat.lcm g n.natAbs) a from this l 1 (by decide) h
  intro l
  induction l with
  | nil => intro a ha _; exact ha
  | cons z l ih =>
    intro a ha h
    refine ih _ ?_ (fun y hy => h y (List.mem_cons_of_mem _ hy))
    have hz := h z List.mem_cons_self
    exact Nat.lcm_pos ha (by omega)
theorem lcm_le_mul {a b : Nat} (ha : 0 < a) (hb : 0 < b) : Nat.lcm a b ≤ a * b := Nat.le_of_dvd (Nat.mul_pos ha hb) (Nat.lcm_dvd_mul a b)

/-! ### how far from a multiple -/
def apartI (d p : Int) : Int := if p - d % p < d % p then p - d % p else d % p
theorem apart_nn {d p : Int} (hp : 0 < p) : 0 ≤ apartI d p := by
  unfold apartI
  have h1 := Int.emod_nonneg d (show p ≠ 0 by omega)
  have h2 := Int.emod_lt_of_pos d hp
  split <;> omega
theorem apart_half {d p : Int} (hp : 0 < p) : 2 * apartI d p ≤ p := by
  unfold apartI
  have h1 := Int.emod_nonneg d (show p ≠ 0 by omega)
  have h2 := Int.emod_lt_of_pos d hp
  split <;> omega
/-- the nearest multiple is that far away -/
theorem apart_at {d p : Int} (hp : 0 < p) : ∃ k, d = p * k + apartI d p ∨ d = p * k - apartI d p := by
  have e := Int.mul_ediv_add_emod d p
  unfold apartI
  split
  · refine ⟨d / p + 1, .inr ?_⟩
    rw [Int.mul_add]; omega
  · exact ⟨d / p, .inl (by omega)⟩
/-- no multiple is nearer -/
theorem apart_le {d p : Int} (hp : 0 < p) (k a : Int) (h : d = p * k + a) : apartI d p ≤ (a.natAbs : Int) := by
  have e1 : d % p = a % p := by rw [h, Int.add_comm, Int.add_mul_emod_self_left]
  have h1 := Int.emod_nonneg a (show p ≠ 0 by omega)
  have h2 := Int.emod_lt_of_pos a hp
  have e := Int.mul_ediv_add_emod a p
  unfold apartI
  rw [e1]
  by_cases h0 : 0 ≤ a
  · have : a % p ≤ a := by
      have : 0 ≤ a / p := Int.ediv_nonneg h0 (by omega)
      have := Int.mul_nonneg (show 0 ≤ p by omega) this
      omega
    split <;> omega
  · have hq : a / p ≤ -1 := by
      have := Int.ediv_lt_of_lt_mul hp (show a < 0 * p by omega)
      omega
    have : p * (a / p) ≤ p * (-1) := Int.mul_le_mul_of_nonneg_left hq (by omega)
    split <;> omega
theorem apart_neg {d p : Int} (hp : 0 < p) : apartI (-d) p = apartI d p := by
  have aux : ∀ x : Int, apartI (-x) p ≤ apartI x p := fun x => by
    obtain ⟨k, h | h⟩ := apart_at (d := x) hp
    · have := apart_le (d := -x) hp (-k) (-apartI x p) (by rw [Int.mul_neg]; omega)
      have := apart_nn (d := x) hp
      omega
    · have := apart_le (d := -x) hp (-k) (apartI x p) (by rw [Int.mul_neg]; omega)
      have := apart_nn (d := x) hp
      omega
  have h1 := aux d
  have h2 := aux (-d)
  rw [Int.neg_neg] at h2
  omega
theorem apart_round {d p : Int} (hp : 0 < p) (k : Int) : apartI (d + p * k) p = apartI d p := by
  unfold apartI
  rw [Int.add_mul_emod_self_left]
theorem apart_tri {d e p : Int} (hp : 0 < p) : apartI (d + e) p ≤ apartI d p + apartI e p := by
  have n1 := apart_nn (d := d) hp
  have n2 := apart_nn (d := e) hp
  obtain ⟨k, h⟩ := apart_at (d := d) hp
  obtain ⟨l, g⟩ := apart_at (d := e) hp
  have fin : ∀ a : Int, d + e = p * (k + l) + a → (a.natAbs : Int) ≤ apartI d p + apartI e p → apartI (d + e) p ≤ apartI d p + apartI e p := fun a ha hb =>
    Int.le_trans (apart_le hp (k + l) a ha) hb
  have ex : p * (k + l) = p * k + p * l := Int.mul_add _ _ _
  rcases h with h | h <;> rcases g with g | g
  · exact fin (apartI d p + apartI e p) (by rw [ex]; omega) (by omega)
  · exact fin (apartI d p - apartI e p) (by rw [ex]; omega) (by omega)
  · exact fin (-apartI d p + apartI e p) (by rw [ex]; omega) (by omega)
  · exact fin (-apartI d p - apartI e p) (by rw [ex]; omega) (by omega)
theorem apart_mult {p k : Int} (hp : 0 < p) : apartI (p * k) p = 0 := by
  unfold apartI
  rw [Int.mul_emod_right]
  split <;> omega
theorem apart_self {p : Int} (hp : 0 < p) : apartI p p = 0 := by
  have h := apart_mult (k := 1) hp
  rwa [Int.mul_one] at h
theorem apart_reach {d p : Int} (hp : 0 < p) : apartI (d - apartI d p) p = 0 ∨ apartI (d + apartI d p) p = 0 := by
  obtain ⟨k, h | h⟩ := apart_at (d := d) hp
  · left
    have e : d - apartI d p = p * k := by omega
    rw [e]; exact apart_mult hp
  · right
    have e : d + apartI d p = p * k := by omega
    rw [e]; exact apart_mult hp

theorem gcd_emod (a b : Int) : Int.gcd (a % b) b = Int.gcd a b := by
  have e := Int.mul_ediv_add_emod a b
  have h : a % b = a - a / b * b := by rw [Int.mul_comm]; omega
  rw [h]; exact Int.gcd_sub_mul_right_left _ _ _
/-! ### the inverse, by Euclid's division -/
structure Euc (number divisor left right found following : Int) : Prop where
  l : 0 < left
  r : 0 ≤ right
  rl : right < left ∨ left = divisor
  le : left ≤ divisor
  rd : right < divisor
  g : Nat.gcd left.natAbs right.natAbs = Nat.gcd divisor.natAbs number.natAbs
  c1 : divisor ∣ found * number - left
  c2 : divisor ∣ following * number - right
  s : (found ≤ 0 ∧ 0 ≤ following ∧ left * following - right * found = divisor) ∨ (0 ≤ found ∧ following ≤ 0 ∧ right * found - left * following = divisor)
theorem Euc.start {number divisor : Int} (hd : 0 < divisor) : Euc number divisor divisor (number % divisor) 0 1 where
  l := hd
  r := Int.emod_nonneg _ (by omega)
  rl := .inr rfl
  le := Int.le_refl _
  rd := Int.emod_lt_of_pos _ hd
  g := by
    have e := Int.mul_ediv_add_emod number divisor
    have h : ((Nat.gcd divisor.natAbs (number % divisor).natAbs : Nat) : Int) = ((Nat.gcd divisor.natAbs number.natAbs : Nat) : Int) := by
      show ((Int.gcd divisor (number % divisor) : Nat) : Int) = ((Int.gcd divisor number : Nat) : Int)
      congr 1
      rw [Int.gcd_comm, Int.gcd_comm divisor number]
      exact gcd_emod _ _
    exact Int.natCast_inj.mp h
  c1 := ⟨-1, by omega⟩
  c2 := by
    have e := Int.mul_ediv_add_emod number divisor
    exact ⟨number / divisor, by omega⟩
  s := .inl ⟨Int.le_refl _, by omega, by omega⟩
theorem Euc.turn {number divisor left right found following : Int} (E : Euc number divisor left right found following) (h : right ≠ 0) :
    Euc number divisor right (left - left / right * right) following (found - left / right * following) := by
  have hr : 0 < right := by have := E.r; omega
  have e := Int.mul_ediv_add_emod left right
  have em : left - left / right * right = left % right := by rw [Int.mul_comm]; omega
  have h1 := Int.emod_nonneg left (show right ≠ 0 by omega)
  have h2 := Int.emod_lt_of_pos left hr
  have hq : 0 ≤ left / right := Int.ediv_nonneg (Int.le_of_lt E.l) (by omega)
  have lrd := E.rd
  refine ⟨hr, by omega, .inl (by omega), by omega, by omega, ?_, E.c2, ?_, ?_⟩
  · rw [← E.g, em]
    show Int.gcd right (left % right) = Int.gcd left right
    rw [Int.gcd_comm]
    exact gcd_emod _ _
  · obtain ⟨a, ha⟩ := E.c1
    obtain ⟨b, hb⟩ := E.c2
    refine ⟨a - left / right * b, ?_⟩
    rw [Int.sub_mul, Int.mul_sub]
    have x1 : left / right * following * number = left / right * (following * number) := Int.mul_assoc _ _ _
    have x2 : divisor * (left / right * b) = left / right * (divisor * b) := by rw [← Int.mul_assoc, Int.mul_comm divisor, Int.mul_assoc]
    rw [x1, x2, ← hb, ← ha, Int.mul_sub]
    omega
  · have hm : ∀ x : Int, 0 ≤ x → 0 ≤ left / right * x := fun x hx => Int.mul_nonneg hq hx
    have hn : ∀ x : Int, x ≤ 0 → left / right * x ≤ 0 := fun x hx => by
      have := Int.mul_nonneg hq (show 0 ≤ -x by omega)
      rw [Int.mul_neg] at this
      omega
    have y1 : right * (found - left / right * following) = right * found - right * (left / right * following) := Int.mul_sub _ _ _
    have y2 : (left - left / right * right) * following = left * following - left / right * right * following := Int.sub_mul _ _ _
    have y3 : left / right * right * following = right * (left / right * following) := by rw [Int.mul_comm (left / right) right, Int.mul_assoc]
    rcases E.s with ⟨s1, s2, s3⟩ | ⟨s1, s2, s3⟩
    · refine .inr ⟨s2, by have := hm _ s2; omega, ?_⟩
      rw [y1, y2, y3]; omega
    · refine .inl ⟨s2, by have := hn _ s2; omega, ?_⟩
      rw [y1, y2, y3]; omega
theorem Euc.less {number divisor left right found following : Int} (E : Euc number divisor left right found following) (h : right ≠ 0) : (left - left / right * right).toNat < right.toNat := by
  have hr : 0 < right := by have := E.r; omega
  have e := Int.mul_ediv_add_emod left right
  have em : left - left / right * right = left % right := by rw [Int.mul_comm]; omega
  have h1 := Int.emod_nonneg left (show right ≠ 0 by omega)
  have h2 := Int.emod_lt_of_pos left hr
  omega
/-- the sizes -/
theorem Euc.size {number divisor left right found following : Int} (E : Euc number divisor left right found following) : following.natAbs ≤ divisor.natAbs ∧ (right ≠ 0 → found.natAbs ≤ divisor.natAbs) := by
  have l := E.l
  have r := E.r
  have key : ∀ a b c e : Int, 0 < a → 0 ≤ b → 0 ≤ c → 0 ≤ e → a * c + b * e = divisor → c ≤ divisor ∧ (b ≠ 0 → e ≤ divisor) := fun a b c e ha hb hc he h => by
    have p1 := Int.mul_nonneg hb he
    have p2 : c ≤ a * c := by
      have := Int.mul_le_mul_of_nonneg_right (show 1 ≤ a by omega) hc
      omega
    refine ⟨by omega, fun hb0 => ?_⟩
    have p3 : e ≤ b * e := by
      have := Int.mul_le_mul_of_nonneg_right (show 1 ≤ b by omega) he
      omega
    have p4 := Int.mul_nonneg (Int.le_of_lt ha) hc
    omega
  rcases E.s with ⟨s1, s2, s3⟩ | ⟨s1, s2, s3⟩
  · have k := key left right following (-found) l r s2 (by omega) (by rw [Int.mul_neg]; omega)
    exact ⟨by omega, fun h => by have := k.2 h; omega⟩
  · have k := key left right (-following) found l r (by omega) s1 (by rw [Int.mul_neg]; omega)
    exact ⟨by omega, fun h => by have := k.2 h; omega⟩
theorem Euc.fin {number divisor left found following : Int} (E : Euc number divisor left 0 found following) (hg : Nat.gcd divisor.natAbs number.natAbs = 1) : divisor ∣ found * number - 1 := by
  have g := E.g
  rw [hg] at g
  have l := E.l
  have : left = 1 := by
    simp at g
    omega
  have c := E.c1
  rwa [this] at c
end NM

/-! ### decimal texts, their numbers; words and blanks -/
namespace NX
open PySem
/-- signs of a decimal number, written as it is: no sign ahead, no 0 ahead of another digit -/
def canon (a : List Nat) : Bool := !a.isEmpty && a.all (fun c => decide (48 ≤ c) && decide (c ≤ 57)) && (decide (a.head? ≠ some 48) || decide (a.length = 1))
theorem canon_ne {a : List Nat} (h : canon a = true) : a ≠ [] := by
  rintro rfl
  exact absurd h (by decide)
theorem canon_dig {a : List Nat} (h : canon a = true) : a.all (fun c => decide (48 ≤ c) && decide (c ≤ 57)) = true := by
  unfold canon at h
  rw [Bool.and_eq_true, Bool.and_eq_true] at h
  exact h.1.2
theorem canon_head {a : List Nat} (h : canon a = true) : a.head? ≠ some 48 ∨ a.length = 1 := by
  unfold canon at h
  rw [Bool.and_eq_true, Bool.or_eq_true] at h
  exact h.2.imp of_decide_eq_true of_decide_eq_true
theorem canon_mk {a : List Nat} (h1 : a ≠ []) (h2 : a.all (fun c => decide (48 ≤ c) && decide (c ≤ 57)) = true) (h3 : a.head? ≠ some 48 ∨ a.length = 1) : canon a = true := by
  unfold canon
  rw [h2, Bool.and_true, Bool.and_eq_true, Bool.or_eq_true]
  refine ⟨?_, h3.imp decide_eq_true decide_eq_true⟩
  cases a with
  | nil => exact absurd rfl h1
  | cons _ _ => rfl
theorem val_snoc (b : List Nat) (c : Nat) : NumText.digitsVal (b ++ [c]) = NumText.digitsVal b * 10 + (c - 48) := by
  unfold NumText.digitsVal
  rw [List.foldl_append]
  rfl
theorem numL0 : TL.numL 0 = [48] := TL.numL_lt (by decide)
theorem canon_num : ∀ (k : Nat) (a : List Nat), a.length = k → canon a = true → TL.numL (NumText.digitsVal a) = a := by
  intro k
  induction k with
  | zero => intro a hl h; exact absurd (List.length_eq_zero_iff.mp hl) (canon_ne h)
  | succ k ih =>
    intro a hl h
    rcases List.eq_nil_or_concat a with rfl | ⟨b, c, rfl⟩
    · exact absurd rfl (canon_ne h)
    · rw [List.concat_eq_append] at *
      have hd := canon_dig h
      rw [List.all_append, Bool.and_eq_true] at hd
      have hc : 48 ≤ c ∧ c ≤ 57 := by
        have := hd.2
        simp only [List.all_cons, List.all_nil, Bool.and_true, Bool.and_eq_true, decide_eq_true_eq] at this
        exact this
      rw [List.length_append, List.length_singleton] at hl
      cases b with
      | nil =>
        rw [List.nil_append, show NumText.digitsVal [c] = c - 48 from by unfold NumText.digitsVal; simp, TL.numL_lt (by omega)]
        congr 1
        omega
      | cons d b =>
        have hh : (d :: b).head? ≠ some 48 := by
          rcases canon_head h with z | z
          · simpa using z
          · rw [List.length_append] at z
            simp at z
        have hb : canon (d :: b) = true := canon_mk (by simp) hd.1 (.inl hh)
        have e := ih (d :: b) (by omega) hb
        have pos : 1 ≤ NumText.digitsVal (d :: b) := by
          rcases Nat.eq_zero_or_pos (NumText.digitsVal (d :: b)) with z | z
          · rw [z, numL0] at e
            rw [← e] at hh
            exact absurd rfl hh
          · exact z
        rw [val_snoc, TL.numL_step (by omega), show (NumText.digitsVal (d :: b) * 10 + (c - 48)) / 10 = NumText.digitsVal (d :: b) by omega, show (NumText.digitsVal (d :: b) * 10 + (c - 48)) % 10 = c - 48 by omega, e]
        congr 2
        omega
theorem canon_eq {a : List Nat} (h : canon a = true) : TL.numL (NumText.digitsVal a) = a := canon_num _ a rfl h
theorem numL_canon (n : Nat) : canon (TL.numL n) = true := by
  refine canon_mk (TL.numL_ne n) ?_ ?_
  · rw [List.all_eq_true]
    intro c hc
    have := TL.numL_digits n c hc
    simp only [Bool.and_eq_true, decide_eq_true_eq]
    exact this
  · induction n using Nat.strongRecOn with
    | _ n ih =>
      rcases Nat.lt_or_ge n 10 with h | h
      · right; rw [TL.numL_lt h]; rfl
      · left
        rw [TL.numL_step h]
        have ne := TL.numL_ne (n / 10)
        have e : (TL.numL (n / 10) ++ [48 + n % 10]).head? = (TL.numL (n / 10)).head? := by
          cases q : TL.numL (n / 10) with
          | nil => exact absurd q ne
          | cons _ _ => rfl
        rw [e]
        rcases ih (n / 10) (by omega) with z | z
        · exact z
        · intro w
          have l1 : TL.numL (n / 10) = [48] := by
            cases q : TL.numL (n / 10) with
            | nil => exact absurd q ne
            | cons x y =>
              rw [q] at z w
              cases y with
              | nil => cases w; rfl
              | cons _ _ => simp at z
          have v := TL.numL_val (n / 10)
          rw [l1] at v
          have v0 : NumText.digitsVal [48] = 0 := by decide
          omega
/-- what such a text of more than 13 digits is worth -/
theorem canon_great {a : List Nat} (h : canon a = true) (hl : 13 < a.length) : 10 ^ 13 ≤ NumText.digitsVal a := by
  rcases Nat.lt_or_ge (NumText.digitsVal a) (10 ^ 13) with z | z
  · have := TL.numL_len (k := 13) (by decide) z
    rw [canon_eq h] at this
    omega
  · exact z
end NX

/-! ### words of a wheel's text -/
namespace NX
open PySem
def num (i : Int) : Str := Str.ofString (toString i)
theorem num_nat (n : Nat) : num (n : Int) = ⟨(TL.numL n).toArray⟩ := TL.ext_tl (TL.tl_num n)
theorem tl_num (n : Nat) : TL.tl (num (n : Int)) = TL.numL n := TL.tl_num n
/-- the number of a word, if it is one -/
def numG (w : Str) : Option Int := if canon (TL.tl w) = true ∧ (TL.tl w).length ≤ 120 then some (NumText.digitsVal (TL.tl w) : Nat) else Option.none
theorem numG_eq {w : Str} {n : Int} (h : numG w = some n) : w = num n ∧ 0 ≤ n := by
  unfold numG at h
  split at h
  · rename_i c
    cases h
    exact ⟨TL.ext_tl (by rw [tl_num, canon_eq c.1]), Int.natCast_nonneg _⟩
  · cases h
theorem numG_num {n : Int} (h0 : 0 ≤ n) (h1 : n ≤ 1000000000000) : numG (num n) = some n := by
  obtain ⟨m, rfl⟩ := Int.eq_ofNat_of_zero_le h0
  have hm : m < 10 ^ 13 := by omega
  unfold numG
  rw [tl_num, if_pos ⟨numL_canon m, Nat.le_trans (TL.numL_len (by decide) hm) (by decide)⟩, TL.numL_val]
/-- .. within bounds -/
def tkV (lo : Int) (w : Str) : Option Int := match numG w with
  | some n => if lo ≤ n ∧ n ≤ 1000000000000 then some n else Option.none
  | Option.none => Option.none
theorem tkV_eq {lo n : Int} {w : Str} (h : tkV lo w = some n) : w = num n ∧ 0 ≤ n ∧ lo ≤ n ∧ n ≤ 1000000000000 ∧ numG w = some n := by
  unfold tkV at h
  cases e : numG w with
  | none => rw [e] at h; cases h
  | some m =>
    rw [e] at h
    simp only at h
    split at h
    · rename_i c
      cases h
      exact ⟨(numG_eq e).1, (numG_eq e).2, c.1, c.2, rfl⟩
    · cases h
theorem tkV_num {lo n : Int} (h0 : 0 ≤ n) (hl : lo ≤ n) (h1 : n ≤ 1000000000000) : tkV lo (num n) = some n := by
  unfold tkV
  rw [numG_num h0 h1]
  simp only
  rw [if_pos ⟨hl, h1⟩]
def tk (ws : List Str) (i : Nat) (lo : Int) : Option Int := ws[i]?.bind (tkV lo)
theorem tk_eq {ws : List Str} {i : Nat} {lo n : Int} (h : tk ws i lo = some n) : 0 ≤ n ∧ lo ≤ n ∧ n ≤ 1000000000000 := by
  unfold tk at h
  cases q : ws[i]? with
  | none => rw [q] at h; cases h
  | some v =>
    rw [q] at h
    have := tkV_eq (w := v) h
    exact ⟨this.2.1, this.2.2.1, this.2.2.2.1⟩
/-- what the words tell: trust, period, back, ahead; or the first word that cannot stand -/
def readW (ws : List Str) : Except Nat (Bool × Int × Int × Int) :=
  if ws[0]? = some ("grid" : Str) then match tk ws 1 2 with
    | Option.none => .error 1
    | some p => if 2 < ws.length then .error 2 else .ok (true, p, 0, 0)
  else if ws[0]? = some ("wheel" : Str) then match tk ws 1 2 with
    | Option.none => .error 1
    | some p => match tk ws 2 0 with
      | Option.none => .error 2
      | some b => match tk ws 3 0 with
        | Option.none => .error 3
        | some a => if 4 < ws.length then .error 4 else .ok (false, p, b, a)
  else .error 0
/-- the same ahead of the question whether a word is left: the number of words that are taken too -/
def headW (ws : List Str) : Except Nat (Bool × Int × Int × Int × Nat) :=
  if ws[0]? = some ("grid" : Str) then match tk ws 1 2 with
    | Option.none => .error 1
    | some p => .ok (true, p, 0, 0, 2)
  else if ws[0]? = some ("wheel" : Str) then match tk ws 1 2 with
    | Option.none => .error 1
    | some p => match tk ws 2 0 with
      | Option.none => .error 2
      | some b => match tk ws 3 0 with
        | Option.none => .error 3
        | some a => .ok (false, p, b, a, 4)
  else .error 0
theorem readW_head (ws : List Str) : readW ws = match headW ws with
  | .error i => .error i
  | .ok (tr, p, b, a, n) => if n < ws.length then .error n else .ok (tr, p, b, a) := by
  unfold readW headW
  split
  · cases tk ws 1 2 <;> rfl
  · split
    · cases tk ws 1 2 with
      | none => rfl
      | some p =>
        cases tk ws 2 0 with
        | none => rfl
        | some b => cases tk ws 3 0 <;> rfl
    · rfl
def wwords (tr : Bool) (p b a : Int) : List Str := if tr = true then ["grid", num p] else ["wheel", num p, num b, num a]
def wtext (tr : Bool) (p b a : Int) : Str := if tr = true then "grid " ++ num p else "wheel " ++ num p ++ " " ++ num b ++ " " ++ num a
theorem join_words (tr : Bool) (p b a : Int) : Txt.join " " (wwords tr p b a) = wtext tr p b a := by
  refine TL.ext_tl ?_
  rw [TL.join_eq, TL.tl_join]
  cases tr with
  | true =>
    show TL.joinL _ _ = TL.tl (("grid " : Str) ++ num p)
    rw [TL.tl_append]
    simp only [wwords, if_true, List.map_cons, List.map_nil, TL.joinL]
    rfl
  | false =>
    show TL.joinL _ _ = TL.tl (("wheel " : Str) ++ num p ++ " " ++ num b ++ " " ++ num a)
    simp only [wwords, Bool.false_eq_true, if_false, List.map_cons, List.map_nil, TL.joinL, TL.tl_append]
    have e : TL.tl ("wheel " : Str) = TL.tl ("wheel" : Str) ++ TL.tl (" " : Str) := by decide
    rw [e]
    simp only [List.append_assoc]
theorem read_ok {ws : List Str} {tr : Bool} {p b a : Int} (h : readW ws = .ok (tr, p, b, a)) : ws = wwords tr p b a ∧ (2 ≤ p ∧ p ≤ 1000000000000) ∧ (0 ≤ b ∧ b ≤ 1000000000000) ∧ (0 ≤ a ∧ a ≤ 1000000000000) ∧ (tr = true → b = 0 ∧ a = 0) := by
  unfold readW at h
  split at h
  · rename_i h0
    cases e1 : tk ws 1 2 with
    | none => rw [e1] at h; cases h
    | some q =>
      rw [e1] at h
      simp only at h
      split at h
      · cases h
      · rename_i hl
        cases h
        match ws, h0, e1, hl with
        | [w0, w1], h0, e1, _ =>
          cases h0
          obtain ⟨rfl, z0, z1, z2, _⟩ := tkV_eq (w := w1) e1
          exact ⟨rfl, ⟨z1, z2⟩, ⟨by decide, by decide⟩, ⟨by decide, by decide⟩, fun _ => ⟨rfl, rfl⟩⟩
        | [w0], _, e1, _ => cases e1
        | _ :: _ :: _ :: _, _, _, hl => simp at hl
  · split at h
    · rename_i h0
      cases e1 : tk ws 1 2 with
      | none => rw [e1] at h; cases h
      | some q =>
        rw [e1] at h
        simp only at h
        cases e2 : tk ws 2 0 with
        | none => rw [e2] at h; cases h
        | some q2 =>
          rw [e2] at h
          simp only at h
          cases e3 : tk ws 3 0 with
          | none => rw [e3] at h; cases h
          | some q3 =>
            rw [e3] at h
            simp only at h
            split at h
            · cases h
            · rename_i hl
              cases h
              match ws, h0, e1, e2, e3, hl with
              | [w0, w1, w2, w3], h0, e1, e2, e3, _ =>
                cases h0
                obtain ⟨rfl, z0, z1, z2, _⟩ := tkV_eq (w := w1) e1
                obtain ⟨rfl, y0, y1, y2, _⟩ := tkV_eq (w := w2) e2
                obtain ⟨rfl, x0, x1, x2, _⟩ := tkV_eq (w := w3) e3
                exact ⟨rfl, ⟨z1, z2⟩, ⟨y0, y2⟩, ⟨x0, x2⟩, fun z => by cases z⟩
              | [w0], _, e1, _, _, _ => cases e1
              | [w0, w1], _, _, e2, _, _ => cases e2
              | [w0, w1, w2], _, _, _, e3, _ => cases e3
              | _ :: _ :: _ :: _ :: _ :: _, _, _, _, _, hl => simp at hl
    · cases h
theorem read_own {tr : Bool} {p b a : Int} (hp : 2 ≤ p ∧ p ≤ 1000000000000) (hb : 0 ≤ b ∧ b ≤ 1000000000000) (ha : 0 ≤ a ∧ a ≤ 1000000000000) (ht : tr = true → b = 0 ∧ a = 0) : readW (wwords tr p b a) = .ok (tr, p, b, a) := by
  have t1 : tkV 2 (num p) = some p := tkV_num (by omega) hp.1 hp.2
  cases tr with
  | true =>
    obtain ⟨rfl, rfl⟩ := ht rfl
    show readW ["grid", num p] = _
    unfold readW
    rw [if_pos (show ((["grid", num p] : List Str)[0]? = some ("grid" : Str)) from rfl), show tk ["grid", num p] 1 2 = some p from t1]
    rfl
  | false =>
    show readW ["wheel", num p, num b, num a] = _
    unfold readW
    rw [if_neg (show ¬ ((["wheel", num p, num b, num a] : List Str)[0]? = some ("grid" : Str)) from show ¬ (some ("wheel" : Str) = some ("grid" : Str)) by decide), if_pos (show ((["wheel", num p, num b, num a] : List Str)[0]? = some ("wheel" : Str)) from rfl), show tk ["wheel", num p, num b, num a] 1 2 = some p from t1, show tk ["wheel", num p, num b, num a] 2 0 = some b from tkV_num hb.1 hb.1 hb.2, show tk ["wheel", num p, num b, num a] 3 0 = some a from tkV_num ha.1 ha.1 ha.2]
    rfl
theorem num_free {n : Int} (h : 0 ≤ n) : 32 ∉ TL.tl (num n) := by
  obtain ⟨m, rfl⟩ := Int.eq_ofNat_of_zero_le h
  rw [tl_num]
  exact TL.numL_free (.inl (by decide))
theorem wwords_free {tr : Bool} {p b a : Int} (hp : 0 ≤ p) (hb : 0 ≤ b) (ha : 0 ≤ a) : ∀ w ∈ wwords tr p b a, 32 ∉ TL.tl w := by
  cases tr with
  | true =>
    intro w hw
    simp only [wwords, if_true, List.mem_cons, List.not_mem_nil, or_false] at hw
    rcases hw with rfl | rfl
    · decide
    · exact num_free hp
  | false =>
    intro w hw
    simp only [wwords, Bool.false_eq_true, if_false, List.mem_cons, List.not_mem_nil, or_false] at hw
    rcases hw with rfl | rfl | rfl | rfl
    · decide
    · exact num_free hp
    · exact num_free hb
    · exact num_free ha
theorem split_words {ws : List Str} (h : ws ≠ []) (hf : ∀ w ∈ ws, 32 ∉ TL.tl w) : Txt.split (Txt.join " " ws) " " = ws := by
  exact TL.split_join (y := " ") (s := 32) (S := []) (by decide) (by decide +kernel) h hf
theorem len_num {n : Int} (h0 : 0 ≤ n) (h1 : n ≤ 1000000000000) : (num n).length ≤ 13 := by
  obtain ⟨m, rfl⟩ := Int.eq_ofNat_of_zero_le h0
  rw [TL.len_tl, tl_num]
  exact TL.numL_len (by decide) (by omega)
/-- a digit text within bounds, of at most 13 digits -/
def figs (w : Str) (lo : Int) : Bool := canon (TL.tl w) && decide ((TL.tl w).length ≤ 13) && decide (lo ≤ (NumText.digitsVal (TL.tl w) : Nat)) && decide (((NumText.digitsVal (TL.tl w) : Nat) : Int) ≤ 1000000000000)
theorem figs_tk (w : Str) (lo : Int) : figs w lo = (tkV lo w).isSome := by
  unfold figs tkV numG
  by_cases hc : canon (TL.tl w) = true
  · by_cases hl : (TL.tl w).length ≤ 120
    · rw [if_pos ⟨hc, hl⟩, hc]
      simp only [Bool.true_and]
      by_cases hb : lo ≤ ((NumText.digitsVal (TL.tl w) : Nat) : Int) ∧ ((NumText.digitsVal (TL.tl w) : Nat) : Int) ≤ 1000000000000
      · rw [if_pos hb, decide_eq_true hb.1, decide_eq_true hb.2]
        have : (TL.tl w).length ≤ 13 := by
          rcases Nat.lt_or_ge 13 (TL.tl w).length with z | z
          · have := canon_great hc z
            omega
          · exact z
        rw [decide_eq_true this]
        rfl
      · rw [if_neg hb]
        rw [Bool.and_assoc]
        have : (decide (lo ≤ ((NumText.digitsVal (TL.tl w) : Nat) : Int)) && decide (((NumText.digitsVal (TL.tl w) : Nat) : Int) ≤ 1000000000000)) = false := by
          rw [← Bool.decide_and, decide_eq_false hb]
        rw [this, Bool.and_false]
        rfl
    · rw [if_neg (fun z => hl z.2), decide_eq_false (show ¬ (TL.tl w).length ≤ 13 by omega), Bool.and_false, Bool.false_and, Bool.false_and]
      rfl
  · rw [if_neg (fun z => hc z.1), Bool.eq_false_iff.mpr hc, Bool.false_and, Bool.false_and, Bool.false_and]
    rfl
/-- signs of a digit text, as Python's own tests tell them -/
theorem dig_ascii : ∀ c : Nat, c < 128 → Unicode.isDigit c = (decide (48 ≤ c) && decide (c ≤ 57)) := by decide +kernel
theorem ascii_digits (w : Str) : (Txt.isascii w && Txt.isdigit w) = (!(TL.tl w).isEmpty && (TL.tl w).all (fun c => decide (48 ≤ c) && decide (c ≤ 57))) := by
  unfold Txt.isascii Txt.isdigit
  rw [Bool.eq_iff_iff]
  simp only [Bool.and_eq_true, Array.all_eq_true', decide_eq_true_eq, List.all_eq_true, Bool.not_eq_true']
  have hl : w.length > 0 ↔ (TL.tl w).isEmpty = false := by
    rw [TL.len_tl]
    cases TL.tl w <;> simp
  have hm : ∀ c, c ∈ w.cps ↔ c ∈ TL.tl w := fun c => by simp [TL.tl]
  constructor
  · rintro ⟨h1, h2, h3⟩
    refine ⟨hl.mp h2, fun c hc => ?_⟩
    have a := h1 c ((hm c).mpr hc)
    have b := h3 c ((hm c).mpr hc)
    rw [dig_ascii c a] at b
    simpa using b
  · rintro ⟨h1, h2⟩
    refine ⟨fun c hc => ?_, hl.mpr h1, fun c hc => ?_⟩
    · have := h2 c ((hm c).mp hc)
      omega
    · have b := h2 c ((hm c).mp hc)
      rw [dig_ascii c (by omega)]
      simpa using b
theorem int_text {w : Str} (h : canon (TL.tl w) = true) (hl : (TL.tl w).length ≤ 4300) : intText? w = some ((NumText.digitsVal (TL.tl w) : Nat) : Int) := by
  have e := SX.int_S (canon_dig h) (canon_ne h) hl
  rw [show SX.S (TL.tl w) = w from TL.mk_tl w] at e
  exact e
/-- the words behind the first one are asked one by one -/
theorem readW_ls {ws : List Str} {ls : List Int} (h : (ws[0]? = some ("grid" : Str) ∧ ls = [2]) ∨ (ws[0]? = some ("wheel" : Str) ∧ ls = [2, 0, 0])) :
    (∀ (j : Nat) (lo : Int), ls[j]? = some lo → (∀ (i : Nat) (lo' : Int), i < j → ls[i]? = some lo' → (tk ws (i + 1) lo').isSome = true) → tk ws (j + 1) lo = Option.none → readW ws = .error (j + 1)) ∧
    ((∀ (i : Nat) (lo : Int), ls[i]? = some lo → (tk ws (i + 1) lo).isSome = true) → (ls.length + 1 < ws.length → readW ws = .error (ls.length + 1)) ∧ (¬ ls.length + 1 < ws.length → ∃ r, readW ws = .ok r)) := by
  rcases h with ⟨h0, rfl⟩ | ⟨h0, rfl⟩
  · refine ⟨fun j lo hj hb hn => ?_, fun ha => ?_⟩
    · match j, hj with
      | 0, hj =>
        cases hj
        unfold readW
        rw [if_pos h0, hn]
    · obtain ⟨p, hp⟩ := Option.isSome_iff_exists.mp (ha 0 2 rfl)
      have hp : tk ws 1 2 = some p := hp
      refine ⟨fun hl => ?_, fun hl => ?_⟩
      · unfold readW
        rw [if_pos h0, hp]
        simp only
        exact if_pos hl
      · refine ⟨(true, p, 0, 0), ?_⟩
        unfold readW
        rw [if_pos h0, hp]
        simp only
        exact if_neg hl
  · have hg : ¬ (ws[0]? = some ("grid" : Str)) := by rw [h0]; decide
    refine ⟨fun j lo hj hb hn => ?_, fun ha => ?_⟩
    · match j, hj with
      | 0, hj =>
        cases hj
        unfold readW
        rw [if_neg hg, if_pos h0, hn]
      | 1, hj =>
        cases hj
        obtain ⟨p, hp⟩ := Option.isSome_iff_exists.mp (hb 0 2 (by decide) rfl)
        have hp : tk ws 1 2 = some p := hp
        unfold readW
        rw [if_neg hg, if_pos h0, hp]
        simp only
        rw [hn]
      | 2, hj =>
        cases hj
        obtain ⟨p, hp⟩ := Option.isSome_iff_exists.mp (hb 0 2 (by decide) rfl)
        have hp : tk ws 1 2 = some p := hp
        obtain ⟨b, hb'⟩ := Option.isSome_iff_exists.mp (hb 1 0 (by decide) rfl)
        have hb' : tk ws 2 0 = some b := hb'
        unfold readW
        rw [if_neg hg, if_pos h0, hp]
        simp only
        rw [hb']
        simp only
        rw [hn]
    · obtain ⟨p, hp⟩ := Option.isSome_iff_exists.mp (ha 0 2 rfl)
      have hp : tk ws 1 2 = some p := hp
      obtain ⟨b, hb⟩ := Option.isSome_iff_exists.mp (ha 1 0 rfl)
      have hb : tk ws 2 0 = some b := hb
      obtain ⟨a, hc⟩ := Option.isSome_iff_exists.mp (ha 2 0 rfl)
      have hc : tk ws 3 0 = some a := hc
      refine ⟨fun hl => ?_, fun hl => ⟨(false, p, b, a), ?_⟩⟩
      · unfold readW
        rw [if_neg hg, if_pos h0, hp]
        simp only
        rw [hb]
        simp only
        rw [hc]
        simp only
        exact if_pos hl
      · unfold readW
        rw [if_neg hg, if_pos h0, hp]
        simp only
        rw [hb]
        simp only
        rw [hc]
        simp only
        exact if_neg hl
theorem readW_no {ws : List Str} (h1 : ws[0]? ≠ some ("wheel" : Str)) (h2 : ws[0]? ≠ some ("grid" : Str)) : readW ws = .error 0 := by
  unfold readW
  rw [if_neg h2, if_neg h1]
end NX

/-! ### gears: fractions in least terms, periods, words -/
namespace NG
open PySem
def g2 (a b : Int) : Int := ((Nat.gcd a.natAbs b.natAbs : Nat) : Int)
theorem g2_pos {a b : Int} (h : 0 < b) : 0 < g2 a b := by
  unfold g2
  have := Nat.gcd_pos_of_pos_right (m := a.natAbs) (n := b.natAbs) (by omega)
  omega
theorem g2_le {a b : Int} (h : 0 < b) : g2 a b ≤ b := by
  unfold g2
  have := Nat.gcd_le_right a.natAbs (n := b.natAbs) (by omega)
  omega
theorem nat_dvd {n : Nat} {a : Int} (h : n ∣ a.natAbs) : (n : Int) ∣ a := Int.dvd_natAbs.mp (Int.ofNat_dvd.mpr h)
theorem g2_dvd1 (a b : Int) : g2 a b ∣ a := by
  unfold g2
  exact nat_dvd (Nat.gcd_dvd_left _ _)
theorem g2_dvd2 (a b : Int) : g2 a b ∣ b := by
  unfold g2
  exact nat_dvd (Nat.gcd_dvd_right _ _)
theorem gcdL2 (a b : Int) : ((NM.gcdL [a, b] : Nat) : Int) = g2 a b := by
  unfold NM.gcdL g2
  simp
abbrev Fr := Int × Int
def low (a b : Int) : Fr := (a / g2 a b, b / g2 a b)
theorem low_bounds {a b : Int} (ha : 0 ≤ a) (hb : 0 < b) : 0 ≤ (low a b).1 ∧ (low a b).1 ≤ a ∧ 0 < (low a b).2 ∧ (low a b).2 ≤ b := by
  have g := g2_pos (a := a) hb
  have gl := g2_le (a := a) hb
  unfold low
  refine ⟨Int.ediv_nonneg ha (by omega), Int.ediv_le_self _ ha, ?_, Int.ediv_le_self _ (by omega)⟩
  exact Int.ediv_pos_of_pos_of_dvd hb (by omega) (g2_dvd2 a b)
theorem low_pos {a b : Int} (ha : 0 < a) (hb : 0 < b) : 0 < (low a b).1 := by
  have g := g2_pos (a := a) hb
  unfold low
  exact Int.ediv_pos_of_pos_of_dvd ha (by omega) (g2_dvd1 a b)
theorem low_one {a b : Int} (ha : 0 ≤ a) (hb : 0 < b) : g2 (low a b).1 (low a b).2 = 1 := by
  obtain ⟨x, rfl⟩ := Int.eq_ofNat_of_zero_le ha
  obtain ⟨y, rfl⟩ := Int.eq_ofNat_of_zero_le (Int.le_of_lt hb)
  unfold low g2
  simp only [Int.natAbs_natCast, ← Int.natCast_ediv]
  rw [Nat.gcd_div_gcd_div_gcd_of_pos_right (by omega)]
  rfl
theorem low_of_one {a b : Int} (h : g2 a b = 1) : low a b = (a, b) := by
  unfold low
  rw [h, Int.ediv_one, Int.ediv_one]
theorem low_low {a b : Int} (ha : 0 ≤ a) (hb : 0 < b) : low (low a b).1 (low a b).2 = low a b := low_of_one (low_one ha hb)
/-- twice both: the same -/
theorem low_twice {a b : Int} : low (2 * a) (2 * b) = low a b := by
  unfold low g2
  rw [Int.natAbs_mul, Int.natAbs_mul, Nat.gcd_mul_left, Int.natCast_mul]
  show (2 * a / (2 * _), 2 * b / (2 * _)) = _
  rw [Int.mul_ediv_mul_of_pos _ _ (by decide), Int.mul_ediv_mul_of_pos _ _ (by decide)]
/-- a gear: on, driving, driven, slip -/
structure Gr where
  on : Int
  dg : Int
  dn : Int
  s : Fr
def FrOk (s : Fr) : Prop := 0 ≤ s.1 ∧ s.1 ≤ 1000000 ∧ 1 ≤ s.2 ∧ s.2 ≤ 1000000
def GrOk (i : Nat) (g : Gr) : Prop := 0 ≤ g.on ∧ g.on ≤ i ∧ 1 ≤ g.dg ∧ g.dg ≤ 1000 ∧ 1 ≤ g.dn ∧ g.dn ≤ 1000 ∧ FrOk g.s
def lowF (s : Fr) : Fr := low s.1 s.2
def Gr.nrm (g : Gr) : Gr := { g with s := lowF g.s }
theorem FrOk.low {s : Fr} (h : FrOk s) : FrOk (lowF s) := by
  obtain ⟨h1, h2, h3, h4⟩ := h
  have := low_bounds h1 (show 0 < s.2 by omega)
  unfold FrOk lowF
  omega
theorem lowF_low {s : Fr} (h : FrOk s) : lowF (lowF s) = lowF s := low_low h.1 (by have := h.2.2.1; omega)
theorem Gr.nrm_nrm {i : Nat} {g : Gr} (h : GrOk i g) : g.nrm.nrm = g.nrm := by
  unfold Gr.nrm
  simp only
  rw [lowF_low h.2.2.2.2.2.2]
theorem GrOk.nrm {i : Nat} {g : Gr} (h : GrOk i g) : GrOk i g.nrm := ⟨h.1, h.2.1, h.2.2.1, h.2.2.2.1, h.2.2.2.2.1, h.2.2.2.2.2.1, h.2.2.2.2.2.2.low⟩
/-- all gears in order, from the i-th on -/
def GsFrom : Nat → List Gr → Prop
  | _, [] => True
  | i, g :: gs => GrOk i g ∧ GsFrom (i + 1) gs
theorem GsFrom.at : ∀ {gs : List Gr} {i j : Nat} {g : Gr}, GsFrom i gs → gs[j]? = some g → GrOk (i + j) g
  | [], _, _, _, _, e => by simp at e
  | x :: gs, i, 0, g, h, e => by cases e; exact h.1
  | x :: gs, i, j + 1, g, h, e => by
    have := GsFrom.at (j := j) h.2 (by simpa using e)
    rw [show i + (j + 1) = i + 1 + j by omega]
    exact this
theorem GsFrom.snoc : ∀ {gs : List Gr} {i : Nat} {g : Gr}, GsFrom i gs → GrOk (i + gs.length) g → GsFrom i (gs ++ [g])
  | [], i, g, _, h => ⟨h, trivial⟩
  | x :: gs, i, g, h, k => ⟨h.1, GsFrom.snoc h.2 (by rw [List.length_cons] at k; rw [show i + 1 + gs.length = i + (gs.length + 1) by omega]; exact k)⟩
theorem GsFrom.nrm : ∀ {gs : List Gr} {i : Nat}, GsFrom i gs → GsFrom i (gs.map Gr.nrm)
  | [], _, _ => trivial
  | x :: gs, _, h => ⟨h.1.nrm, GsFrom.nrm h.2⟩
theorem GsFrom.nn : ∀ {gs : List Gr} {i : Nat}, GsFrom i gs → (gs.map Gr.nrm).map Gr.nrm = gs.map Gr.nrm
  | [], _, _ => rfl
  | x :: gs, _, h => by
    show x.nrm.nrm :: (gs.map Gr.nrm).map Gr.nrm = x.nrm :: gs.map Gr.nrm
    rw [Gr.nrm_nrm h.1, GsFrom.nn h.2]
theorem GsFrom.take : ∀ {gs : List Gr} {i : Nat} (k : Nat), GsFrom i gs → GsFrom i (gs.take k)
  | [], _, _, _ => by simp [GsFrom]
  | x :: gs, _, 0, _ => trivial
  | x :: gs, _, k + 1, h => ⟨h.1, GsFrom.take k h.2⟩
/-- the next period -/
def nxt (ps : List Fr) (g : Gr) : Fr := low ((ps.getD g.on.toNat (1, 1)).1 * g.dn) ((ps.getD g.on.toNat (1, 1)).2 * g.dg)
def pers (p : Int) (gs : List Gr) : List Fr := gs.foldl (fun ps g => ps ++ [nxt ps g]) [(p, 1)]
theorem pers_snoc (p : Int) (gs : List Gr) (g : Gr) : pers p (gs ++ [g]) = pers p gs ++ [nxt (pers p gs) g] := by
  unfold pers
  rw [List.foldl_append]
  rfl
theorem foldl_len {f : List Fr → Gr → Fr} : ∀ (gs : List Gr) (ps : List Fr), (gs.foldl (fun ps g => ps ++ [f ps g]) ps).length = ps.length + gs.length
  | [], _ => rfl
  | g :: gs, ps => by
    rw [List.foldl_cons, foldl_len gs, List.length_append, List.length_cons]
    simp
    omega
theorem pers_len (p : Int) (gs : List Gr) : (pers p gs).length = gs.length + 1 := by
  unfold pers
  rw [foldl_len gs]
  simp
  omega
theorem pers_take {p : Int} {gs : List Gr} {k : Nat} {g : Gr} (h : gs[k]? = some g) : pers p (gs.take (k + 1)) = pers p (gs.take k) ++ [nxt (pers p (gs.take k)) g] := by
  rw [NM.take_snoc h, pers_snoc]
theorem foldl_nrm : ∀ (gs : List Gr) (ps : List Fr), (gs.map Gr.nrm).foldl (fun ps g => ps ++ [nxt ps g]) ps = gs.foldl (fun ps g => ps ++ [nxt ps g]) ps
  | [], _ => rfl
  | g :: gs, ps => by
    rw [List.map_cons, List.foldl_cons, List.foldl_cons, foldl_nrm gs]
    rfl
theorem pers_nrm (p : Int) (gs : List Gr) : pers p (gs.map Gr.nrm) = pers p gs := foldl_nrm gs _
def bnd (k : Nat) : Int := 1000000 * 1000 ^ k
theorem bnd_succ (k : Nat) : bnd (k + 1) = 1000 * bnd k := by
  unfold bnd
  rw [Int.pow_succ, ← Int.mul_assoc, Int.mul_comm]
theorem bnd_pos (k : Nat) : 1000000 ≤ bnd k := by
  induction k with
  | zero => decide
  | succ k ih => rw [bnd_succ]; omega
def PfOk (b : Int) (t : Fr) : Prop := 0 < t.1 ∧ t.1 ≤ b ∧ 0 < t.2 ∧ t.2 ≤ b
theorem getD_ok {b : Int} {ps : List Fr} {i : Nat} (h : ∀ t ∈ ps, PfOk b t) (hi : i < ps.length) : ps[i]? = some (ps.getD i (1, 1)) ∧ PfOk b (ps.getD i (1, 1)) := by
  have e : ps.getD i (1, 1) = ps[i] := by simp [List.getD, List.getElem?_eq_getElem hi]
  rw [e]
  exact ⟨List.getElem?_eq_getElem hi, h _ (List.getElem_mem hi)⟩
/-- the products ahead of least terms -/
theorem mul_ok {b x y : Int} (h1 : 0 < x) (h2 : x ≤ b) (h3 : 1 ≤ y) (h4 : y ≤ 1000) : 0 < x * y ∧ x * y ≤ 1000 * b := by
  refine ⟨Int.mul_pos h1 (by omega), ?_⟩
  have a1 : x * y ≤ x * 1000 := Int.mul_le_mul_of_nonneg_left h4 (by omega)
  omega
theorem pers_ok {p : Int} {gs : List Gr} (hp : 1 ≤ p ∧ p ≤ 1000000) (hg : GsFrom 0 gs) : ∀ k, k ≤ gs.length → ∀ t ∈ pers p (gs.take k), PfOk (bnd k) t := by
  intro k
  induction k with
  | zero =>
    intro _ t ht
    rw [List.take_zero] at ht
    have : t = (p, 1) := by simpa [pers] using ht
    subst this
    have := bnd_pos 0
    refine ⟨?_, ?_, ?_, ?_⟩ <;> simp only <;> omega
  | succ k ih =>
    intro hk t ht
    have hlt : k < gs.length := hk
    have e : gs[k]? = some gs[k] := List.getElem?_eq_getElem hlt
    have hgk := hg.at e
    rw [Nat.zero_add] at hgk
    rw [pers_take e] at ht
    have ih := ih (by omega)
    rw [bnd_succ]
    have bp := bnd_pos k
    rcases List.mem_append.mp ht with h | h
    · obtain ⟨h1, h2, h3, h4⟩ := ih t h
      exact ⟨h1, by omega, h3, by omega⟩
    · rw [List.mem_singleton] at h
      subst h
      have hl : (pers p (gs.take k)).length = k + 1 := by
        rw [pers_len, List.length_take]
        omega
      obtain ⟨_, q⟩ := getD_ok (i := gs[k].on.toNat) ih (by rw [hl]; have := hgk.1; have := hgk.2.1; omega)
      obtain ⟨q1, q2, q3, q4⟩ := q
      obtain ⟨_, _, d1, d2, e1, e2, _⟩ := hgk
      have m1 := mul_ok q1 q2 e1 e2
      have m2 := mul_ok q3 q4 d1 d2
      have l := low_bounds (Int.le_of_lt m1.1) m2.1
      have l2 := low_pos m1.1 m2.1
      unfold nxt
      exact ⟨l2, by omega, l.2.2.1, by omega⟩
theorem pers_all {p : Int} {gs : List Gr} (hp : 1 ≤ p ∧ p ≤ 1000000) (hg : GsFrom 0 gs) : ∀ t ∈ pers p gs, PfOk (bnd gs.length) t := by
  have := pers_ok hp hg gs.length (Nat.le_refl _)
  rw [List.take_length] at this
  exact this
theorem bnd_mono {i j : Nat} (h : i ≤ j) : bnd i ≤ bnd j := by
  induction j with
  | zero => rw [Nat.le_zero.mp h]; exact Int.le_refl _
  | succ j ih =>
    rcases Nat.lt_or_ge i (j + 1) with q | q
    · have := ih (by omega)
      have := bnd_pos j
      rw [bnd_succ]
      omega
    · rw [show i = j + 1 by omega]; exact Int.le_refl _
theorem pers_big {p : Int} {gs : List Gr} (hp : 1 ≤ p ∧ p ≤ 1000000) (hg : GsFrom 0 gs) (hl : gs.length ≤ 6) : ∀ t ∈ pers p gs, PfOk 1000000000000000000000000 t := by
  intro t ht
  obtain ⟨h1, h2, h3, h4⟩ := pers_all hp hg t ht
  have : bnd gs.length ≤ bnd 6 := bnd_mono hl
  have e : bnd 6 = 1000000000000000000000000 := by decide
  exact ⟨h1, by omega, h3, by omega⟩
theorem foldl_head {f : List Fr → Gr → Fr} {a : Fr} : ∀ (gs : List Gr) (ps : List Fr), ps[0]? = some a → (gs.foldl (fun ps g => ps ++ [f ps g]) ps)[0]? = some a
  | [], _, h => h
  | g :: gs, ps, h => by
    rw [List.foldl_cons]
    refine foldl_head gs _ ?_
    cases ps with
    | nil => simp at h
    | cons x ps => simpa using h
theorem pers_head (p : Int) (gs : List Gr) : (pers p gs)[0]? = some (p, 1) := foldl_head gs _ rfl
def slps (s : Fr) (gs : List Gr) : List Fr := s :: gs.map Gr.s
def unitT (p : Int) (s : Fr) (gs : List Gr) : Int := ((NM.lcmL ((pers p gs ++ slps s gs).map (·.2)) : Nat) : Int)
def againT (p : Int) (gs : List Gr) : Int := ((NM.lcmL ((pers p gs).map (·.1)) : Nat) : Int)
/-- all of a train is in order -/
structure TrOk (p : Int) (s : Fr) (gs : List Gr) : Prop where
  p : 1 ≤ p ∧ p ≤ 1000000
  s : FrOk s
  g : GsFrom 0 gs
  l : gs.length ≤ 6
theorem TrOk.nrm {p : Int} {s : Fr} {gs : List Gr} (h : TrOk p s gs) : TrOk p (lowF s) (gs.map Gr.nrm) := ⟨h.p, h.s.low, h.g.nrm, by rw [List.length_map]; exact h.l⟩
theorem GsFrom.frs : ∀ {gs : List Gr} {i : Nat}, GsFrom i gs → ∀ g ∈ gs, FrOk g.s
  | [], _, _, g, h => by cases h
  | x :: gs, _, h, g, hg => by
    rcases List.mem_cons.mp hg with e | e
    · subst e; exact h.1.2.2.2.2.2.2
    · exact GsFrom.frs h.2 g e
theorem TrOk.slp {p : Int} {s : Fr} {gs : List Gr} (h : TrOk p s gs) : ∀ t ∈ slps s gs, FrOk t := by
  intro t ht
  rcases List.mem_cons.mp ht with e | e
  · subst e; exact h.s
  · obtain ⟨g, hg, rfl⟩ := List.mem_map.mp e
    exact h.g.frs g hg
/-! ### the words of a train -/
def wdsG (g : Gr) : List Str := [NX.num g.on, NX.num g.dg, NX.num g.dn, NX.num g.s.1, NX.num g.s.2]
def wdsT (p : Int) (s : Fr) (gs : List Gr) : List Str := (["train", NX.num p, NX.num s.1, NX.num s.2] : List Str) ++ gs.flatMap (fun g => (";" : Str) :: wdsG g)
def txtG (g : Gr) : Str := NX.num g.on ++ " " ++ NX.num g.dg ++ " " ++ NX.num g.dn ++ " " ++ NX.num g.s.1 ++ " " ++ NX.num g.s.2
def txtH (p : Int) (s : Fr) : Str := "train " ++ NX.num p ++ " " ++ NX.num s.1 ++ " " ++ NX.num s.2
def txtT (p : Int) (s : Fr) (gs : List Gr) : Str := Txt.join " " (wdsT p s gs)
theorem joinL_app {sep : List Nat} : ∀ (a : List Nat) (as bs : List (List Nat)), bs ≠ [] → TL.joinL sep ((a :: as) ++ bs) = TL.joinL sep (a :: as) ++ sep ++ TL.joinL sep bs
  | a, [], b :: bs, _ => by simp [TL.joinL]
  | a, a2 :: as, bs, h => by
    have ih := joinL_app (sep := sep) a2 as bs h
    show TL.joinL sep (a :: (a2 :: (as ++ bs))) = _
    simp only [TL.joinL]
    have e : a2 :: (as ++ bs) = (a2 :: as) ++ bs := rfl
    rw [e, ih]
    simp [TL.joinL, List.append_assoc]
theorem tl_txtG (g : Gr) : TL.tl (txtG g) = TL.joinL [32] ((wdsG g).map TL.tl) := by
  unfold txtG wdsG
  simp only [TL.tl_append, List.map_cons, List.map_nil, TL.joinL]
  have e : TL.tl (" " : Str) = [32] := by decide
  rw [e]
  simp only [List.append_assoc]
theorem tl_txtH (p : Int) (s : Fr) : TL.tl (txtH p s) = TL.joinL [32] ((["train", NX.num p, NX.num s.1, NX.num s.2] : List Str).map TL.tl) := by
  unfold txtH
  simp only [TL.tl_append, List.map_cons, List.map_nil, TL.joinL]
  have e : TL.tl (" " : Str) = [32] := by decide
  have e2 : TL.tl ("train " : Str) = TL.tl ("train" : Str) ++ [32] := by decide
  rw [e, e2]
  simp only [List.append_assoc]

theorem joinL_flat (S : List Nat) : ∀ (gs : List Gr), gs ≠ [] → TL.joinL [32] ((gs.flatMap (fun g => (";" : Str) :: wdsG g)).map TL.tl) = [59, 32] ++ TL.joinL [32, 59, 32] (gs.map fun g => TL.tl (txtG g))
  | [g], _ => by
    have e : TL.tl (";" : Str) = [59] := by decide
    simp only [List.flatMap_cons, List.flatMap_nil, List.append_nil, List.map_cons, e, List.map_nil, TL.joinL]
    rw [tl_txtG]
    rfl
  | g :: g2 :: gs, _ => by
    have ih := joinL_flat S (g2 :: gs) (by simp)
    have e : TL.tl (";" : Str) = [59] := by decide
    rw [List.flatMap_cons, List.map_append]
    have ne : ((g2 :: gs).flatMap (fun g => (";" : Str) :: wdsG g)).map TL.tl ≠ [] := by simp
    rw [List.map_cons, joinL_app _ _ _ ne, ih, e]
    have e2 : TL.joinL [32] ([59] :: (wdsG g).map TL.tl) = [59, 32] ++ TL.tl (txtG g) := by
      rw [tl_txtG]
      unfold wdsG
      simp [TL.joinL]
    rw [e2]
    simp [TL.joinL, List.append_assoc]
/-- the program's own text -/
theorem text_eq (p : Int) (s : Fr) (gs : List Gr) : Txt.join " ; " (txtH p s :: gs.map txtG) = txtT p s gs := by
  refine TL.ext_tl ?_
  unfold txtT
  rw [TL.join_eq, TL.tl_join, TL.join_eq, TL.tl_join]
  have e1 : TL.tl (" ; " : Str) = [32, 59, 32] := by decide
  have e2 : TL.tl (" " : Str) = [32] := by decide
  rw [e1, e2]
  cases gs with
  | nil =>
    show TL.tl (txtH p s) = _
    rw [tl_txtH]
    simp [wdsT]
  | cons g gs =>
    unfold wdsT
    rw [List.map_append]
    have ne : ((g :: gs).flatMap (fun g => (";" : Str) :: wdsG g)).map TL.tl ≠ [] := by simp
    have hd : (["train", NX.num p, NX.num s.1, NX.num s.2] : List Str).map TL.tl = TL.tl "train" :: [TL.tl (NX.num p), TL.tl (NX.num s.1), TL.tl (NX.num s.2)] := rfl
    rw [hd, joinL_app _ _ _ ne, joinL_flat [] (g :: gs) (by simp), ← hd, ← tl_txtH]
    have em : ((g :: gs).map txtG).map TL.tl = (g :: gs).map fun g => TL.tl (txtG g) := List.map_map ..
    rw [List.map_cons, em]
    rw [List.map_cons]
    generalize (gs.map fun g => TL.tl (txtG g)) = L
    show TL.tl (txtH p s) ++ ([32, 59, 32] ++ TL.joinL [32, 59, 32] (TL.tl (txtG g) :: L)) = TL.tl (txtH p s) ++ [32] ++ ([59, 32] ++ TL.joinL [32, 59, 32] (TL.tl (txtG g) :: L))
    rw [List.append_assoc]
    rfl
theorem num_ne_sp {n : Int} (h : 0 ≤ n) : 32 ∉ TL.tl (NX.num n) := NX.num_free h
theorem wdsG_free {i : Nat} {g : Gr} (h : GrOk i g) : ∀ w ∈ ((";" : Str) :: wdsG g), 32 ∉ TL.tl w := by
  obtain ⟨h1, _, h2, _, h3, _, h4, _, h5, _⟩ := h
  intro w hw
  simp only [wdsG, List.mem_cons, List.not_mem_nil, or_false] at hw
  rcases hw with rfl | rfl | rfl | rfl | rfl | rfl
  · decide
  · exact NX.num_free h1
  · exact NX.num_free (by omega)
  · exact NX.num_free (by omega)
  · exact NX.num_free h4
  · exact NX.num_free (by omega)
theorem flat_free : ∀ {gs : List Gr} {i : Nat}, GsFrom i gs → ∀ w ∈ gs.flatMap (fun g => (";" : Str) :: wdsG g), 32 ∉ TL.tl w
  | [], _, _, w, hw => by cases hw
  | g :: gs, _, h, w, hw => by
    rw [List.flatMap_cons] at hw
    rcases List.mem_append.mp hw with q | q
    · exact wdsG_free h.1 w q
    · exact flat_free h.2 w q
theorem wdsT_free {p : Int} {s : Fr} {gs : List Gr} (h : TrOk p s gs) : ∀ w ∈ wdsT p s gs, 32 ∉ TL.tl w := by
  intro w hw
  unfold wdsT at hw
  rcases List.mem_append.mp hw with q | q
  · have := h.p
    obtain ⟨h4, _, h5, _⟩ := h.s
    simp only [List.mem_cons, List.not_mem_nil, or_false] at q
    rcases q with rfl | rfl | rfl | rfl
    · decide
    · exact NX.num_free (by omega)
    · exact NX.num_free h4
    · exact NX.num_free (by omega)
  · exact flat_free h.g w q
theorem split_txt {p : Int} {s : Fr} {gs : List Gr} (h : TrOk p s gs) : Txt.split (txtT p s gs) " " = wdsT p s gs := NX.split_words (by simp [wdsT]) (wdsT_free h)
theorem len_flat : ∀ (gs : List Gr), (gs.flatMap (fun g => (";" : Str) :: wdsG g)).length = 6 * gs.length
  | [] => rfl
  | g :: gs => by
    rw [List.flatMap_cons, List.length_append, len_flat gs, List.length_cons, List.length_cons]
    simp [wdsG]
    omega
theorem wdsT_len (p : Int) (s : Fr) (gs : List Gr) : (wdsT p s gs).length = 4 + 6 * gs.length := by
  unfold wdsT
  rw [List.length_append, len_flat]
  rfl
theorem flat_at : ∀ {gs : List Gr} {k j : Nat} {g : Gr} {w : Str}, gs[k]? = some g → ((";" : Str) :: wdsG g)[j]? = some w → (gs.flatMap (fun g => (";" : Str) :: wdsG g))[6 * k + j]? = some w
  | x :: gs, 0, j, g, w, h, hj => by
    cases h
    rw [List.flatMap_cons, Nat.mul_zero, Nat.zero_add, List.getElem?_append_left]
    · exact hj
    · exact (List.getElem?_eq_some_iff.mp hj).1
  | x :: gs, k + 1, j, g, w, h, hj => by
    rw [List.flatMap_cons, List.getElem?_append_right (by simp [wdsG]; omega)]
    have := flat_at (gs := gs) (k := k) (by simpa using h) hj
    rw [show 6 * (k + 1) + j - ((";" : Str) :: wdsG x).length = 6 * k + j by simp [wdsG]; omega]
    exact this
theorem wds_at {p : Int} {s : Fr} {gs : List Gr} {k j i : Nat} {g : Gr} {w : Str} (h : gs[k]? = some g) (hj : ((";" : Str) :: wdsG g)[j]? = some w) (e : i = 4 + 6 * k + j) : (wdsT p s gs)[i]? = some w := by
  subst e
  unfold wdsT
  rw [List.getElem?_append_right (by simp; omega), show 4 + 6 * k + j - (["train", NX.num p, NX.num s.1, NX.num s.2] : List Str).length = 6 * k + j by simp; omega]
  exact flat_at h hj
end NG

namespace My
open PySem PySem.Spec PyProof.Rows L2 StX
def top (i : Nat) : Stmt := PySem.Challenge.pw_wheelreach_k74_trains_made_and_read.main.body.getD i (.Pass ⟨0, 0, 0, 0⟩)
abbrev s_is_whole : Stmt := top 11
abbrev s_is_from : Stmt := top 12
abbrev s_is_between : Stmt := top 13
abbrev s_common : Stmt := top 14
abbrev s_multiple : Stmt := top 15
abbrev s_number_in : Stmt := top 19
abbrev s_is_fraction : Stmt := top 26
abbrev s_least_terms : Stmt := top 27
abbrev s_is_gear : Stmt := top 28
abbrev s_need_gears : Stmt := top 29
abbrev s_periods_of : Stmt := top 30
abbrev s_gear_words : Stmt := top 31
abbrev s_take_train : Stmt := top 32
abbrev s_take_gear : Stmt := top 33
abbrev s_take_fraction : Stmt := top 34
abbrev s_pen : Stmt := top 36
abbrev s_draw : Stmt := top 37
abbrev s_pick : Stmt := top 38
abbrev s_shared : Stmt := top 39
abbrev s_lowest : Stmt := top 40
abbrev s_by_multiple : Stmt := top 41
abbrev s_periods : Stmt := top 42
abbrev s_train : Stmt := top 43
abbrev s_fraction : Stmt := top 44
abbrev s_gears : Stmt := top 45
abbrev s_period : Stmt := top 46
abbrev s_text : Stmt := top 47
abbrev s_stands : Stmt := top 48
abbrev s_right : Stmt := top 49
abbrev s_told_alike : Stmt := top 50
abbrev s_law : Stmt := top 51
abbrev s_Words_init : Stmt := inClass (top 20) 0
abbrev s_Words_upcoming : Stmt := inClass (top 20) 1
abbrev s_Words_take : Stmt := inClass (top 20) 2
abbrev s_Words_take_number : Stmt := inClass (top 20) 3
abbrev s_Words_finish : Stmt := inClass (top 20) 8
abbrev s_Train_init : Stmt := inClass (top 25) 0
abbrev s_Train_read : Stmt := inClass (top 25) 1
abbrev s_Train_again : Stmt := inClass (top 25) 2
abbrev s_Train_len : Stmt := inClass (top 25) 3
abbrev s_Train_iter : Stmt := inClass (top 25) 4
abbrev s_Train_getitem : Stmt := inClass (top 25) 5
abbrev s_Train_add : Stmt := inClass (top 25) 6
abbrev s_Train_eq : Stmt := inClass (top 25) 7
abbrev s_Train_str : Stmt := inClass (top 25) 8
abbrev s_Train_stands : Stmt := inClass (top 25) 9
theorem sc_is_whole : FnScope ["value"] ["value"] (defScope s_is_whole) := ⟨rfl, rfl, rfl, by decide +kernel, rfl, by decide +kernel, by decide +kernel⟩
theorem sc_is_from : FnScope ["value", "low"] ["value", "low"] (defScope s_is_from) := ⟨rfl, rfl, rfl, by decide +kernel, rfl, by decide +kernel, by decide +kernel⟩
theorem sc_is_between : FnScope ["value", "low", "high"] ["value", "low", "high"] (defScope s_is_between) := ⟨rfl, rfl, rfl, by decide +kernel, rfl, by decide +kernel, by decide +kernel⟩
theorem sc_common : FnScope ["numbers", "number", "found"] ["numbers"] (defScope s_common) := ⟨rfl, rfl, rfl, by decide +kernel, rfl, by decide +kernel, by decide +kernel⟩
theorem sc_multiple : FnScope ["numbers", "number", "found"] ["numbers"] (defScope s_multiple) := ⟨rfl, rfl, rfl, by decide +kernel, rfl, by decide +kernel, by decide +kernel⟩
theorem sc_number_in : FnScope ["word"] ["word"] (defScope s_number_in) := ⟨rfl, rfl, rfl, by decide +kernel, rfl, by decide +kernel, by decide +kernel⟩
theorem sc_is_fraction : FnScope ["value"] ["value"] (defScope s_is_fraction) := ⟨rfl, rfl, rfl, by decide +kernel, rfl, by decide +kernel, by decide +kernel⟩
theorem sc_least_terms : FnScope ["top", "bottom", "shared"] ["top", "bottom"] (defScope s_least_terms) := ⟨rfl, rfl, rfl, by decide +kernel, rfl, by decide +kernel, by decide +kernel⟩
theorem sc_is_gear : FnScope ["value", "ahead", "on", "driving", "driven", "slip"] ["value", "ahead"] (defScope s_is_gear) := ⟨rfl, rfl, rfl, by decide +kernel, rfl, by decide +kernel, by decide +kernel⟩
theorem sc_need_gears : FnScope ["gears", "at", "gear"] ["gears"] (defScope s_need_gears) := ⟨rfl, rfl, rfl, by decide +kernel, rfl, by decide +kernel, by decide +kernel⟩
theorem sc_periods_of : FnScope ["period", "gears", "periods", "on", "driving", "driven", "_", "top", "bottom"] ["period", "gears"] (defScope s_periods_of) := ⟨rfl, rfl, rfl, by decide +kernel, rfl, by decide +kernel, by decide +kernel⟩
theorem sc_gear_words : FnScope ["gear", "on", "driving", "driven", "slip"] ["gear"] (defScope s_gear_words) := ⟨rfl, rfl, rfl, by decide +kernel, rfl, by decide +kernel, by decide +kernel⟩
theorem sc_take_train : FnScope ["words", "period", "slip", "gears"] ["words"] (defScope s_take_train) := ⟨rfl, rfl, rfl, by decide +kernel, rfl, by decide +kernel, by decide +kernel⟩
theorem sc_take_gear : FnScope ["words", "last", "on", "driving", "driven"] ["words", "last"] (defScope s_take_gear) := ⟨rfl, rfl, rfl, by decide +kernel, rfl, by decide +kernel, by decide +kernel⟩
theorem sc_take_fraction : FnScope ["words", "top", "bottom"] ["words"] (defScope s_take_fraction) := ⟨rfl, rfl, rfl, by decide +kernel, rfl, by decide +kernel, by decide +kernel⟩
theorem sc_pen : FnScope ["_law_script"] ["_law_script"] (defScope s_pen) := ⟨rfl, rfl, rfl, by decide +kernel, rfl, by decide +kernel, by decide +kernel⟩
theorem sc_draw : FnScope ["_law_pen_here", "_law_many", "_law_digit", "_law_begun", "_law_lone", "_law_great", "_law_mixed"] ["_law_pen_here", "_law_many"] (defScope s_draw) := ⟨rfl, rfl, rfl, by decide +kernel, rfl, by decide +kernel, by decide +kernel⟩
theorem sc_pick : FnScope ["_law_pen_here", "_law_some"] ["_law_pen_here", "_law_some"] (defScope s_pick) := ⟨rfl, rfl, rfl, by decide +kernel, rfl, by decide +kernel, by decide +kernel⟩
theorem sc_shared : FnScope ["_law_one", "_law_other", "_law_first", "_law_last"] ["_law_one", "_law_other"] (defScope s_shared) := ⟨rfl, rfl, rfl, by decide +kernel, rfl, by decide +kernel, by decide +kernel⟩
theorem sc_lowest : FnScope ["_law_top", "_law_bottom", "_law_shared_here"] ["_law_top", "_law_bottom"] (defScope s_lowest) := ⟨rfl, rfl, rfl, by decide +kernel, rfl, by decide +kernel, by decide +kernel⟩
theorem sc_by_multiple : FnScope ["_law_numbers", "_law_found", "_law_number"] ["_law_numbers"] (defScope s_by_multiple) := ⟨rfl, rfl, rfl, by decide +kernel, rfl, by decide +kernel, by decide +kernel⟩
theorem sc_periods : FnScope ["_law_period_here", "_law_gears_here", "_law_found", "_law_on", "_law_driving", "_law_driven", "_law_slip"] ["_law_period_here", "_law_gears_here"] (defScope s_periods) := ⟨rfl, rfl, rfl, by decide +kernel, rfl, by decide +kernel, by decide +kernel⟩
theorem sc_train : FnScope ["_law_period_here", "_law_slip", "_law_gears_here", "_law_found", "_law_gear"] ["_law_period_here", "_law_slip", "_law_gears_here"] (defScope s_train) := ⟨rfl, rfl, rfl, by decide +kernel, rfl, by decide +kernel, by decide +kernel⟩
theorem sc_fraction : FnScope ["_law_pen_here", "_law_some", "_law_drawn"] ["_law_pen_here"] (defScope s_fraction) := ⟨rfl, rfl, rfl, by decide +kernel, rfl, by decide +kernel, by decide +kernel⟩
theorem sc_gears : FnScope ["_law_pen_here", "_law_many", "_law_found", "_law_at", "_law_most"] ["_law_pen_here", "_law_many"] (defScope s_gears) := ⟨rfl, rfl, rfl, by decide +kernel, rfl, by decide +kernel, by decide +kernel⟩
theorem sc_period : FnScope ["_law_pen_here"] ["_law_pen_here"] (defScope s_period) := ⟨rfl, rfl, rfl, by decide +kernel, rfl, by decide +kernel, by decide +kernel⟩
theorem sc_text : FnScope ["_law_period_here", "_law_slip", "_law_gears_here", "_law_words", "_law_part", "_law_on", "_law_driving", "_law_driven", "_law_own"] ["_law_period_here", "_law_slip", "_law_gears_here"] (defScope s_text) := ⟨rfl, rfl, rfl, by decide +kernel, rfl, by decide +kernel, by decide +kernel⟩
theorem sc_stands : FnScope ["_law_periods_here", "_law_value", "_law_top", "_law_bottom"] ["_law_periods_here", "_law_value"] (defScope s_stands) := ⟨rfl, rfl, rfl, by decide +kernel, rfl, by decide +kernel, by decide +kernel⟩
theorem sc_right : FnScope ["_law_pen_here", "_law_period_here", "_law_slip", "_law_many", "_law_gears_here", "_law_train_here", "_law_periods_here", "_law_slips", "_law_gear", "_law_top", "_law_bottom", "_law_again", "_law_part", "_law_at", "_law_great", "_law_value"] ["_law_pen_here"] (defScope s_right) := ⟨rfl, rfl, rfl, by decide +kernel, rfl, by decide +kernel, by decide +kernel⟩
theorem sc_told_alike : FnScope ["_law_pen_here", "_law_train_here", "_law_parts", "_law_period_here", "_law_slip", "_law_gears_here", "_law_text_here", "_law_on", "_law_driving", "_law_driven", "_law_own", "_law_some", "_law_other", "_law_due", "_law_changed"] ["_law_pen_here", "_law_train_here", "_law_parts"] (defScope s_told_alike) := ⟨rfl, rfl, rfl, by decide +kernel, rfl, by decide +kernel, by decide +kernel⟩
theorem sc_law : FnScope ["_law_script", "_law_pen_here", "_law_lap", "_law_ten", "_law_one", "_law_told"] ["_law_script"] (defScope s_law) := ⟨rfl, rfl, rfl, by decide +kernel, rfl, by decide +kernel, by decide +kernel⟩
theorem sc_Words_init : FnScope ["self", "text", "line"] ["self", "text", "line"] (defScope s_Words_init) := ⟨rfl, rfl, rfl, by decide +kernel, rfl, by decide +kernel, by decide +kernel⟩
theorem sc_Words_upcoming : FnScope ["self"] ["self"] (defScope s_Words_upcoming) := ⟨rfl, rfl, rfl, by decide +kernel, rfl, by decide +kernel, by decide +kernel⟩
theorem sc_Words_take : FnScope ["self", "allowed", "word"] ["self", "allowed"] (defScope s_Words_take) := ⟨rfl, rfl, rfl, by decide +kernel, rfl, by decide +kernel, by decide +kernel⟩
theorem sc_Words_take_number : FnScope ["self", "low", "high", "word", "number"] ["self", "low", "high"] (defScope s_Words_take_number) := ⟨rfl, rfl, rfl, by decide +kernel, rfl, by decide +kernel, by decide +kernel⟩
theorem sc_Words_finish : FnScope ["self"] ["self"] (defScope s_Words_finish) := ⟨rfl, rfl, rfl, by decide +kernel, rfl, by decide +kernel, by decide +kernel⟩
theorem sc_Train_init : FnScope ["self", "period", "slip", "gears", "on", "driving", "driven", "part", "gear", "bottoms", "top", "bottom"] ["self", "period", "slip", "gears"] (defScope s_Train_init) := ⟨rfl, rfl, rfl, by decide +kernel, rfl, by decide +kernel, by decide +kernel⟩
theorem sc_Train_read : FnScope ["text", "words", "train"] ["text"] (defScope s_Train_read) := ⟨rfl, rfl, rfl, by decide +kernel, rfl, by decide +kernel, by decide +kernel⟩
theorem sc_Train_again : FnScope ["self", "tops", "top", "bottom"] ["self"] (defScope s_Train_again) := ⟨rfl, rfl, rfl, by decide +kernel, rfl, by decide +kernel, by decide +kernel⟩
theorem sc_Train_len : FnScope ["self"] ["self"] (defScope s_Train_len) := ⟨rfl, rfl, rfl, by decide +kernel, rfl, by decide +kernel, by decide +kernel⟩
theorem sc_Train_iter : FnScope ["self"] ["self"] (defScope s_Train_iter) := ⟨rfl, rfl, rfl, by decide +kernel, rfl, by decide +kernel, by decide +kernel⟩
theorem sc_Train_getitem : FnScope ["self", "at"] ["self", "at"] (defScope s_Train_getitem) := ⟨rfl, rfl, rfl, by decide +kernel, rfl, by decide +kernel, by decide +kernel⟩
theorem sc_Train_add : FnScope ["self", "other", "period", "gears", "slip"] ["self", "other"] (defScope s_Train_add) := ⟨rfl, rfl, rfl, by decide +kernel, rfl, by decide +kernel, by decide +kernel⟩
theorem sc_Train_eq : FnScope ["self", "other"] ["self", "other"] (defScope s_Train_eq) := ⟨rfl, rfl, rfl, by decide +kernel, rfl, by decide +kernel, by decide +kernel⟩
theorem sc_Train_str : FnScope ["self", "top", "bottom", "rows", "gear"] ["self"] (defScope s_Train_str) := ⟨rfl, rfl, rfl, by decide +kernel, rfl, by decide +kernel, by decide +kernel⟩
theorem sc_Train_stands : FnScope ["self", "value", "top", "bottom"] ["self", "value"] (defScope s_Train_stands) := ⟨rfl, rfl, rfl, by decide +kernel, rfl, by decide +kernel, by decide +kernel⟩
section
variable {P : Program} {w : World} {K : PySem.W.Frag} {mg : Str → Option Value} {base : Heap}
/-! ### rules and words of our own -/
/-- x(e, ..), x a def whose promise is told of the arguments as they are passed -/
theorem pe_callR {X : Cx} {CX : CXT} {k : Nat} {f : Addr} {sp : Sp} {E : XK} {x : Str} {e : Expr} {es : List Expr} {t : TA} {p pos : Pos} (F : FnR X.prog X.w X.K X.mg X.base CX k f sp) (hr : Room k X.A) (hk : PySem.W.keepIn X.K (.ref f) = true) (hg : Gl X x) (hm : X.mg x = some (.ref f)) (hx : Passes CX X E)
    (ha : PA X (e :: es) t) (hd : (x == ("__debug__" : Str)) = false := by decide) (he : starEach (e :: es) X.env = (false, eval e X.env) :: starEach es X.env := by rfl) (hpl : (backTo pos (starEach es X.env)).any (·.1) = false := by rfl) :
    PE X (.Call (.Name x p) (e :: es) [] pos) (fun σ H Q => t σ H fun vs H1 => sp vs H1 Q E) := by
  refine ⟨fun pins s σ H Q I h => ?_⟩
  refine wpAny_Call_Name_kw (ld_glob I hg hm ?_ hd)
  refine PySem.W.callWith_K (h₀ := X.base) I.ok.mod.kin hk (thn (ha.run pos pins s σ H _ I h) fun us s1 ⟨vs, H1, I1, r, q⟩ => ⟨I1.kIn, ?_⟩) he hpl
  exact wpAny_call (run_fnR F hr hx I1 r q)
theorem pe_callR0 {X : Cx} {CX : CXT} {k : Nat} {f : Addr} {sp : Sp} {E : XK} {x : Str} {p pos : Pos} (F : FnR X.prog X.w X.K X.mg X.base CX k f sp) (hr : Room k X.A) (hk : PySem.W.keepIn X.K (.ref f) = true) (hg : Gl X x) (hm : X.mg x = some (.ref f)) (hx : Passes CX X E)
    (hd : (x == ("__debug__" : Str)) = false := by decide) : PE X (.Call (.Name x p) [] [] pos) (fun σ H Q => sp [] H Q E) := by
  refine ⟨fun pins s σ H Q I h => ?_⟩
  refine wpAny_Call_Name_kw (ld_glob I hg hm ?_ hd)
  exact PySem.W.callWith_K0 I.kIn hk (wpAny_call (run_fnR (us := []) F hr hx I .nil h))
/-- def f(*v) of the text -/
theorem star_ok {P : Program} {w : World} {K : PySem.W.Frag} {mg : Str → Option Value} {base : Heap} {k : Nat} {x qual pv : Str} {st : Stmt} {f : Addr} {fd : FuncData} {N : List Str} {sp : List V → Hp → VK → XK → Prop}
    (F : Fun K x qual st f fd) (S : FnScope N [pv] (defScope st))
    (hb : ∀ (kV doc pm : Value) (an : Option Addr) (cdv ct : Value) (rest : List Value), bindArgs (PySem.W.fnOf x qual (defArgs st) (defBody st) (defScope st) .none kV doc pm an cdv ct) ⟨rest, []⟩ = (newTuple rest >>= fun t => pure [(pv, t)]))
    (hbody : ∀ (cdv : Value) (A : Around) (outer : List Env) (s : Shared) (H : Hp) (vs : List V) (p : Addr) (H0 : Hp) (Q : VK) (E : XK), Room k (A.deeper (envOfC qual (defScope st) s.heap.objs.size f cdv)) → sp vs H0 Q E → vs.length ≤ sizeLine → H0 p = Option.none → H = upd H0 p (.tup vs) →
      ∃ t, PSs (cxOf CX0 P w K mg base N qual (defScope st) f cdv A outer s H E).nox (defBody st) t ∧ t { nx := fun _ H' => Q .non H', rt := Q } (start N [V.ref p]) H) :
    FnR P w K mg base CX0 (k + 1) f (fun vs H Q E => vs.length ≤ sizeLine ∧ sp vs H Q E) := by
  obtain ⟨oc, od, kV, doc, pm, an, cdv, ct, osl, rfl, lk, hcd⟩ := F.ex
  refine FnR.imp (fn_star (ps := []) (pv := pv) (CX := CX0) (sp := fun ws H Q E => ∃ (vs : List V) (p : Addr) (H0 : Hp), ws = [V.ref p] ∧ sp vs H0 Q E ∧ vs.length ≤ sizeLine ∧ H0 p = Option.none ∧ H = upd H0 p (.tup vs)) lk hcd S cxUp_none (fun us rest hl => ?_) fun A outer s H vs Q E hr h => ?_) fun vs H Q E h => ?_
  · have e : us = [] := List.length_eq_zero_iff.mp hl
    subst e
    show bindArgs _ ⟨rest, []⟩ = _
    rw [hb]
    rfl
  · obtain ⟨ws, p, H0, rfl, hs, hl, hp, rfl⟩ := h
    obtain ⟨t, ht, hq⟩ := hbody cdv A outer s _ ws p H0 Q E hr hs hl hp rfl
    exact ⟨t, ht.nox, hq⟩
  · exact ⟨[], vs, rfl, rfl, h.1, fun p hp => ⟨vs, p, H, rfl, h.2, h.1, hp, rfl⟩⟩
/-- all but p is as it was -/
structure Fr (p : Addr) (H H' : Hp) : Prop where
  keep : ∀ b o, b ≠ p → H b = some o → H' b = some o
  head : ∀ v xs, H p = some (.lst (v :: xs)) → ∃ ys, H' p = some (.lst (v :: ys))
instance {p : Addr} {H H' : Hp} : CoeFun (Fr p H H') fun _ => ∀ b o, b ≠ p → H b = some o → H' b = some o := ⟨Fr.keep⟩
theorem Fr.refl (p : Addr) (H : Hp) : Fr p H H := ⟨fun _ _ _ h => h, fun _ xs h => ⟨xs, h⟩⟩
theorem Fr.trans {p : Addr} {H H1 H2 : Hp} (a : Fr p H H1) (b : Fr p H1 H2) : Fr p H H2 := ⟨fun c o n h => b.keep c o n (a.keep c o n h), fun v xs h => by
  obtain ⟨ys, h1⟩ := a.head v xs h
  exact b.head v ys h1⟩
theorem same_fr {p : Addr} {H H' : Hp} (s : Same H H') : Fr p H H' := ⟨fun b o _ h => s b o h, fun _ xs h => ⟨xs, s _ _ h⟩⟩
theorem same_new {H : Hp} {p : Addr} {o : HO} (h : H p = Option.none) : Same H (upd H p o) := fun b u e => by
  rw [upd_ne (ne_of_none e h)]; exact e
theorem fr_upd {H : Hp} {p : Addr} {v : V} {xs ys : List V} (hp : H p = some (.lst (v :: xs))) : Fr p H (upd H p (.lst (v :: ys))) := ⟨fun b u n e => by rw [upd_ne n]; exact e, fun v' xs' e => by
  rw [hp] at e
  cases e
  exact ⟨ys, upd_same⟩⟩
theorem Fr.seq {K : PySem.W.Frag} {p a : Addr} {H H' : Hp} {xs : List V} (e : Fr p H H') (n : a ≠ p) (h : SqL K H a xs) : SqL K H' a xs := by
  rcases h with (h | ⟨o, h⟩) | h
  · exact .inl (.inl (e _ _ n h))
  · exact .inl (.inr ⟨o, e _ _ n h⟩)
  · exact .inr h
/-- the state of the draws: the cells, the index, what is left of a great one -/
def Pen (H : Hp) (p : Addr) (n : Nat) : Prop := ∃ (c : Addr) (ns : List Int) (i g : Int), H p = some (.lst [.ref c, .int i, .int g]) ∧ H c = some (.lst (ns.map V.int)) ∧ 0 ≤ i ∧ i ≤ (n : Int) ∧ 0 ≤ g ∧ ns.length ≤ 63
theorem Pen.same {H H' : Hp} {p : Addr} {n : Nat} (h : Pen H p n) (s : Same H H') : Pen H' p n := by
  obtain ⟨c, ns, i, g, h1, h2, h3⟩ := h
  exact ⟨c, ns, i, g, s _ _ h1, s _ _ h2, h3⟩
theorem Pen.mono {H : Hp} {p : Addr} {n m : Nat} (h : Pen H p n) (l : n ≤ m) : Pen H p m := by
  obtain ⟨c, ns, i, g, h1, h2, h3, h4, h5⟩ := h
  exact ⟨c, ns, i, g, h1, h2, h3, by omega, h5⟩
theorem pen_ne {H : Hp} {p c : Addr} {x y : V} {a : Addr} {ns : List Int} (h1 : H p = some (.lst [.ref a, x, y])) (h2 : H c = some (.lst (ns.map V.int))) : c ≠ p := fun e => by
  rw [e, h1] at h2
  cases ns with
  | nil => cases h2
  | cons z r => injection h2 with h2; injection h2 with h2; injection h2 with h2; cases h2
theorem Pen.at {H : Hp} {p : Addr} {n : Nat} (h : Pen H p n) : ∃ xs, H p = some (.lst xs) := by
  obtain ⟨c, ns, i, g, h1, _⟩ := h
  exact ⟨_, h1⟩
theorem Pen.neq {H : Hp} {p a : Addr} {n : Nat} (h : Pen H p n) (e : H a = Option.none) : a ≠ p := fun z => by
  obtain ⟨xs, h⟩ := h.at
  rw [z, h] at e; cases e
theorem if_true_of {c : Bool} {A B : Prop} (hc : c = true) (h : A) : if c = true then A else B := by
  rw [if_pos hc]; exact h
theorem if_false_of {c : Bool} {A B : Prop} (hc : c = false) (h : B) : if c = true then A else B := by
  rw [hc, if_neg Bool.false_ne_true]; exact h
theorem atI_in {ns : List Int} {j : Int} (h0 : 0 ≤ j) (h1 : j < (ns.length : Int)) : ∃ z, atI (ns.map V.int) j = some (V.int z) := by
  have h : j.toNat < ns.length := by omega
  exact ⟨ns[j.toNat], at_of (j := j.toNat) (by omega) (by rw [List.getElem?_map]; simp [h])⟩
theorem atI_any {xs : List V} {j : Int} (h0 : 0 ≤ j) (h1 : j < (xs.length : Int)) : ∃ z, z ∈ xs ∧ atI xs j = some z := by
  have h : j.toNat < xs.length := by omega
  exact ⟨xs[j.toNat], List.getElem_mem h, at_of (j := j.toNat) (by omega) (by simp [h])⟩
theorem cut_ints (ns : List Int) (lo hi : Option Int) : ∃ ms : List Int, cutV (ns.map V.int) lo hi = ms.map V.int ∧ ms.length ≤ ns.length := by
  refine ⟨(ns.drop (HT.sIx (ns.map V.int).length 0 lo)).take (HT.sIx (ns.map V.int).length (ns.map V.int).length hi - HT.sIx (ns.map V.int).length 0 lo), ?_, ?_⟩
  · unfold cutV
    rw [List.map_take, List.map_drop]
  · rw [List.length_take, List.length_drop]
    omega
theorem stir1 {r b d e : Int} (h0 : 0 ≤ r) (h1 : r < 2147483648) (b0 : 0 ≤ b) (b1 : b ≤ 100000) (d0 : 0 ≤ d) (d1 : d ≤ 100000) (e0 : 0 ≤ e) (e1 : e ≤ 100000) : (r + d * b + e).natAbs < 2 ^ 64 := by
  have h2 := Int.mul_nonneg d0 b0
  have h3 : d * b ≤ d * 100000 := Int.mul_le_mul_of_nonneg_left b1 d0
  omega
theorem stir2 {s b c d e : Int} (h0 : 0 ≤ s) (h1 : s < 2147483648) (b0 : 0 ≤ b) (b1 : b ≤ 100000) (c0 : 0 ≤ c) (c1 : c ≤ 100000) (d0 : 0 ≤ d) (d1 : d ≤ 100000) (e0 : 0 ≤ e) (e1 : e ≤ 100000) : (s * (2 * b + c) + d * b * b + e).natAbs < 2 ^ 64 := by
  have h2 := Int.mul_nonneg h0 (show 0 ≤ 2 * b + c by omega)
  have h3 : s * (2 * b + c) ≤ 2147483648 * (2 * b + c) := Int.mul_le_mul_of_nonneg_right (by omega) (by omega)
  have h4 := Int.mul_nonneg d0 b0
  have h5 := Int.mul_nonneg h4 b0
  have h6 : d * b ≤ d * 100000 := Int.mul_le_mul_of_nonneg_left b1 d0
  have h7 : d * b * b ≤ d * b * 100000 := Int.mul_le_mul_of_nonneg_left b1 h4
  omega
theorem small64 {i : Int} (h0 : 0 ≤ i) (h1 : i < 2147483648) : -(2 ^ 64) < i ∧ i < 2 ^ 64 := by omega
theorem fmod_pos {x m : Int} (hm : 0 < m) : 0 ≤ x.fmod m ∧ x.fmod m < m := by
  rw [Int.fmod_eq_emod_of_nonneg x (by omega)]
  exact ⟨Int.emod_nonneg _ (by omega), Int.emod_lt_of_pos _ hm⟩
theorem dp_ints {K : PySem.W.Frag} {H : Hp} : ∀ ns : List Int, DpAll K H (ns.map V.int) (ns.map PyData.int)
  | [] => .nil
  | z :: r => .cons (.int z) (dp_ints r)
theorem eqvAll_ints : ∀ ns : List Int, PyData.eqvAll (ns.map PyData.int) (ns.map PyData.int) = true
  | [] => by simp [PyData.eqvAll]
  | z :: r => by simp [PyData.eqvAll, PyData.eqv, eqvAll_ints r]
theorem eqv_ints (ns : List Int) : PyData.eqv (.list (ns.map PyData.int)) (.list (ns.map PyData.int)) = true := by
  rw [PyData.eqv]; exact eqvAll_ints ns

/-! ### defs told for callers around whom nothing is being shown by repr -/
def FnG (P : Program) (w : World) (K : PySem.W.Frag) (mg : Str → Option Value) (base : Heap) (CX : CXT) (k : Nat) (f : Addr) (sp : Sp) : Prop :=
  ∀ (A : Around) (outer : List Env) (s : Shared) (H : Hp) (us : List Value) (vs : List V) (Q : VK) (E : XK), A.guards = some [] → Room k A → Env0 P w K mg base A outer s H → Vals vs us → sp vs H Q E →
    codeAny (model P w) A (.call (.ref f) { pos := us, kw := [] }) (CR CX outer P w H s Q E) s
theorem FnG.of {P : Program} {w : World} {K : PySem.W.Frag} {mg : Str → Option Value} {base : Heap} {CX : CXT} {k : Nat} {f : Addr} {sp : Sp} (F : FnR P w K mg base CX k f sp) : FnG P w K mg base CX k f sp :=
  fun A o s H us vs Q E _ hr => F A o s H us vs Q E hr
theorem FnG.mk {P : Program} {w : World} {K : PySem.W.Frag} {mg : Str → Option Value} {base : Heap} {CX : CXT} {k : Nat} {x qual : Str} {st : Stmt} {f : Addr} {fd : FuncData} {N ps : List Str} {sp : Sp}
    (F : Fun K x qual st f fd) (S : FnScope N ps (defScope st)) (B : Binds K fd ps []) (len : ∀ vs H Q E, sp vs H Q E → vs.length = ps.length)
    (go : ∀ (cdv : Value) (A : Around) (outer : List Env) (s : Shared) (H : Hp) (vs : List V) (Q : VK) (E : XK), (A.deeper (envOfC qual (defScope st) s.heap.objs.size f cdv)).guards = some [] → Room k (A.deeper (envOfC qual (defScope st) s.heap.objs.size f cdv)) → sp vs H Q E →
      ∃ t, PSs (cxOf CX P w K mg base N qual (defScope st) f cdv A outer s H E) (defBody st) t ∧ t { nx := fun _ H1 => Q .non H1, rt := Q } (start N vs) H) : FnG P w K mg base CX (k + 1) f sp := by
  obtain ⟨oc, od, kV, doc, pm, an, cdv, ct, osl, e, lk, hcd⟩ := F.ex
  subst e
  intro A outer s H us vs Q E hg hr e0 rv hs
  have hl := len _ _ _ _ hs
  have hu : (us ++ []).length = ps.length := by rw [List.append_nil, ← hl]; exact rv.length.symm
  have b := B s us (e0.mod.kin.keeps fun b o z => (e0.bs b o z).1) hu
  rw [List.append_nil] at b
  exact LamX.run_ofS lk hcd S hr e0 b rv hl fun hr1 => go cdv A outer s H vs Q E hg hr1 hs
theorem FnG.mk0 {P : Program} {w : World} {K : PySem.W.Frag} {mg : Str → Option Value} {base : Heap} {k : Nat} {x qual : Str} {st : Stmt} {f : Addr} {fd : FuncData} {N ps : List Str} {sp : Sp}
    (F : Fun K x qual st f fd) (S : FnScope N ps (defScope st)) (B : Binds K fd ps []) (len : ∀ vs H Q E, sp vs H Q E → vs.length = ps.length)
    (go : ∀ (cdv : Value) (A : Around) (outer : List Env) (s : Shared) (H : Hp) (vs : List V) (Q : VK) (E : XK), (A.deeper (envOfC qual (defScope st) s.heap.objs.size f cdv)).guards = some [] → Room k (A.deeper (envOfC qual (defScope st) s.heap.objs.size f cdv)) → sp vs H Q E →
      ∃ t, PSs (cxOf CX0 P w K mg base N qual (defScope st) f cdv A outer s H E).nox (defBody st) t ∧ t { nx := fun _ H1 => Q .non H1, rt := Q } (start N vs) H) : FnG P w K mg base CX0 (k + 1) f sp :=
  FnG.mk F S B len fun cdv A outer s H vs Q E hg hr hs => by
    obtain ⟨t, ht, q⟩ := go cdv A outer s H vs Q E hg hr hs
    exact ⟨t, ht.nox, q⟩
/-- .. of a def whose code object is known -/
theorem FnG.mkL {P : Program} {w : World} {K : PySem.W.Frag} {mg : Str → Option Value} {base : Heap} {k : Nat} {x qual : Str} {st : Stmt} {f c : Addr} {N ps : List Str} {sp : Sp} {oc : Value} {od an : Option Addr} {osl : Array (Option Value)} {kV doc pm ct : Value}
    (lk : K.lookup f = some ⟨oc, od, .func (PySem.W.fnOf x qual (defArgs st) (defBody st) (defScope st) .none kV doc pm an (.ref c) ct), osl⟩) (hcd : PySem.W.codeIn K (.ref c) qual = true) (S : FnScope N ps (defScope st))
    (B : Binds K (PySem.W.fnOf x qual (defArgs st) (defBody st) (defScope st) .none kV doc pm an (.ref c) ct) ps []) (len : ∀ vs H Q E, sp vs H Q E → vs.length = ps.length)
    (go : ∀ (A : Around) (outer : List Env) (s : Shared) (H : Hp) (vs : List V) (Q : VK) (E : XK), (A.deeper (envOfC qual (defScope st) s.heap.objs.size f (.ref c))).guards = some [] → Room k (A.deeper (envOfC qual (defScope st) s.heap.objs.size f (.ref c))) → sp vs H Q E →
      ∃ t, PSs (cxOf CX0 P w K mg base N qual (defScope st) f (.ref c) A outer s H E).nox (defBody st) t ∧ t { nx := fun _ H1 => Q .non H1, rt := Q } (start N vs) H) : FnG P w K mg base CX0 (k + 1) f sp := by
  intro A outer s H us vs Q E hg hr e0 rv hs
  have hl := len _ _ _ _ hs
  have hu : (us ++ []).length = ps.length := by rw [List.append_nil, ← hl]; exact rv.length.symm
  have b := B s us (e0.mod.kin.keeps fun b o z => (e0.bs b o z).1) hu
  rw [List.append_nil] at b
  exact LamX.run_ofS lk hcd S hr e0 b rv hl fun hr1 => by
    obtain ⟨t, ht, q⟩ := go A outer s H vs Q E hg hr1 hs
    exact ⟨t, ht.nox, q⟩
/-- x(e, ..), x such a def -/
theorem pe_callG {X : Cx} {CX : CXT} {k : Nat} {f : Addr} {sp : Sp} {E : XK} {x : Str} {e : Expr} {es : List Expr} {t : TA} {p pos : Pos} (gu : X.A.guards = some []) (F : FnG X.prog X.w X.K X.mg X.base CX k f sp) (hr : Room k X.A) (hk : PySem.W.keepIn X.K (.ref f) = true) (hg : Gl X x) (hm : X.mg x = some (.ref f)) (hx : Passes CX X E)
    (ha : PA X (e :: es) t) (hd : (x == ("__debug__" : Str)) = false := by decide) (he : starEach (e :: es) X.env = (false, eval e X.env) :: starEach es X.env := by rfl) (hpl : (backTo pos (starEach es X.env)).any (·.1) = false := by rfl) :
    PE X (.Call (.Name x p) (e :: es) [] pos) (fun σ H Q => t σ H fun vs H1 => sp vs H1 Q E) := by
  refine ⟨fun pins s σ H Q I h => wpAny_Call_Name_kw (ld_glob I hg hm ?_ hd)⟩
  refine PySem.W.callWith_K (h₀ := X.base) I.ok.mod.kin hk (thn (ha.run pos pins s σ H _ I h) fun us s1 ⟨vs, H1, I1, r, q⟩ => ⟨I1.kIn, wpAny_call ?_⟩) he hpl
  refine codeAny_mono (F X.A X.stack s1 H1 us vs Q E gu hr I1.env0 r q) fun z s2 hz => ?_
  match z, hz with
  | .error er, hz => exact hx pins σ H1 s1 er s2 I1 hz
  | .ok (.ret u), hz => exact I1.after hz
/-! ### the law's entry, with tables of code objects and nothing being shown -/
section
variable {P : Program} {w : World} {K : PySem.W.Frag} {mg mb : Str → Option Value} {a : Addr} {cs : List (Addr × Addr)} {s : Shared} {vs : List Value} {ns : List Int}
open Classical in
/-- what is tracked at the entry: the script, if it is none of the written things, and the tables -/
noncomputable def H1st (K : PySem.W.Frag) (a : Addr) (cs : List (Addr × Addr)) (vs : List Value) (ns : List Int) : Hp := fun b =>
  if b = a ∧ K.lookup a = Option.none then some (.frz ({ cls := .type "list", data := .seq vs.toArray } : Obj) (.lst (ns.map V.int))) else if ∃ p ∈ cs, p.2 = b then some (.tbl #[]) else Option.none
theorem entry (KX : K.In s.heap) (G : s.heap.Ns mainGlobals mg) (Gb : s.heap.Ns builtinsNs mb) (bb : ∀ x : Str, x ≠ "__name__" → mb x = bootBuiltins x) (nl : s.heap.NoLimit) (ng : s.gens = #[])
    (tb : ∀ p ∈ cs, s.heap.get? p.2 = some ({ cls := .none, data := .fields #[] } : Obj)) (tk : ∀ p ∈ cs, K.lookup p.2 = Option.none) (ch : ∀ p ∈ cs, PySem.W.CodeHd s.heap p.1 p.2)
    (bm : ∃ (m : Addr) (o : Obj), mg "__builtins__" = some (.ref m) ∧ m ≠ builtinsNs ∧ s.heap.get? m = some o ∧ o.cls = .type "module" ∧ o.dict = some builtinsNs ∧ o.data = .plain)
    (sc : s.heap.get? a = some ({ cls := .type "list", data := .seq vs.toArray } : Obj)) (iv : IntsAre vs ns) (len : ns.length ≤ sizeLine) :
    ∃ (H : Hp) (base : Heap), K.In base ∧ base.Ns mainGlobals mg ∧ (∀ p ∈ cs, LamX.TabB base mg p.1 p.2) ∧ Env0 P w K mg base callerA [] s H ∧ (∀ p ∈ cs, H p.2 = some (.tbl #[])) ∧ SqL K H a (ns.map V.int) ∧
      ∀ b, H b = Option.none ∨ (∃ p ∈ cs, p.2 = b) ∨ ∃ o xs, H b = some (.frz o (.lst xs)) := by
  have rv := vals_ints iv
  have nt : ¬ ∃ p ∈ cs, p.2 = a := fun ⟨p, hp, e⟩ => by
    have z := tb p hp
    rw [e, sc] at z
    exact nomatch congrArg Obj.data (Option.some.inj z)
  -- what is tracked
  have tr : ∀ b u, H1st K a cs vs ns b = some u → (b = a ∧ K.lookup a = Option.none ∧ u = .frz ({ cls := .type "list", data := .seq vs.toArray } : Obj) (.lst (ns.map V.int))) ∨ ((∃ p ∈ cs, p.2 = b) ∧ u = .tbl #[]) := fun b u h => by
    unfold H1st at h
    split at h
    · rename_i c; exact .inl ⟨c.1, c.2, (Option.some.inj h).symm⟩
    · split at h
      · rename_i c; exact .inr ⟨c, (Option.some.inj h).symm⟩
      · cases h
  have tt : ∀ p ∈ cs, H1st K a cs vs ns p.2 = some (.tbl #[]) := fun p hp => by
    unfold H1st
    rw [if_neg (fun z : p.2 = a ∧ _ => nt ⟨p, hp, z.1⟩), if_pos ⟨p, hp, rfl⟩]
  have un : ∀ b o, s.heap.get? b = some o → (∀ v n, o.data ≠ .seq v n) → o.data ≠ .fields #[] → H1st K a cs vs ns b = Option.none := fun b o e n1 n2 => by
    match q : H1st K a cs vs ns b with
    | Option.none => rfl
    | some u =>
      exfalso
      rcases tr b u q with ⟨z, _, _⟩ | ⟨⟨p, hp, z⟩, _⟩
      · rw [z, sc] at e; cases e; exact n1 _ _ rfl
      · rw [← z, tb p hp] at e; cases e; exact n2 rfl
  have keep : ∀ {b : Addr} {o : Obj}, s.heap.get? b = some o → (∀ v n, o.data ≠ .seq v n) → o.data ≠ .fields #[] → (hidT s.heap (H1st K a cs vs ns)).get? b = some o := fun e n1 n2 => hidT_get e (un _ _ e n1 n2)
  have nsOf : ∀ {b : Addr} {m : Str → Option Value}, s.heap.Ns b m → (hidT s.heap (H1st K a cs vs ns)).Ns b m := fun {b m} ⟨o, es, ep, e, d, r⟩ => ⟨o, es, ep, keep e (fun v n z => by rw [d] at z; cases z) (fun z => by rw [d] at z; cases z), d, r⟩
  have kin : K.In (hidT s.heap (H1st K a cs vs ns)) := fun b o e => hidT_get (KX b o e) (by
    match q : H1st K a cs vs ns b with
    | Option.none => rfl
    | some u =>
      exfalso
      rcases tr b u q with ⟨z, z2, _⟩ | ⟨⟨p, hp, z⟩, _⟩
      · rw [z, z2] at e; cases e
      · rw [← z, tk p hp] at e; cases e)
  have md : L2.Mod K mg (hidT s.heap (H1st K a cs vs ns)) := { kin := kin, glob := nsOf G, blt := ⟨mb, nsOf Gb, bb⟩, nolimit := by obtain ⟨mc, q1, q2⟩ := nl; exact ⟨mc, nsOf q1, q2⟩ }
  have gl : ∀ p ∈ cs, mainGlobals ≠ p.2 := fun p hp z => by
    obtain ⟨o, es, ep, e, d, _⟩ := G
    rw [z, tb p hp] at e
    cases e
    cases d
  refine ⟨H1st K a cs vs ns, hidT s.heap (H1st K a cs vs ns), kin, nsOf G, fun p hp => ⟨?_, ?_, gl p hp⟩, ⟨rfl, md, fun b o e => of_hidT e, Nat.le_of_eq (hidT_size _ _), trivial, fun b hb => (List.not_mem_nil hb).elim, fun b u q => ?_, .of_eq ng⟩, tt, ?_, fun b => ?_⟩
  · obtain ⟨o, us, file, tf, flags, tg, inF, text, tt, q0, q1, q2, q3, rest⟩ := ch p hp
    refine ⟨o, us, file, tf, flags, tg, inF, text, tt, keep q0 (fun v n z => by rw [q2] at z; cases z) (fun z => ?_), q1, q2, q3, rest⟩
    rw [q2] at z
    cases z
    simp at q3
  · obtain ⟨m, o, b1, b2, b3, b4, b5, b6⟩ := bm
    refine ⟨m, o, b1, b2, fun z => ?_, fun z => ?_, keep b3 (fun v n z => by rw [b6] at z; cases z) (fun z => by rw [b6] at z; cases z), b4, b5, b6⟩
    · obtain ⟨o2, es, ep, e, d, _⟩ := G
      rw [z, e] at b3
      cases b3
      rw [d] at b6
      cases b6
    · rw [z, tb p hp] at b3
      cases b3
      cases b6
  · rcases tr b u q with ⟨z, _, z3⟩ | ⟨⟨p, hp, z⟩, z3⟩
    · rw [z, z3]
      exact ⟨sc, by rw [List.length_map]; exact len, vs, _, rv, sc⟩
    · rw [← z, z3]
      exact tb p hp
  · match q : K.lookup a with
    | Option.none => exact .inl (.inr ⟨_, by unfold H1st; rw [if_pos ⟨rfl, q⟩]⟩)
    | some o =>
      have e := KX a o q
      rw [sc] at e
      cases e
      exact .inr ⟨_, vs.toArray, _, q, rfl, rfl, rfl, by rw [List.size_toArray, iv.length]; exact len, by simpa using rv⟩
  · match q : H1st K a cs vs ns b with
    | Option.none => exact .inl rfl
    | some u =>
      rcases tr b u q with ⟨_, _, z3⟩ | ⟨z, _⟩
      · rw [z3]; exact .inr (.inr ⟨_, _, rfl⟩)
      · exact .inr (.inl z)
/-- what stood before the law stands behind it -/
theorem leave {H H2 : Hp} {s2 : Shared} (tb : ∀ p ∈ cs, s.heap.get? p.2 = some ({ cls := .none, data := .fields #[] } : Obj)) (ch : ∀ p ∈ cs, PySem.W.CodeHd s.heap p.1 p.2) (tt : ∀ p ∈ cs, H p.2 = some (.tbl #[]))
    (only : ∀ b, H b = Option.none ∨ (∃ p ∈ cs, p.2 = b) ∨ ∃ o xs, H b = some (.frz o (.lst xs))) (h1 : HOk P w H s.heap) (u : Un (frs []) [] H H2 s.heap s2.heap) (h2 : HOk P w H2 s2.heap) : OldK s.heap s2.heap := by
  have same : ∀ b o, ¬ (∃ p ∈ cs, p.2 = b) → s.heap.get? b = some o → s2.heap.get? b = some o := fun b o n e => by
    rcases only b with z | z | ⟨ob, xs, z⟩
    · exact u.keep b o e z List.not_mem_nil List.not_mem_nil
    · exact (n z).elim
    · have q1 := (h1 b _ z).1
      have q2 := (h2 b _ (u.frzs b ob _ z)).1
      rw [e] at q1
      rw [q2, Option.some.inj q1]
  have more : ∀ p ∈ cs, ∃ ps : Array Value, s2.heap.get? p.2 = some ({ cls := .none, data := .fields ps } : Obj) := fun p hp => by
    obtain ⟨ps, z⟩ := u.tbls p.2 #[] (tt p hp)
    exact ⟨_, h2 p.2 _ z⟩
  refine ⟨fun b o e => ?_, fun b o e => ?_⟩
  all_goals by_cases hb : ∃ p ∈ cs, p.2 = b
  · obtain ⟨p, hp, rfl⟩ := hb
    obtain ⟨ps, z⟩ := more p hp
    have e2 := e
    rw [tb p hp] at e2
    cases e2
    exact .inr (.inl ⟨((ch p hp).tab (tb p hp)).isCodeTable, rfl, #[], ps, rfl, by rw [Array.empty_append]; exact z⟩)
  · exact .inl (same b o hb e)
  · obtain ⟨p, hp, rfl⟩ := hb
    exact ⟨_, (more p hp).choose_spec⟩
  · exact ⟨o, same b o hb e⟩
end
/-- what is shown of the law behind the head: its promise, and the tables that it leans on -/
def LawG (l : PySem.W.OpenLaw) (w : World) (K : PySem.W.Frag) (k : Nat) (mg : Str → Option Value) (fa : Addr) (h : Heap) : Prop :=
  ∃ (cs : List (Addr × Addr)) (sp : Sp), (∀ p ∈ cs, h.get? p.2 = some ({ cls := .none, data := .fields #[] } : Obj)) ∧ (∀ p ∈ cs, K.lookup p.2 = Option.none) ∧ (∀ p ∈ cs, PySem.W.CodeHd h p.1 p.2) ∧
    (∀ (H : Hp) (a : Addr) (ns : List Int), ns.length ≤ 63 → (∀ z ∈ ns, Builtin.Int.intBits z ≤ 1048576) → (∀ p ∈ cs, H p.2 = some (.tbl #[])) → SqL K H a (ns.map V.int) → sp [.ref a] H (fun v _ => v = .bl true) fun _ _ _ => False) ∧
    ∀ base : Heap, K.In base → base.Ns mainGlobals mg → (∀ p ∈ cs, LamX.TabB base mg p.1 p.2) → FnG l.prog w K mg base CX0 k fa sp
/-- the table of the def x is empty behind the top -/
def TabOf (K : PySem.W.Frag) (mg : Str → Option Value) (h : Heap) (x : Str) : Prop := ∀ (f c P : Addr) (o : Obj) (fd : FuncData) (e : Value) (dd : Option Addr) (vs : Array Value) (sl : Array (Option Value)), mg x = some (.ref f) → K.lookup f = some o → o.data = .func fd → fd.code = .ref c →
  K.lookup c = some ⟨e, dd, .fields vs, sl⟩ → vs[11]? = some (.ref P) → h.get? P = some ({ cls := .none, data := .fields #[] } : Obj) ∧ PySem.W.CodeHd h c P
theorem walkG {l : PySem.W.OpenLaw} {k : Nat} {q : Program} {loose : List Str} {XP : (Str → Option Value) → Heap → Prop} {YP : World → Heap → Prop} {d : DefRec} {K : Params → PySem.W.Frag} (xs : List Str) (hxs : (xs.all fun x => (recsOf q).any fun e => e.name == x) = true)
    (hn : l.most = some 63) (hdf : d.params.defaults = []) (hr : Room k callerA) (hY : ∀ (w : World) (h : Heap), YP w h → (K w.params).In h)
    (F : ∀ (w : World) (mg : Str → Option Value) (fa : Addr) (h : Heap), (K w.params).In h → h.Ns mainGlobals mg → mg d.name = some (.ref fa) → (∀ x ∈ xs, TabOf (K w.params) mg h x) → LawG l w (K w.params) k mg fa h) :
    PySem.W.WalkO q loose XP YP l.row.toRowW d [] (fun f vs => PySem.call f vs) := by
  refine Att.attach_callB hn hdf fun w s₀ s mg mb fa o pm cd doc a vs ns G Y _ _ _ hmg hobj hints hlen hbits hg => ?_
  have KX := hY w _ Y
  have tabs : ∀ x ∈ xs, TabOf (K w.params) mg s.heap x := fun x hx f c P o fd e dd us sl m1 m2 m3 m4 m5 m6 => by
    obtain ⟨r, hr1, hr2⟩ := List.any_eq_true.mp (List.all_eq_true.mp hxs x hx)
    obtain ⟨f2, o2, fd2, c2, P2, t1, t2, t3, t4, t5, t6⟩ := G.T.tab r hr1
    rw [beq_iff_eq.mp hr2, m1] at t1
    cases t1
    rw [KX _ _ m2] at t2
    cases t2
    rw [m3] at t3
    cases t3
    rw [m4] at t4
    cases t4
    have hd := PySem.W.CodeHd.of t5 t6
    obtain ⟨⟨oc, vc, u1, _, u3, u4⟩, hP⟩ := t6
    rw [KX _ _ m5] at u1
    cases u1
    cases u3
    rw [m6] at u4
    cases u4
    exact ⟨hP, hd⟩
  obtain ⟨cs, sp, tb, tk, ch, hsp, FG⟩ := F w mg fa _ KX G.T.g hmg tabs
  obtain ⟨H, base, kin, ns1, TB, e0, tt, hS, only⟩ := entry (P := l.prog) (w := w) KX G.T.g G.T.b G.T.builtins G.T.nolimit hg tb tk ch G.T.bmain hobj hints (Nat.le_trans hlen (by decide))
  refine codeAny_mono (FG base kin ns1 TB callerA [] s H [.ref a] [.ref a] _ _ rfl hr e0 (.cons rfl .nil) (hsp H a ns hlen hbits tt hS)) fun r s2 h => ?_
  match r, h with
  | .ok (.ret u), ⟨v, H2, os, bare, un, hok, rel, e⟩ =>
    have e' : v = .bl true := e
    subst e'
    have eu : u = Value.bool true := rel
    subst eu
    exact ⟨rfl, leave tb ch tt only e0.hok un hok, os, bare⟩

/-! ### repr -/
/-- v is read as the datum d: as Dp, and dicts of no entry or one -/
inductive Dq (K : PySem.W.Frag) (H : Hp) : V → PyData → Prop where
  | dp {v : V} {d : PyData} : Dp K H v d → Dq K H v d
  | d0 {a : Addr} : H a = some (.dK []) → Dq K H (.ref a) (.dict [])
mutual
theorem dp_nodict {K : PySem.W.Frag} {H : Hp} : ∀ (d : PyData) (v : V), Dp K H v d → d.hasDict = false
  | .none, _, _ => rfl
  | .bool _, _, _ => rfl
  | .int _, _, _ => rfl
  | .str _, _, _ => rfl
  | .list ds, _, h => by
    cases h with
    | lst _ ha => exact dp_nodictAll ds _ ha
  | .tuple ds, _, h => by
    cases h with
    | tup _ ha => exact dp_nodictAll ds _ ha
  | .dict _, _, h => by cases h
theorem dp_nodictAll {K : PySem.W.Frag} {H : Hp} : ∀ (ds : List PyData) (vs : List V), DpAll K H vs ds → PyData.hasDictAll ds = false
  | [], _, _ => rfl
  | d :: ds, _, h => by
    cases h with
    | cons h1 h2 =>
      show (PyData.hasDict d || PyData.hasDictAll ds) = false
      rw [dp_nodict d _ h1, dp_nodictAll ds _ h2]
      rfl
end
theorem Dq.reads {X : Cx} {pins : List (Addr × Obj)} {σ : L2.St} {H : Hp} {s : Shared} (I : Inv X pins σ H s) {v : V} {d : PyData} {u : Value} (h : Dq X.K H v d) (r : RelV v u) : ∃ as, Reads s.heap u d as ∧ (d.hasDict = true → sysModules ∉ as) := by
  cases h with
  | dp h =>
    obtain ⟨as, q⟩ := Dp.reads I _ _ _ h r
    exact ⟨as, q, fun z => by rw [dp_nodict _ _ h] at z; cases z⟩
  | @d0 a h =>
    obtain rfl : u = Value.ref a := r
    obtain ⟨_, ns, vs, kv, o, es, ep, e1, e2, e3, e4⟩ := (show ObjOk X.prog X.w H s.heap a (.dK []) from I.hok a _ h)
    cases kv
    have e5 : es.toList = [] := by
      have e6 := e4.2.1
      generalize es.toList = l at e6
      cases e6
      rfl
    refine ⟨[a] ++ [] ++ [], Reads.dict e1 e2.1 e3 (by rw [e5]; exact .nil) (by rw [e5]; exact .nil), fun _ z => ?_⟩
    have z' : sysModules = a := by simpa using z
    rw [← z'] at ns
    simp at ns
def rRep (K : PySem.W.Frag) : List V → Hp → VK → Prop := fun vs H Q => ∃ v d, vs = [v] ∧ Dq K H v d ∧ d.showable = true ∧ d.depth ≤ 60 ∧ ((∃ i, d = .int i) ∨ d.shown.length ≤ sizeLine) ∧ Q (.str d.shown) H
theorem call_rep {X : Cx} (gu : X.A.guards = some []) (hu : X.A.units + 64 < cLine) : CallR X (.builtin "repr") (rRep X.K) := by
  intro pins s σ H xs us Q I r h
  obtain ⟨v, d, rfl, hd, h1, h2, h3, q⟩ := h
  obtain ⟨u, rfl, ru⟩ := vals1 r
  obtain ⟨as, rd, ns⟩ := hd.reads I ru
  have done : ∀ (h' : Heap) (t : Tok) (tk : Nat), (∀ b o, s.heap.get? b = some o → h'.get? b = some o) → EP X pins σ Q (.str d.shown t) { s with heap := h', toks := tk } := fun h' t tk k => ⟨.str d.shown, H, I.kept (t' := tk) k, ⟨t, rfl⟩, q⟩
  have same : ∀ t tk, EP X pins σ Q (.str d.shown t) { s with toks := tk } := fun t tk => done s.heap t tk fun _ _ z => z
  have h3 : (∀ i, d ≠ .int i) → d.shown.length ≤ sizeLine := fun n => h3.resolve_left fun ⟨i, z⟩ => n i z
  cases rd with
  | none => exact PySem.P.repr_of_none (same _ _)
  | bool b => exact PySem.P.repr_of_bool (same _ _)
  | int i t => exact PySem.P.repr_of_int (of_decide_eq_true h1) (same _ _)
  | str x t => exact PySem.P.repr_of_str (same _ _) (h3 fun _ z => nomatch z)
  | list e1 e2 e3 e4 => exact PySem.repr_of_reads' (.list e1 e2 e3 e4) h1 ns gu (by omega) (fun _ _ z => z) (fun h' u tk k => done h' u tk k) (h3 fun _ z => nomatch z)
  | tuple e1 e2 e3 e4 => exact PySem.repr_of_reads' (.tuple e1 e2 e3 e4) h1 ns gu (by omega) (fun _ _ z => z) (fun h' u tk k => done h' u tk k) (h3 fun _ z => nomatch z)
  | dict e1 e2 e3 e4 e5 => exact PySem.repr_of_reads' (.dict e1 e2 e3 e4 e5) h1 ns gu (by omega) (fun _ _ z => z) (fun h' u tk k => done h' u tk k) (h3 fun _ z => nomatch z)

/-- the target a, b within a comprehension: told of the written part and of the number of names -/
theorem pg_tup2 {X : Cx} {es : List Expr} {k : Nat} {t : TGs} {pos : Pos} (K : PySem.W.Frag) (n : Nat) (hK : X.K = K) (hc : X.calm = true) (h : PGs X es t) (hn : (assignEach es X.env).length = n := by rfl) (hst : (assignEach es X.env).findIdx? (·.1) = none := by rfl) : PG X (.Tuple es k pos) (gTup K n t) := by
  subst hK
  exact pg_tup hc h hn hst
theorem ix_tup2 {X : Cx} (K : PySem.W.Frag) (hK : X.K = K) : IxR X (rIxT K) := by
  subst hK
  exact ix_tup
theorem ix_list2 {X : Cx} (K : PySem.W.Frag) (hK : X.K = K) : IxR X (rIxL K) := by
  subst hK
  exact ix_list
theorem op_eqD2 {X : Cx} (K : PySem.W.Frag) (hK : X.K = K) (hu : X.A.units + 64 < cLine) : OpR X (compareOp .Eq) (rEqD K) := by
  subst hK
  exact op_eqD hu
theorem sl_list2 {X : Cx} (K : PySem.W.Frag) (hK : X.K = K) : SlR X (rSlL K) := by
  subst hK
  exact sl_list
theorem op_in_seq2 {X : Cx} (K : PySem.W.Frag) (hK : X.K = K) : OpR X (compareOp .In) (rIn K false) := by
  subst hK
  exact op_in_seq
theorem op_notIn_seq2 {X : Cx} (K : PySem.W.Frag) (hK : X.K = K) : OpR X (compareOp .NotIn) (rIn K true) := by
  subst hK
  exact op_notIn_seq

/-! ### values by kinds; numbers that are refused -/
/-- v is of the built-in kind t -/
inductive NT (H : Hp) : V → String → Prop where
  | non : NT H .non "NoneType"
  | bl (b : Bool) : NT H (.bl b) "bool"
  | int (i : Int) : NT H (.int i) "int"
  | str (x : Str) : NT H (.str x) "str"
  | lst {a : Addr} {xs : List V} : H a = some (.lst xs) → NT H (.ref a) "list"
  | tup {a : Addr} {xs : List V} : H a = some (.tup xs) → NT H (.ref a) "tuple"
  | dic {a : Addr} {kvs : List (Key × V)} : H a = some (.dK kvs) → NT H (.ref a) "dict"
theorem NT.same {H H' : Hp} (s : Same H H') {v : V} {t : String} (h : NT H v t) : NT H' v t := by
  cases h with
  | non => exact .non
  | bl b => exact .bl b
  | int i => exact .int i
  | str x => exact .str x
  | lst e => exact .lst (s _ _ e)
  | tup e => exact .tup (s _ _ e)
  | dic e => exact .dic (s _ _ e)
theorem NT.ty {K : PySem.W.Frag} {H : Hp} {v : V} {t : String} (h : NT H v t) : TyX K H v (.type t) := by
  cases h with
  | non => exact .base .non
  | bl b => exact .base (.bl b)
  | int i => exact .base (.int i)
  | str x => exact .base (.str x)
  | lst e => exact .base (.lst e)
  | tup e => exact .base (.tup e)
  | dic e => exact .base (.dK e)
theorem NT.kit {H : Hp} {v : V} {t : String} (h : NT H v t) : ∃ b1 b2, kitB t "int" = some b1 ∧ kitB t "bool" = some b2 ∧ (b1 && !b2) = (t == "int") := by
  cases h with
  | non => exact ⟨false, false, by decide +kernel, by decide +kernel, by decide +kernel⟩
  | bl b => exact ⟨true, true, by decide +kernel, by decide +kernel, by decide +kernel⟩
  | int i => exact ⟨true, false, by decide +kernel, by decide +kernel, by decide +kernel⟩
  | str x => exact ⟨false, false, by decide +kernel, by decide +kernel, by decide +kernel⟩
  | lst e => exact ⟨false, false, by decide +kernel, by decide +kernel, by decide +kernel⟩
  | tup e => exact ⟨false, false, by decide +kernel, by decide +kernel, by decide +kernel⟩
  | dic e => exact ⟨false, false, by decide +kernel, by decide +kernel, by decide +kernel⟩
theorem NT.tupB {H : Hp} {v : V} {t : String} (h : NT H v t) : kitB t "tuple" = some (t == "tuple") := by
  cases h <;> decide +kernel
theorem NT.isInt {H : Hp} {v : V} {t : String} (h : NT H v t) (e : t = "int") : ∃ i, v = .int i := by
  cases h with
  | int i => exact ⟨i, rfl⟩
  | _ => exact absurd e (by decide)
/-- def f(*v) of the text, which may raise -/
theorem star_okX {x qual pv : Str} {k : Nat} {st : Stmt} {f : Addr} {fd : FuncData} {N : List Str} {sp : List V → Hp → VK → XK → Prop}
    (F : Fun K x qual st f fd) (S : FnScope N [pv] (defScope st))
    (hb : ∀ (kV doc pm : Value) (an : Option Addr) (cdv ct : Value) (rest : List Value), bindArgs (PySem.W.fnOf x qual (defArgs st) (defBody st) (defScope st) .none kV doc pm an cdv ct) { pos := rest, kw := [] } = (newTuple rest >>= fun t => pure [(pv, t)]))
    (go : ∀ (cdv : Value) (A : Around) (outer : List Env) (s : Shared) (H : Hp) (vs : List V) (p : Addr) (H0 : Hp) (Q : VK) (E : XK), Room k (A.deeper (envOfC qual (defScope st) s.heap.objs.size f cdv)) → sp vs H0 Q E → vs.length ≤ sizeLine → H0 p = Option.none → H = upd H0 p (.tup vs) →
      ∃ t, PSs (cxOf (L2.CX P w) P w K mg base N qual (defScope st) f cdv A outer s H E) (defBody st) t ∧ t { nx := fun _ H1 => Q .non H1, rt := Q } (start N [V.ref p]) H) :
    FnR P w K mg base (L2.CX P w) (k + 1) f (fun vs H Q E => vs.length ≤ sizeLine ∧ sp vs H Q E) := by
  obtain ⟨oc, od, kV, doc, pm, an, cdv, ct, osl, e, lk, hcd⟩ := F.ex
  subst e
  refine FnR.imp (fn_star (ps := []) (pv := pv) (CX := L2.CX P w) (sp := fun ws H Q E => ∃ (vs : List V) (p : Addr) (H0 : Hp), ws = [V.ref p] ∧ sp vs H0 Q E ∧ vs.length ≤ sizeLine ∧ H0 p = Option.none ∧ H = upd H0 p (.tup vs)) lk hcd S cxUp (fun us rest hl => ?_) fun A outer s H vs Q E hr h => ?_) fun vs H Q E h => ?_
  · have e : us = [] := List.length_eq_zero_iff.mp hl
    subst e
    show bindArgs _ { pos := rest, kw := [] } = _
    rw [hb]
    rfl
  · obtain ⟨ws, p, H0, rfl, hs, hl, hp, rfl⟩ := h
    exact go cdv A outer s _ ws p H0 Q E hr hs hl hp rfl
  · exact ⟨[], vs, rfl, rfl, h.1, fun p hp => ⟨vs, p, H, rfl, h.2, h.1, hp, rfl⟩⟩

/-- e.f, a property of the object's class, whichever that is -/
def tPropW (K : PySem.W.Frag) (f : Str) (p g : Addr) (sp : Sp) (dvs : List V) (E : XK) (ta : TE) : TE := fun σ H Q => ta σ H fun x H1 => ∃ a C dx fs, x = .ref a ∧ H1 a = some (.ins C dx fs) ∧ Cls K C ∧ PropOf K C f p g ∧ sp (.ref a :: dvs) H1 Q E
theorem pe_propW {X : Cx} {CX : CXT} {k : Nat} {g : Addr} {f : Str} {fd : FuncData} {ps : List Str} {sp : Sp} {dvs : List V} {ds : List Value} {E : XK} {e : Expr} {pos : Pos} {ta : TE} (he : PE X e ta) (p : Addr) (F : FnOk X.prog X.w X.K X.mg X.base CX k g fd ps sp) (hr : Room (k + 1) X.A) (hb : Binds X.K fd ps ds) (hd : Vals dvs ds) (hx : Passes CX X.nox E)
    (hab : attributeBase e f X.env (eval e X.env) = eval e X.env) : PE X (.Attribute e f pos) (tPropW X.K f p g sp dvs E ta) := by
  refine ⟨fun pins s σ H Q I h => ?_⟩
  refine attr_of hab (thn (he.run pins s σ H _ I h) fun u s1 ⟨x, H1, I1, rx, a, C, dx, fs, ex, ea, c, hp, q⟩ => ?_)
  subst ex
  obtain rfl : u = Value.ref a := rx
  exact getprop_ok I1 ea c hp F hr hb hd hx q

/-! ### classes: made by a def with a star, static methods -/
/-- def f(p1, p2, *v) of the text -/
theorem star2_ok {x qual p1 p2 pv : Str} {k : Nat} {st : Stmt} {f : Addr} {fd : FuncData} {N : List Str} {sp : V → V → List V → Hp → VK → XK → Prop}
    (F : Fun K x qual st f fd) (S : FnScope N [p1, p2, pv] (defScope st))
    (hb : ∀ (kV doc pm : Value) (an : Option Addr) (cdv ct : Value) (a b : Value) (rest : List Value), bindArgs (PySem.W.fnOf x qual (defArgs st) (defBody st) (defScope st) .none kV doc pm an cdv ct) ⟨a :: b :: rest, []⟩ = (newTuple rest >>= fun t => pure [(p1, a), (p2, b), (pv, t)]))
    (go : ∀ (cdv : Value) (A : Around) (outer : List Env) (s : Shared) (H : Hp) (a b : V) (vs : List V) (p : Addr) (H0 : Hp) (Q : VK) (E : XK), Room k (A.deeper (envOfC qual (defScope st) s.heap.objs.size f cdv)) → sp a b vs H0 Q E → vs.length ≤ sizeLine → H0 p = Option.none → H = upd H0 p (.tup vs) →
      ∃ t, PSs (cxOf CX0 P w K mg base N qual (defScope st) f cdv A outer s H E).nox (defBody st) t ∧ t { nx := fun _ H1 => Q .non H1, rt := Q } (start N [a, b, V.ref p]) H) :
    FnR P w K mg base CX0 (k + 1) f (fun vs H Q E => ∃ a b rest, vs = a :: b :: rest ∧ rest.length ≤ sizeLine ∧ sp a b rest H Q E) := by
  obtain ⟨oc, od, kV, doc, pm, an, cdv, ct, osl, e, lk, hcd⟩ := F.ex
  subst e
  refine FnR.imp (fn_star (ps := [p1, p2]) (pv := pv) (CX := CX0) (sp := fun ws H Q E => ∃ (a b : V) (vs : List V) (p : Addr) (H0 : Hp), ws = [a, b, V.ref p] ∧ sp a b vs H0 Q E ∧ vs.length ≤ sizeLine ∧ H0 p = Option.none ∧ H = upd H0 p (.tup vs)) lk hcd S cxUp_none (fun us rest hl => ?_) fun A outer s H vs Q E hr h => ?_) fun vs H Q E h => ?_
  · match us, hl with
    | [a, b], _ =>
      show bindArgs _ { pos := a :: b :: rest, kw := [] } = _
      rw [hb]
      rfl
  · obtain ⟨a, b, ws, p, H0, rfl, hs, hl, hp, rfl⟩ := h
    obtain ⟨t, ht, hq⟩ := go cdv A outer s _ a b ws p H0 Q E hr hs hl hp rfl
    exact ⟨t, ht.nox, hq⟩
  · obtain ⟨a, b, rest, rfl, hl, hs⟩ := h
    exact ⟨[a, b], rest, rfl, rfl, hl, fun p hp => ⟨a, b, rest, p, H, rfl, hs, hl, hp, rfl⟩⟩
/-- C(e, ..), the init told of its arguments as they are passed -/
def tMkR (C : Addr) (sp : Sp) (E : XK) (t : TA) : TE := fun σ H Q => t σ H fun vs H1 => ∀ x dx, H1 x = Option.none → H1 dx = Option.none → dx ≠ x → sp (.ref x :: vs) (upd (upd H1 dx (.own x)) x (.ins C dx [])) (fun v H2 => v = .non ∧ Q (.ref x) H2) E
section
variable {X : Cx} {CX : CXT} {k : Nat} {f C p g : Addr} {sp : Sp} {E : XK} {x m : Str} {e o : Expr} {es : List Expr} {kws : List Keyword} {ta : TE} {t tk : TA} {pos apos q : Pos} {mc : Value}
theorem run_mkR {pins : List (Addr × Obj)} {σ : L2.St} {H : Hp} {s : Shared} {Q : VK} {us : List Value} {vs : List V} (M : Mk X.K C f) (F : FnR X.prog X.w X.K X.mg X.base CX k f sp) (hr : Room (k + 1) X.A) (hx : Passes CX X E) (I : Inv X pins σ H s) (r : Vals vs us)
    (h : ∀ x dx, H x = Option.none → H dx = Option.none → dx ≠ x → sp (.ref x :: vs) (upd (upd H dx (.own x)) x (.ins C dx [])) (fun v H2 => v = .non ∧ Q (.ref x) H2) E) : wpAny (model X.prog X.w) X.A (call (.ref C) us) (EP X pins σ Q) X.xe s := by
  have hq := h (s.heap.objs.size + 1) s.heap.objs.size (I.hok.fresh (Nat.le_succ _)) (I.hok.fresh (Nat.le_refl _)) (Nat.ne_of_lt (Nat.lt_succ_self _))
  have I2 := Inv.made (C := C) I
  have r1 : Vals (V.ref (s.heap.objs.size + 1) :: vs) (Value.ref (s.heap.objs.size + 1) :: us) := .cons rfl r
  refine wpAny_call (make_map (f := f) I.kIn M.makes M.init (beq_iff_eq.mp M.fn) (codeAny_mono (F _ X.stack _ _ (Value.ref (s.heap.objs.size + 1) :: us) _ _ E (hr.make C us []) (I2.env0.make C us []) r1 hq) fun r s2 hz => ?_))
  match r, hz with
  | .error er, hz => exact hx pins σ _ _ er s2 I2 hz
  | .ok (.ret u), hz =>
    obtain ⟨v, H3, I3, rv, ev, q3⟩ := I2.after hz
    subst ev
    exact ⟨rv, ⟨V.ref (s.heap.objs.size + 1), H3, I3, rfl, q3⟩⟩
theorem pe_mkR (M : Mk X.K C f) (F : FnR X.prog X.w X.K X.mg X.base CX k f sp) (hr : Room (k + 1) X.A) (hx : Passes CX X E) (hg : Gl X x) (hm : X.mg x = some (.ref C)) (ha : PA X (e :: es) t)
    (hdb : (x == ("__debug__" : Str)) = false := by decide) (he : starEach (e :: es) X.env = (false, eval e X.env) :: starEach es X.env := by rfl) (hpl : (backTo pos (starEach es X.env)).any (·.1) = false := by rfl) : PE X (.Call (.Name x q) (e :: es) [] pos) (tMkR C sp E t) := by
  refine ⟨fun pins s σ H Q I h => wpAny_Call_Name_kw (ld_glob I hg hm ?_ hdb)⟩
  refine PySem.W.callWith_K (h₀ := X.base) I.ok.mod.kin M.kp (thn (ha.run pos pins s σ H _ I h) fun us s1 ⟨vs, H1, I1, r, q⟩ => ⟨I1.kIn, ?_⟩) he hpl
  exact run_mkR M F hr hx I1 r q
/-- C.m is a static method: its record at p, its def at g -/
structure CStat (K : PySem.W.Frag) (C : Addr) (mc : Value) (m : Str) (p g : Addr) : Prop where
  at_ : PySem.W.findCls K (.ref C) mc m = some (.get (.builtin "staticmethod.__get__") (.ref p) .none (.ref C))
  rc : ∃ rest, PySem.W.recIn K p "staticmethod" = some (.ref g :: rest)
  kp : PySem.W.keepIn K (.ref g) = true
theorem getmethst_ok {pins : List (Addr × Obj)} {σ : L2.St} {H : Hp} {s : Shared} {A : Around} {E : Value → Shared → Prop} {pl : Sem Bool} {Q : Value × List Value → Shared → Prop} (I : Inv X pins σ H s) (r : ClX.CRead X.K C mc) (k : CStat X.K C mc m p g)
    (h : ∀ s', Inv X pins σ H s' → Q (.ref g, []) s') : wpAny (model X.prog X.w) A (getMethod (.ref C) m pl) Q E s := by
  obtain ⟨rest, hp⟩ := k.rc
  refine PySem.W.method_cls I.kIn r.ga (PySem.W.cls_bind I.kIn r.rd k.at_ ?_)
  exact wpAny_call (PySem.W.sm_get (s := { s with toks := s.toks + 1 }) I.kIn hp (PySem.W.handed_on rfl (h _ (I.tok _))))
/-- C.m(e, ..) -/
def tStat (C : Addr) (sp : Sp) (E : XK) (ta : TE) (t : TA) : TE := fun σ H Q => ta σ H fun x H1 => x = .ref C ∧ t σ H1 fun vs H2 => sp vs H2 Q E
theorem pe_stat {pl : Sem Bool} (he : PE X o ta) (r : ClX.CRead X.K C mc) (c : CStat X.K C mc m p g) (F : FnR X.prog X.w X.K X.mg X.base CX k g sp) (hr : Room k X.A) (hx : Passes CX X E) (ha : PA X (e :: es) t)
    (hst : starEach (e :: es) X.env = (false, eval e X.env) :: starEach es X.env := by rfl) (hpl : (backTo pos (starEach es X.env)).any (·.1) = false := by rfl)
    (ht : eval (.Call (.Attribute o m apos) (e :: es) [] pos) X.env = (do
      let ov ← eval o X.env
      standAt apos.atName
      let (f, first) ← holding [ov] (getMethod ov m pl)
      callWith pos f first (backTo pos (starEach (e :: es) X.env)) (backToKw pos (keywordEach [] X.env))) := by rfl) :
    PE X (.Call (.Attribute o m apos) (e :: es) [] pos) (tStat C sp E ta t) := by
  refine ⟨fun pins s σ H Q I h => PySem.W.methodCall_KW (pl := pl) (thn (he.run pins s σ H _ I h) fun u s1 ⟨x, H1, I1, rx, ex, q⟩ => ?_) ht⟩
  subst ex
  obtain rfl : u = Value.ref C := rx
  refine getmethst_ok I1 r c fun s2 I2 => ?_
  refine PySem.W.callWith_K (h₀ := X.base) I.ok.mod.kin c.kp (thn (ha.run pos pins s2 σ H1 _ I2 q) fun us s3 ⟨vs, H2, I3, rv, q2⟩ => ⟨I3.kIn, ?_⟩) hst hpl
  exact wpAny_call (run_fnR F hr hx I3 rv q2)
theorem pe_stat0 {pl : Sem Bool} (he : PE X o ta) (r : ClX.CRead X.K C mc) (c : CStat X.K C mc m p g) (F : FnR X.prog X.w X.K X.mg X.base CX k g sp) (hr : Room k X.A) (hx : Passes CX X E)
    (ht : eval (.Call (.Attribute o m apos) [] [] pos) X.env = (do
      let ov ← eval o X.env
      standAt apos.atName
      let (f, first) ← holding [ov] (getMethod ov m pl)
      callWith pos f first (backTo pos (starEach [] X.env)) (backToKw pos (keywordEach [] X.env))) := by rfl) :
    PE X (.Call (.Attribute o m apos) [] [] pos) (tStat C sp E ta tNil) := by
  refine ⟨fun pins s σ H Q I h => PySem.W.methodCall_KW (pl := pl) (thn (he.run pins s σ H _ I h) fun u s1 ⟨x, H1, I1, rx, ex, q⟩ => ?_) ht⟩
  subst ex
  obtain rfl : u = Value.ref C := rx
  refine getmethst_ok I1 r c fun s2 I2 => ?_
  exact PySem.W.callWith_K0 I2.kIn c.kp (wpAny_call (run_fnR (us := []) F hr hx I2 .nil q))
/-- C.m(k = v, ..) -/
theorem pe_statK {pl : Sem Bool} {fd : FuncData} {ps ks : List Str} {gu : List Value → List Value → List Value} {gV : List V → List V → List V} (he : PE X o ta) (r : ClX.CRead X.K C mc) (c : CStat X.K C mc m p g) (F : FnOk X.prog X.w X.K X.mg X.base CX k g fd ps sp) (hr : Room k X.A)
    (hb : KBinds X.K fd ps ks gu gV) (hx : Passes CX X E) (hkw : PK X kws tk) (hall : (backToKw pos (keywordEach kws X.env)).all (·.1.isSome) = true := by rfl) (hks : (backToKw pos (keywordEach kws X.env)).filterMap (·.1) = ks := by rfl)
    (hpl : ((backTo pos (starEach [] X.env)).any (·.1) || (backToKw pos (keywordEach kws X.env)).any (·.1.isNone)) = false := by rfl)
    (ht : eval (.Call (.Attribute o m apos) [] kws pos) X.env = (do
      let ov ← eval o X.env
      standAt apos.atName
      let (f, first) ← holding [ov] (getMethod ov m pl)
      callWith pos f first (backTo pos (starEach [] X.env)) (backToKw pos (keywordEach kws X.env))) := by rfl) :
    PE X (.Call (.Attribute o m apos) [] kws pos) (tStat C (fun zs => sp (gV [] zs)) E ta tk) := by
  refine ⟨fun pins s σ H Q I h => PySem.W.methodCall_KW (pl := pl) (thn (he.run pins s σ H _ I h) fun u s1 ⟨x, H1, I1, rx, ex, q⟩ => ?_) ht⟩
  subst ex
  obtain rfl : u = Value.ref C := rx
  refine getmethst_ok I1 r c fun s2 I2 => ?_
  refine PySem.W.callWith_KW0 (h₀ := X.base) I.ok.mod.kin c.kp hall (thn (hkw.run pos pins s2 σ H1 _ I2 q) fun ws s3 ⟨zs, H2, I3, rz, q2⟩ => ⟨I3.kIn, ?_⟩) hpl
  rw [hks]
  exact run_fnk (us := []) F hr hb hx I3 .nil rz q2
end

/-! ### what an own class says of in, not in, ==, len, truth -/
section
variable {X : Cx} {CX : CXT} {k : Nat} {C f : Addr} {fd : FuncData} {ps : List Str} {sp : Sp} {E : XK}
/-- an instance as the walk knows it -/
theorem ins_at {pins : List (Addr × Obj)} {σ : L2.St} {H : Hp} {s : Shared} {a dx : Addr} {fs : List (Str × V)} (I : Inv X pins σ H s) (e : H a = some (.ins C dx fs)) : ∃ (o : Obj) (od : Option Obj), PySem.W.InstAt s.heap a o C od := by
  obtain ⟨mA, O, _, _, _, _⟩ := ins_get I.hok e
  obtain ⟨od, J, _⟩ := O.look
  exact ⟨_, _, J⟩
/-- x in a: the own __contains__ answers a truth -/
def rInO (C : Addr) (sp : Sp) (E : XK) : R2 := fun x y H Q => ∃ (a dx : Addr) (fs : List (Str × V)), y = .ref a ∧ H a = some (.ins C dx fs) ∧ sp [.ref a, x] H (fun v H' => ∃ b, v = .bl b ∧ Q (.bl b) H') E
def rNotInO (C : Addr) (sp : Sp) (E : XK) : R2 := fun x y H Q => ∃ (a dx : Addr) (fs : List (Str × V)), y = .ref a ∧ H a = some (.ins C dx fs) ∧ sp [.ref a, x] H (fun v H' => ∃ b, v = .bl b ∧ Q (.bl (!b)) H') E
theorem op_inO (F : FnOk X.prog X.w X.K X.mg X.base CX k f fd ps sp) (hr : Room k X.A) (hb : Binds X.K fd ps []) (hx : Passes CX X E) (hs : PySem.W.findIn X.K (.ref C) "__contains__" = some (some (.ref f))) (hf : PySem.W.isFn X.K (.ref f) = true) : OpR X (compareOp .In) (rInO C sp E) := by
  intro pins s σ H x y v u Q I rx ry h
  obtain ⟨a, dx, fs, rfl, ha, q⟩ := h
  obtain rfl : u = Value.ref a := ry
  obtain ⟨o, od, J⟩ := ins_at I ha
  obtain ⟨m, hF⟩ := I.fr
  refine PySem.W.in_K hF I.ok.mod.kin J hs hf (thn (run_fn (us := [.ref a, v]) (vs := [.ref a, x]) F hr hb .nil hx I (.cons rfl (.cons rx .nil)) q) fun r s1 z => ?_)
  obtain ⟨w, H1, I1, rw1, b, rfl, q1⟩ := z
  cases rw1
  exact wpAny_truthy_bool ⟨.bl b, H1, I1, rfl, q1⟩
theorem op_notInO (F : FnOk X.prog X.w X.K X.mg X.base CX k f fd ps sp) (hr : Room k X.A) (hb : Binds X.K fd ps []) (hx : Passes CX X E) (hs : PySem.W.findIn X.K (.ref C) "__contains__" = some (some (.ref f))) (hf : PySem.W.isFn X.K (.ref f) = true) : OpR X (compareOp .NotIn) (rNotInO C sp E) := by
  intro pins s σ H x y v u Q I rx ry h
  obtain ⟨a, dx, fs, rfl, ha, q⟩ := h
  obtain rfl : u = Value.ref a := ry
  obtain ⟨o, od, J⟩ := ins_at I ha
  obtain ⟨m, hF⟩ := I.fr
  refine PySem.W.notIn_K hF I.ok.mod.kin J hs hf (thn (run_fn (us := [.ref a, v]) (vs := [.ref a, x]) F hr hb .nil hx I (.cons rfl (.cons rx .nil)) q) fun r s1 z => ?_)
  obtain ⟨w, H1, I1, rw1, b, rfl, q1⟩ := z
  cases rw1
  exact wpAny_truthy_bool ⟨.bl (!b), H1, I1, rfl, q1⟩
/-- a == b, both instances of the class -/
def rEqO (C : Addr) (sp : Sp) (E : XK) : R2 := fun x y H Q => ∃ (a b dx dy : Addr) (fs gs : List (Str × V)), x = .ref a ∧ y = .ref b ∧ H a = some (.ins C dx fs) ∧ H b = some (.ins C dy gs) ∧ sp [.ref a, .ref b] H (fun v H' => ∃ b, v = .bl b ∧ Q (.bl b) H') E
theorem op_eqO (F : FnOk X.prog X.w X.K X.mg X.base CX k f fd ps sp) (hr : Room k X.A) (hb : Binds X.K fd ps []) (hx : Passes CX X E) (hs : PySem.W.findIn X.K (.ref C) "__eq__" = some (some (.ref f))) (hf : PySem.W.isFn X.K (.ref f) = true) : OpR X (compareOp .Eq) (rEqO C sp E) := by
  intro pins s σ H x y v u Q I rx ry h
  obtain ⟨a, b, dx, dy, fs, gs, rfl, rfl, ha, hb2, q⟩ := h
  obtain rfl : v = Value.ref a := rx
  obtain rfl : u = Value.ref b := ry
  obtain ⟨o, od, J⟩ := ins_at I ha
  obtain ⟨o2, od2, J2⟩ := ins_at I hb2
  obtain ⟨m, hF⟩ := I.fr
  show wpAny (model X.prog X.w) X.A (richCompare .Eq (.ref a) (.ref b)) (EP X pins σ Q) X.xe s
  refine PySem.W.cmp_K (op := .Eq) (tb := .ref C) hr.units0 hF I.ok.mod.kin J J2.type (by simp [PySem.W.notFirst]) hs hf (thn (run_fn (us := [.ref a, .ref b]) (vs := [.ref a, .ref b]) F hr hb .nil hx I (.cons rfl (.cons rfl .nil)) q) fun r s1 z => ?_)
  obtain ⟨w, H1, I1, rw1, c, rfl, q1⟩ := z
  cases rw1
  exact ⟨.bl c, H1, I1, rfl, q1⟩
/-- len(a) -/
def rLenO (C : Addr) (sp : Sp) (E : XK) : List V → Hp → VK → Prop := fun xs H Q => ∃ (a dx : Addr) (fs : List (Str × V)), xs = [.ref a] ∧ H a = some (.ins C dx fs) ∧ sp [.ref a] H (fun v H' => ∃ n : Int, v = .int n ∧ 0 ≤ n ∧ n < 2 ^ 63 ∧ Q (.int n) H') E
end
/-! ### len, !=, truth of an own class -/
section
variable {prog : Program} {w : World} {A : Around} {E : Value → Shared → Prop} {s : Shared} {K : PySem.W.Frag} {x C L f : Addr} {h₀ : Heap} {m : Str → Option Value} {ox : Obj} {od : Option Obj} {b tb : Value}
theorem neO_entry {Q : Fin → Shared → Prop} (hu : A.units < cLine) (X : K.In s.heap) (I : PySem.W.InstAt s.heap x ox C od) (hs : PySem.W.findIn K (.ref C) "__eq__" = some (some (.ref f))) (hf : PySem.W.isFn K (.ref f) = true)
    (hcall : wpAny (model prog w) A (call (.ref f) [.ref x, b]) (fun v s' => ∃ c, v = .bool c ∧ Q (.done (.ret (.bool (!c)))) s') E s) :
    wpAny (model prog w) A (Builtin.«object.__ne__» ⟨[.ref x, b], []⟩) Q E s := by
  unfold Builtin.«object.__ne__»
  repeat (first
    | with_reducible refine wpAny_cRoomFor hu ?_
    | (refine wpAny_bind (m := callSpecialIfBound? (.ref x) (Str.ofString "__eq__") [b])
        (PySem.W.ifBound_K X I hs hf (wpAny_mono hcall (fun r s' hr => by
          obtain ⟨c, rfl, hq⟩ := hr
          repeat (first | exact hq | exact wpAny_pure hq | exact wpAny_truthy_bool hq | (refine wpAny_bind (m := truthy (.bool _)) (wpAny_truthy_bool ?_)) | wp_step)) fun _ _ e => e)))
    | wp_step)
theorem ifBound_objNe {M : Model} {args : List Value} {Q : Option Value → Shared → Prop} (X : K.In s.heap) (I : PySem.W.InstAt s.heap x ox C od) (hs : PySem.W.findIn K (.ref C) "__ne__" = some (some (.builtin "object.__ne__")))
    (h : wpAny M A (call (.builtin "object.__ne__") (.ref x :: args)) (fun v => Q (some v)) E s) : wpAny M A (callSpecialIfBound? (.ref x) "__ne__" args) Q E s := by
  simp only [callSpecialIfBound?, bindSpecialIfBound?]
  refine wpAny_holding (wpAny_bind (wpAny_bind (wpAny_bind (I.type.here ((PySem.W.looks_findIn X hs).here ?_)))))
  refine wpAny_bind (wpAny_askSetting (wpAny_ite ?_))
  have fin : wpAny M A (call (.builtin "object.__ne__") ([.ref x] ++ args) >>= fun v => pure (some v)) Q E s := wpAny_bind (wpAny_mono h (fun v s' h' => wpAny_pure h') fun _ _ h' => h')
  split
  · exact wpAny_bind (wpAny_of_eq (F.cmp_object.ne.bind _) (wpAny_pure (by exact fin)))
  · exact wpAny_tryCatch (wpAny_bind (wpAny_of_eq (F.cmp_object.ne.bind _) (wpAny_pure (by exact fin))))
theorem ne_own {Q : Value → Shared → Prop} (hu : A.units + 1 < cLine) (F : PyProof.Rows.Fr h₀ L s.heap m) (X₀ : K.In h₀) (I : PySem.W.InstAt s.heap x ox C od) (hb : PySem.W.Looks (model prog w) s.heap (typeOf b) tb) (hn : PySem.W.notFirst K C tb = true)
    (hm : PySem.W.mroIn K C (.type "object") = some true) (he : PySem.W.findIn K (.ref C) "__ne__" = some (some (.builtin "object.__ne__")))
    (hs : PySem.W.findIn K (.ref C) "__eq__" = some (some (.ref f))) (hf : PySem.W.isFn K (.ref f) = true)
    (h : wpAny (model prog w) A.in1 (call (.ref f) [.ref x, b]) (fun v s' => ∃ c, v = .bool c ∧ Q (.bool (!c)) s') E s) : wpAny (model prog w) A (richCompare .NotEq (.ref x) b) Q E s := by
  have X := X₀.keeps F.keep
  have one : wpAny (model prog w) A (tryCompare (.ref x) (cmpInfo .NotEq).2.1 b) (fun r s' => ∃ v, r = some v ∧ Q v s') E s := by
    unfold tryCompare
    refine wpAny_bind (ifBound_objNe X I he (wpAny_call (codeAny_call_builtin PySem.F.cmp_object.ne.plain PySem.F.cmpEntry_ne (PySem.W.check_slot PySem.F.cmpKind_ne PySem.F.cmpSplit_ne (I.type.andThen (PySem.W.looks_mroIn X hm)) (PySem.F.cmpArgs_ne _ _)
      (neO_entry (A := A.in1) hu X I hs hf (wpAny_mono h (fun v s' hv => ?_) fun _ _ e => e))))))
    obtain ⟨c, rfl, hq⟩ := hv
    exact ⟨c, rfl, wpAny_pure ⟨_, rfl, hq⟩⟩
  unfold richCompare
  simp only [oneThing_ref]
  refine wpAny_holding (wpAny_bind (wpAny_cRoomFor (Nat.lt_of_succ_lt hu) ?_))
  refine wpAny_bind (I.type.here (wpAny_bind (hb.here ?_)))
  split
  · rename_i q
    have e : PySem.W.subIn K tb (.ref C) = some false := by
      rcases Bool.or_eq_true_iff.mp hn with e | e
      · rw [beq_iff_eq.mp e] at q; simp at q
      · exact beq_iff_eq.mp e
    refine wpAny_bind ((PySem.W.looks_subIn X e).here ?_)
    simp only [Bool.false_eq_true, if_false]
    refine wpAny_bind (wpAny_mono one (fun r s' z => ?_) fun _ _ e => e)
    obtain ⟨v, rfl, hq⟩ := z
    exact wpAny_pure hq
  · refine wpAny_bind (wpAny_pure ?_)
    simp only [Bool.false_eq_true, if_false]
    refine wpAny_bind (wpAny_mono one (fun r s' z => ?_) fun _ _ e => e)
    obtain ⟨v, rfl, hq⟩ := z
    exact wpAny_pure hq
end
section
variable {X : Cx} {CX : CXT} {k : Nat} {C f : Addr} {fd : FuncData} {ps : List Str} {sp : Sp} {E : XK}
/-- the callee runs deeper -/
theorem run_fnA {A' : Around} {pins : List (Addr × Obj)} {σ : L2.St} {H : Hp} {s : Shared} {Q : VK} {us : List Value} {vs : List V} (F : FnOk X.prog X.w X.K X.mg X.base CX k f fd ps sp) (hr : Room k A') (hA : ∀ {s : Shared} {H : Hp}, Env0 X.prog X.w X.K X.mg X.base X.A X.stack s H → Env0 X.prog X.w X.K X.mg X.base A' X.stack s H) (hb : Binds X.K fd ps []) (hx : Passes CX X E)
    (I : Inv X pins σ H s) (r : Vals vs us) (h : sp vs H Q E) : wpAny (model X.prog X.w) A' (call (.ref f) us) (EP X pins σ Q) X.xe s := by
  have hl : (us ++ []).length = ps.length := by rw [List.append_nil, ← r.length]; exact F.len _ _ _ _ h
  have hb' := hb s us I.kIn hl
  rw [List.append_nil] at hb'
  refine wpAny_call (codeAny_mono (F.run A' X.stack s H ⟨us, []⟩ us vs Q E hr (hA I.env0) hb' r h) fun r s' hq => ?_)
  cases r with
  | error e => exact hx pins σ H s e s' I hq
  | ok fl =>
    cases fl with
    | ret u => exact I.after hq
    | next => exact False.elim hq
    | brk => exact False.elim hq
    | cont => exact False.elim hq
theorem run_fn1 {pins : List (Addr × Obj)} {σ : L2.St} {H : Hp} {s : Shared} {Q : VK} {us : List Value} {vs : List V} (F : FnOk X.prog X.w X.K X.mg X.base CX k f fd ps sp) (hr : Room (k + 1) X.A) (hb : Binds X.K fd ps []) (hx : Passes CX X E)
    (I : Inv X pins σ H s) (r : Vals vs us) (h : sp vs H Q E) : wpAny (model X.prog X.w) X.A.in1 (call (.ref f) us) (EP X pins σ Q) X.xe s := run_fnA F hr.in1 (fun e => e.in1) hb hx I r h
theorem call_lenO (F : FnOk X.prog X.w X.K X.mg X.base CX k f fd ps sp) (hr : Room (k + 1) X.A) (hb : Binds X.K fd ps []) (hx : Passes CX X E) (hs : PySem.W.findIn X.K (.ref C) "__len__" = some (some (.ref f))) (hf : PySem.W.isFn X.K (.ref f) = true) : CallR X (.builtin "len") (rLenO C sp E) := by
  intro pins s σ H xs us Q I r h
  obtain ⟨a, dx, fs, rfl, ha, q⟩ := h
  obtain ⟨u, rfl, ru⟩ := vals1 r
  obtain rfl : u = Value.ref a := ru
  obtain ⟨o, od, J⟩ := ins_at I ha
  obtain ⟨m, hF⟩ := I.fr
  refine PySem.W.len_K hF I.ok.mod.kin J hs hf (thn (run_fn1 (us := [.ref a]) (vs := [.ref a]) F hr hb hx I (.cons rfl .nil) q) fun v s1 z => ?_)
  obtain ⟨w', H1, I1, rw1, n, rfl, h0, h1, q1⟩ := z
  obtain ⟨t, rfl⟩ := rw1
  exact ⟨⟨h0, h1⟩, .int n, H1, I1.tok _, ⟨_, rfl⟩, q1⟩
/-- a != b, both instances of the class, whose __eq__ is its own -/
def rNeO (C : Addr) (sp : Sp) (E : XK) : R2 := fun x y H Q => ∃ (a b dx dy : Addr) (fs gs : List (Str × V)), x = .ref a ∧ y = .ref b ∧ H a = some (.ins C dx fs) ∧ H b = some (.ins C dy gs) ∧ sp [.ref a, .ref b] H (fun v H' => ∃ b, v = .bl b ∧ Q (.bl (!b)) H') E
theorem op_neO (F : FnOk X.prog X.w X.K X.mg X.base CX k f fd ps sp) (hr : Room (k + 1) X.A) (hb : Binds X.K fd ps []) (hx : Passes CX X E) (hm : PySem.W.mroIn X.K C (.type "object") = some true) (he : PySem.W.findIn X.K (.ref C) "__ne__" = some (some (.builtin "object.__ne__")))
    (hs : PySem.W.findIn X.K (.ref C) "__eq__" = some (some (.ref f))) (hf : PySem.W.isFn X.K (.ref f) = true) : OpR X (compareOp .NotEq) (rNeO C sp E) := by
  intro pins s σ H x y v u Q I rx ry h
  obtain ⟨a, b, dx, dy, fs, gs, rfl, rfl, ha, hb2, q⟩ := h
  obtain rfl : v = Value.ref a := rx
  obtain rfl : u = Value.ref b := ry
  obtain ⟨o, od, J⟩ := ins_at I ha
  obtain ⟨o2, od2, J2⟩ := ins_at I hb2
  obtain ⟨m, hF⟩ := I.fr
  show wpAny (model X.prog X.w) X.A (richCompare .NotEq (.ref a) (.ref b)) (EP X pins σ Q) X.xe s
  have hu := hr.units
  refine ne_own (tb := .ref C) (by omega) hF I.ok.mod.kin J J2.type (by simp [PySem.W.notFirst]) hm he hs hf (thn (run_fn1 (us := [.ref a, .ref b]) (vs := [.ref a, .ref b]) F hr hb hx I (.cons rfl (.cons rfl .nil)) q) fun r s1 z => ?_)
  obtain ⟨w, H1, I1, rw1, c, rfl, q1⟩ := z
  cases rw1
  exact ⟨c, rfl, .bl (!c), H1, I1, rfl, q1⟩
/-- the truth of an instance with an own __len__ and no __bool__ -/
def rTruO (C : Addr) (sp : Sp) (E : XK) : V → Hp → (Bool → Hp → Prop) → Prop := fun x H Q => ∃ (a dx : Addr) (fs : List (Str × V)), x = .ref a ∧ H a = some (.ins C dx fs) ∧ sp [.ref a] H (fun v H' => ∃ n : Int, v = .int n ∧ 0 ≤ n ∧ n < 2 ^ 63 ∧ Q (n != 0) H') E
theorem tru_own {A : Around} {pins : List (Addr × Obj)} {σ : L2.St} {H : Hp} {s : Shared} {R : Bool → Shared → Prop} {a dx : Addr} {fs : List (Str × V)} (I : Inv X pins σ H s) (ha : H a = some (.ins C dx fs))
    (hn : PySem.W.findIn X.K (.ref C) "__bool__" = some none) (hs : PySem.W.findIn X.K (.ref C) "__len__" = some (some (.ref f))) (hf : PySem.W.isFn X.K (.ref f) = true)
    (h : wpAny (model X.prog X.w) A.in1 (call (.ref f) [.ref a]) (fun v s' => ∃ n t, v = .int n t ∧ 0 ≤ n ∧ n < 2 ^ 63 ∧ R (n != 0) { s' with toks := s'.toks + 1 }) X.xe s) : wpAny (model X.prog X.w) A (truthy (.ref a)) R X.xe s := by
  obtain ⟨o, od, J⟩ := ins_at I ha
  obtain ⟨m, hF⟩ := I.fr
  have XI := I.kIn
  unfold truthy
  refine wpAny_bind (m := callSpecial? (.ref a) (Str.ofString "__bool__")) (wpAny_bind (wpAny_bind (J.type.here ((PySem.W.looks_findIn XI hn).here (wpAny_pure ?_)))))
  refine wpAny_bind (wpAny_bind (J.type.here ((PySem.W.looks_findIn XI hs).here ?_)))
  show wpAny _ _ (if (some (Value.ref f)).isNone = true then _ else _) _ _ _
  rw [if_neg (by simp)]
  refine wpAny_bind (m := runValue (.builtin "len" ⟨[.ref a], []⟩)) (wpAny_runValue (codeAny_builtin PySem.entry_len ?_))
  unfold Builtin.«len»
  refine wpAny_bind (m := oneArg "len" _) (wpAny_pure ?_)
  refine wpAny_bind (m := callSpecial? (.ref a) (Str.ofString "__len__")) (PySem.W.special_fn XI J hs (beq_iff_eq.mp hf) (wpAny_mono h (fun r s' hr => ?_) fun _ _ y => y))
  obtain ⟨n, t, rfl, h0, h1, hq⟩ := hr
  refine wpAny_bind (wpAny_holding (wpAny_pure ?_))
  refine wpAny_bind (wpAny_letGo ?_)
  show wpAny _ _ (if n < 0 then _ else _) _ _ _
  rw [if_neg (by omega)]
  show wpAny _ _ (if n ≥ 2 ^ 63 then _ else _) _ _ _
  rw [if_neg (by omega)]
  exact wpAny_bind (wpAny_mkInt (wpAny_pure (wpAny_pure hq)))
theorem tru_lenO (F : FnOk X.prog X.w X.K X.mg X.base CX k f fd ps sp) (hr : Room (k + 1) X.A) (hb : Binds X.K fd ps []) (hx : Passes CX X E) (hn : PySem.W.findIn X.K (.ref C) "__bool__" = some none) (hs : PySem.W.findIn X.K (.ref C) "__len__" = some (some (.ref f)))
    (hf : PySem.W.isFn X.K (.ref f) = true) : TruR X (rTruO C sp E) := by
  intro pins s σ H x v Q I rx h
  obtain ⟨a, dx, fs, rfl, ha, q⟩ := h
  obtain rfl : v = Value.ref a := rx
  refine tru_own I ha hn hs hf (thn (run_fn1 (us := [.ref a]) (vs := [.ref a]) F hr hb hx I (.cons rfl .nil) q) fun r s1 z => ?_)
  obtain ⟨w', H1, I1, rw1, n, rfl, h0, h1, q1⟩ := z
  obtain ⟨t, rfl⟩ := rw1
  exact ⟨n, t, rfl, h0, h1, H1, I1.tok _, q1⟩
end
section
variable {prog : Program} {w : World} {A : Around} {E : Value → Shared → Prop} {s : Shared} {a : Addr}
theorem bool_own {R : Value → Shared → Prop} (h : ∀ A', A' = A.in1.in1 → wpAny (model prog w) A' (truthy (.ref a)) (fun b s' => R (.bool b) s') E s) : wpAny (model prog w) A (call (.type "bool") [.ref a]) R E s := by
  refine callType_codes (Q₁ := fun obj s₁ => s₁.TypeIs obj "bool" ∧ R obj s₁) PySem.F.called_bool (PySem.F.typeCall_bool_1 _) PySem.F.entry_object_init ?_ fun obj s₁ h₁ => ?_
  · refine codeAny_of_tree ?_
    show wpAny _ A.in1.in1 (do checkBuiltinCall "bool.__new__" ⟨[.type "bool", .ref a], []⟩; again (.builtin "bool.__new__" ⟨[.type "bool", .ref a], []⟩)) _ _ s
    refine wpAny_bind (wpAny_of_eq (PySem.F.newCall_bool_1 _) (wpAny_pure ⟨plainId_quiet (by decide +kernel) _, codeAny_builtin PySem.F.entry_bool_new ?_⟩))
    rw [Around.under_plainId (by decide +kernel) _]
    have f1 := PySem.F.conv_sub_bool
    obtain ⟨hp, g, d, tk, os⟩ := s
    repeat (any_goals (first | assumption | (with_reducible refine wpAny_mono (h _ ?_) (fun b s' z => ?_) fun _ _ z => z) | wp_step))
    · rfl
    · exact ⟨rfl, z⟩
  · exact ⟨h₁.1, PySem.F.args_object_init_2 obj _, object_init_meets PySem.F.called_bool.init.lookup PySem.F.called_bool.made (by decide) prog w A.in1 _ s₁ ⟨h₁.1, rfl, h₁.2⟩⟩
end
section
variable {X : Cx} {CX : CXT} {k : Nat} {C f : Addr} {fd : FuncData} {ps : List Str} {sp : Sp} {E : XK}
/-- bool(x) of an instance with an own __len__ -/
def rBoolO (C : Addr) (sp : Sp) (E : XK) : List V → Hp → VK → Prop := fun xs H Q => ∃ (a dx : Addr) (fs : List (Str × V)), xs = [.ref a] ∧ H a = some (.ins C dx fs) ∧ sp [.ref a] H (fun v H' => ∃ n : Int, v = .int n ∧ 0 ≤ n ∧ n < 2 ^ 63 ∧ Q (.bl (n != 0)) H') E
theorem call_boolO (F : FnOk X.prog X.w X.K X.mg X.base CX k f fd ps sp) (hr : Room (k + 3) X.A) (hb : Binds X.K fd ps []) (hx : Passes CX X E) (hn : PySem.W.findIn X.K (.ref C) "__bool__" = some none) (hs : PySem.W.findIn X.K (.ref C) "__len__" = some (some (.ref f)))
    (hf : PySem.W.isFn X.K (.ref f) = true) : CallR X (.type "bool") (rBoolO C sp E) := by
  intro pins s σ H xs us Q I r h
  obtain ⟨a, dx, fs, rfl, ha, q⟩ := h
  obtain ⟨u, rfl, ru⟩ := vals1 r
  obtain rfl : u = Value.ref a := ru
  refine bool_own fun A' e => ?_
  subst e
  refine tru_own I ha hn hs hf (thn (run_fnA (us := [.ref a]) (vs := [.ref a]) F hr.in1.in1.in1 (fun e => e.in1.in1.in1) hb hx I (.cons rfl .nil) q) fun r s1 z => ?_)
  obtain ⟨w', H1, I1, rw1, n, rfl, h0, h1, q1⟩ := z
  obtain ⟨t, rfl⟩ := rw1
  exact ⟨n, t, rfl, h0, h1, .bl (n != 0), H1, I1.tok _, rfl, q1⟩
/-- not x, by a truth that is told -/
theorem pe_notT {r : V → Hp → (Bool → Hp → Prop) → Prop} {a : Expr} {ta : TE} {pos : Pos} (hc : TruR X r) (ha : PE X a ta) : PE X (.UnaryOp .Not a pos) (fun σ H Q => ta σ H fun x H1 => r x H1 fun b H2 => Q (.bl (!b)) H2) := by
  refine ⟨fun pins s σ H Q I h => ?_⟩
  refine UnaryOp_ (thn (ha.run pins s σ H _ I h) fun v s1 ⟨x, H1, I1, r1, q1⟩ => ?_)
  exact not_of (thn (hc pins s1 σ H1 x v _ I1 r1 q1) fun b s2 ⟨H2, I2, q2⟩ => ⟨.bl (!b), H2, I2, rfl, q2⟩)
end
/-! ### iteration over an instance whose own __iter__ hands on the iterator of a tuple -/
/-- at it an iterator over the tuple at l, at its begin -/
def ItTO (l it : Addr) : HO := .ext fun h => h.IsTupleIter it l 0
section
variable {X : Cx}
/-- iter(t), t a tuple -/
def rIterT (K : PySem.W.Frag) (n : Nat) : List V → Hp → VK → Prop := fun xs H Q => ∃ (l : Addr) (zs : List V), xs = [.ref l] ∧ SqT K H l zs ∧ ∀ it, H it = Option.none → n ≤ it → Q (.ref it) (upd H it (ItTO l it))
theorem call_iterT : CallR X (.builtin "iter") (rIterT X.K X.s_0.heap.objs.size) := by
  intro pins s σ H xs us Q I r h
  obtain ⟨l, zs, rfl, hq, q⟩ := h
  obtain rfl := Vals.ref1 r
  obtain ⟨its, rv, pl, hz⟩ := I.tuple hq
  refine Calls.call_function_entry (by decide +kernel) (by decide +kernel) PySem.W.kdk_entry_iter (PySem.W.kdk_args_iter _) ?_
  unfold Builtin.«iter»
  refine wpAny_bind (m := someArgs "iter" 1 2 _) (wpAny_of_eq (a := [Value.ref l]) (by first | rfl | kernel_rfl!) ?_)
  show wpAny _ _ (pyIter (.ref l) >>= _) _ _ _
  refine wpAny_bind (wpAny_pyIter_tuple pl ?_)
  have st : (s.heap.push { cls := .type "tuple_iterator", data := .fields #[.ref l, .int 0 0] }).IsTupleIter s.heap.objs.size l 0 := ⟨_, Heap.get?_push_size _ rfl, rfl, rfl⟩
  exact wpAny_pure ⟨_, rfl, .ref s.heap.objs.size, _, I.laid (t' := s.toks) (o := ItTO l s.heap.objs.size) (fun b u e => Heap.get?_push_of_some _ e) (Nat.le_refl _) ⟨st, ⟨_, Heap.get?_push_size _ rfl⟩, fun h1 h2 q k => q.at fun o e => k o e⟩, rfl, q _ (I.hok.fresh (Nat.le_refl _)) I.sz⟩
/-- a def that is told of the room's size at its call -/
def FnN (P : Program) (w : World) (K : PySem.W.Frag) (mg : Str → Option Value) (base : Heap) (CX : CXT) (k : Nat) (f : Addr) (sp : Nat → Sp) : Prop :=
  ∀ (A : Around) (outer : List Env) (s : Shared) (H : Hp) (us : List Value) (vs : List V) (Q : VK) (E : XK), Room k A → Env0 P w K mg base A outer s H → Vals vs us → sp s.heap.objs.size vs H Q E →
    codeAny (model P w) A (.call (.ref f) { pos := us, kw := [] }) (CR CX outer P w H s Q E) s
theorem FnN.mk0 {P : Program} {w : World} {K : PySem.W.Frag} {mg : Str → Option Value} {base : Heap} {k : Nat} {x qual : Str} {st : Stmt} {f : Addr} {fd : FuncData} {N ps : List Str} {sp : Nat → Sp}
    (F : Fun K x qual st f fd) (S : FnScope N ps (defScope st)) (B : Binds K fd ps []) (len : ∀ n vs H Q E, sp n vs H Q E → vs.length = ps.length)
    (go : ∀ (cdv : Value) (A : Around) (outer : List Env) (s : Shared) (H : Hp) (vs : List V) (Q : VK) (E : XK), Room k (A.deeper (envOfC qual (defScope st) s.heap.objs.size f cdv)) → sp s.heap.objs.size vs H Q E →
      ∃ t, PSs (cxOf CX0 P w K mg base N qual (defScope st) f cdv A outer s H E).nox (defBody st) t ∧ t { nx := fun _ H1 => Q .non H1, rt := Q } (start N vs) H) : FnN P w K mg base CX0 (k + 1) f sp := by
  obtain ⟨oc, od, kV, doc, pm, an, cdv, ct, osl, e, lk, hcd⟩ := F.ex
  subst e
  intro A outer s H us vs Q E hr e0 rv hs
  have hl := len _ _ _ _ _ hs
  have hu : (us ++ []).length = ps.length := by rw [List.append_nil, ← hl]; exact rv.length.symm
  have b := B s us (e0.mod.kin.keeps fun b o z => (e0.bs b o z).1) hu
  rw [List.append_nil] at b
  exact LamX.run_ofS lk hcd S hr e0 b rv hl fun hr1 => by
    obtain ⟨t, ht, q⟩ := go cdv A outer s H vs Q E hr1 hs
    exact ⟨t, ht.nox, q⟩
variable {CX : CXT} {k : Nat} {C f : Addr} {sp : Nat → Sp} {E : XK} {tg iter : Expr} {te : TE}
def iOwnT (K : PySem.W.Frag) (C : Addr) (sp : Nat → Sp) (E : XK) (te : TE) : TI := fun σ H R => te σ H fun x H1 => ∃ (a dx : Addr) (fs : List (Str × V)), x = .ref a ∧ H1 a = some (.ins C dx fs) ∧
  ∀ n, sp n [.ref a] H1 (fun v H2 => ∃ it l, v = .ref it ∧ n ≤ it ∧ H2 it = some (ItTO l it) ∧ R (Itt K l) (ItX.dropH H2 it)) E
theorem pi_ownT (he : PE X iter te) (F : FnN X.prog X.w X.K X.mg X.base CX k f sp) (hr : Room k X.A) (hx : Passes CX X E) (hs : PySem.W.findIn X.K (.ref C) "__iter__" = some (some (.ref f))) (hf : PySem.W.isFn X.K (.ref f) = true) : PI X tg iter (iOwnT X.K C sp E te) := by
  refine ⟨fun pins s σ H R I h => ?_⟩
  refine thn (he.run pins s σ H _ I h) fun u s1 ⟨x, H1, I1, rx, a, dx, fs, ex, ha, q⟩ => ?_
  subst ex
  obtain rfl : u = Value.ref a := rx
  obtain ⟨o, od, J⟩ := ins_at I1 ha
  obtain ⟨m, hF⟩ := I1.fr
  refine PySem.W.owit_iter hF I1.ok.mod.kin J hs hf (wpAny_call (codeAny_mono (F X.A X.stack s1 H1 [.ref a] [.ref a] _ E hr I1.env0 (.cons rfl .nil) (q _)) fun r s' hq => ?_))
  cases r with
  | error e => exact hx pins σ H1 s1 e s' I1 hq
  | ok fl =>
    cases fl with
    | next => exact False.elim hq
    | brk => exact False.elim hq
    | cont => exact False.elim hq
    | ret u =>
      obtain ⟨v, H2, I2, rv, it, l, ev, hn, hi, qR⟩ := I1.after hq
      subst ev
      obtain rfl : u = Value.ref it := rv
      have st : s'.heap.IsTupleIter it l 0 := (I2.hok it _ hi).1
      show PySem.W.OwitIt _ _ _ _ _ _
      unfold PySem.W.OwitIt specialOf
      refine wpAny_bind (wpAny_typeOf st.typeIs ?_)
      refine wpAny_of_eq PySem.F.slot_tuple_iterator_next.lookup ?_
      have hi' := hi
      unfold ItTO at hi'
      refine ⟨it, [it], _, _, ItX.dropH H2 it, rfl, ItX.inv_drop I2 hi', turn_tuple l it, st, fun b hb => ?_, qR⟩
      have e : b = it := by simpa using hb
      rw [e]
      exact ItX.inv_fp I2 hi (Nat.le_trans I1.sz hn)
theorem sqT_drop {K : PySem.W.Frag} {H : Hp} {a it : Addr} {xs : List V} (h : SqT K H a xs) (n : it ≠ a) : SqT K (ItX.dropH H it) a xs := by
  have e : ItX.dropH H it a = H a := ItX.dropH_ne (Ne.symm n)
  unfold SqT Rd at h ⊢
  simp only [e]
  exact h
end

/-- what the class says of such a sign with an int behind it -/
structure OwnBin (K : PySem.W.Frag) (C f : Addr) (op : Operator) : Prop where
  hc : PySem.W.selfFirst K C = true
  hs : PySem.W.findIn K (.ref C) (PySem.dunder op.info.2) = some (some (.ref f))
  hf : PySem.W.isFn K (.ref f) = true
  hr : PySem.W.findIn K (.ref C) (PySem.dunderR op.info.2) = some Option.none
  h1 : ∃ fo, PySem.W.findIn K (.type "int") (PySem.dunder op.info.2) = some fo
  h2 : ∃ ro, PySem.W.findIn K (.type "int") (PySem.dunderR op.info.2) = some ro
  hsub : PySem.W.subIn K (.type "int") (.ref C) = some false
/-- no class along the line has the name -/
def mroNone (K : PySem.W.Frag) (C : Addr) (nm : Str) : Prop := ∃ cd, PySem.W.clsIn K C = some cd ∧ ∀ c ∈ cd.mro, PySem.W.findIn K c nm = some Option.none

/-! ### a + i, a - i, a * i, a // i, -a of an instance whose method is its own -/
section
variable {X : Cx} {CX : CXT} {k : Nat} {C f : Addr} {fd : FuncData} {ps : List Str} {sp : Sp} {E : XK}
def rBinO (C : Addr) (sp : Sp) (E : XK) : R2 := fun x y H Q => ∃ (a dx : Addr) (fs : List (Str × V)) (i : Int), x = .ref a ∧ y = .int i ∧ H a = some (.ins C dx fs) ∧ sp [.ref a, .int i] H (fun v H' => ∃ b, v = .ref b ∧ Q (.ref b) H') E
theorem op_binO {op : Operator} (O : OwnBin X.K C f op) (F : FnOk X.prog X.w X.K X.mg X.base CX k f fd ps sp) (hr : Room k X.A) (hb : Binds X.K fd ps []) (hx : Passes CX X E) : OpR X (binaryOp op) (rBinO C sp E) := by
  intro pins s σ H x y v u Q I rx ry h
  obtain ⟨a, dx, fs, i, rfl, rfl, ha, q⟩ := h
  obtain rfl : v = Value.ref a := rx
  obtain ⟨t, rfl⟩ := ry
  obtain ⟨o, od, J⟩ := ins_at I ha
  obtain ⟨m, hF⟩ := I.fr
  obtain ⟨fo, h1⟩ := O.h1
  obtain ⟨ro, h2⟩ := O.h2
  refine PySem.W.ksp_binT (T := "int") hF I.ok.mod.kin J rfl O.hc O.hs O.hf O.hr (.inl rfl) h1 h2 O.hsub (thn (run_fn (us := [.ref a, .int i t]) (vs := [.ref a, .int i]) F hr hb .nil hx I (.cons rfl (.cons ⟨t, rfl⟩ .nil)) q) fun r s1 z => ?_)
  obtain ⟨w, H1, I1, rw1, b, rfl, q1⟩ := z
  cases rw1
  exact ⟨.ref b, H1, I1, rfl, q1⟩
def rNegO (C : Addr) (sp : Sp) (E : XK) : V → Hp → VK → Prop := fun x H Q => ∃ (a dx : Addr) (fs : List (Str × V)), x = .ref a ∧ H a = some (.ins C dx fs) ∧ sp [.ref a] H Q E
theorem un_negO (F : FnOk X.prog X.w X.K X.mg X.base CX k f fd ps sp) (hr : Room k X.A) (hb : Binds X.K fd ps []) (hx : Passes CX X E) (hs : PySem.W.findIn X.K (.ref C) "__neg__" = some (some (.ref f))) (hf : PySem.W.isFn X.K (.ref f) = true) : UnR X (unaryOp .USub) (rNegO C sp E) := by
  intro pins s σ H x v Q I rx h
  obtain ⟨a, dx, fs, rfl, ha, q⟩ := h
  obtain rfl : v = Value.ref a := rx
  obtain ⟨o, od, J⟩ := ins_at I ha
  obtain ⟨m, hF⟩ := I.fr
  exact PySem.W.ksp_neg hF I.ok.mod.kin J hs hf (run_fn (us := [.ref a]) (vs := [.ref a]) F hr hb .nil hx I (.cons rfl .nil) q)
/-- C(e, *es), C an own class -/
theorem pe_mkRS {e : Expr} {es : List Expr} {x : Str} {q pos : Pos} {t : TA} {sp : Sp} (M : Mk X.K C f) (F : FnR X.prog X.w X.K X.mg X.base CX k f sp) (hr : Room (k + 1) X.A) (hx : Passes CX X E) (hg : Gl X x) (hm : X.mg x = some (.ref C)) (ha : PA X (e :: es) t)
    (hdb : (x == ("__debug__" : Str)) = false := by decide) (he : starEach (e :: es) X.env = (false, eval e X.env) :: starEach es X.env := by rfl) (hst : (backTo pos (starEach es X.env)).any (·.1) = true := by rfl) : PE X (.Call (.Name x q) (e :: es) [] pos) (tMkR C sp E t) := by
  refine ⟨fun pins s σ H Q I h => wpAny_Call_Name_kw (ld_glob I hg hm ?_ hdb)⟩
  refine PySem.W.callWith_S2 (h₀ := X.base) I.ok.mod.kin M.kp (thn (ha.run pos pins s σ H _ I h) fun us s1 ⟨vs, H1, I1, r, q⟩ => ⟨I1.kIn, ?_⟩) he hst
  exact run_mkR M F hr hx I1 r q
end
/-- what is not reached -/
def tNo : TE := fun _ _ _ => False
theorem pe_no {X : Cx} {e : Expr} : PE X e tNo := ⟨fun _ _ _ _ _ _ h => h.elim⟩

/-! ### x op= i, x an instance without a method of its own for it -/
section
variable {prog : Program} {w : World} {M : Model} {A : Around} {E : Value → Shared → Prop} {s : Shared} {K : PySem.W.Frag} {x C L f : Addr} {h₀ : Heap} {m : Str → Option Value} {ox : Obj} {od : Option Obj} {nm T : String}
theorem fillsI0 {h : Heap} {add : Bool} (X : K.In h) (hm : mroNone K C (PySem.dunderI nm)) : PySem.W.Looks M h (fillsInplaceSlot (.ref C) nm add) false := by
  obtain ⟨cd, hc, hn⟩ := hm
  intro A Q E s k q
  have Lm : PySem.W.Looks M h (mroOf (.ref C)) cd.mro := (PySem.W.looks_clsIn X hc).andThen (f := fun cd => pure cd.mro) .now
  have Lm' := Lm.keeps k
  obtain ⟨hh, g, d, tt, os⟩ := s
  have X' : K.In hh := X.keeps k
  unfold fillsInplaceSlot
  refine wpAny_bind (Lm'.at ?_)
  clear Lm Lm'
  generalize cd.mro = l at hn
  induction l with
  | nil => exact wpAny_pure q
  | cons c r ih =>
    rw [List.anyM_cons]
    refine wpAny_bind (wpAny_bind ((PySem.W.looks_findIn X' (hn c (List.mem_cons_self ..))).at (wpAny_pure ?_)))
    exact ih fun c' hc' => hn c' (List.mem_cons_of_mem _ hc')
theorem bin1_own {nm' : String} {i : Int} {t : Tok} {fo ro : Option Value} {Q : Value → Shared → Prop} (F : PyProof.Rows.Fr h₀ L s.heap m) (X₀ : K.In h₀) (I : PySem.W.InstAt s.heap x ox C od) (hc : PySem.W.selfFirst K C = true)
    (hs : PySem.W.findIn K (.ref C) (PySem.dunder nm') = some (some (.ref f))) (hf : PySem.W.isFn K (.ref f) = true) (hr : PySem.W.findIn K (.ref C) (PySem.dunderR nm') = some Option.none)
    (h1 : PySem.W.findIn K (.type "int") (PySem.dunder nm') = some fo) (h2 : PySem.W.findIn K (.type "int") (PySem.dunderR nm') = some ro) (hsub : PySem.W.subIn K (.type "int") (.ref C) = some false)
    (h : wpAny (model prog w) A (call (.ref f) [.ref x, .int i t]) (PySem.W.CmpBack Q) E s) : wpAny (model prog w) A (binaryOp1 nm' (.ref x) (.int i t)) (fun r s' => ∃ v, r = some v ∧ Q v s') E s := by
  have X := X₀.keeps F.keep
  obtain ⟨cd, rest, hcd, hmr⟩ := PySem.W.ksp_first hc
  have one := PySem.W.ksp_try X I hs hf h
  obtain ⟨hh, g, d, tt, os⟩ := s
  have L1 : PySem.W.Looks (model prog w) hh (typeOf (.ref x)) (.ref C) := I.type
  have L2 : PySem.W.Looks (model prog w) hh (typeOf (.int i t)) (.type "int") := PySem.W.Looks.of_pure rfl
  have L3 : PySem.W.Looks (model prog w) hh (fillsNumberSlot (.ref C) nm') true := PySem.W.fills_K X hcd hmr hs
  have L4 : PySem.W.Looks (model prog w) hh (fillsNumberSlot (.type "int") nm') ((fo.isSome && !isSeqSlot fo) || (ro.isSome && !isSeqSlot ro)) := PySem.W.ksp_fillsT X h1 h2
  have L5 : PySem.W.Looks (model prog w) hh (isSubtype (.type "int") (.ref C)) false := PySem.W.looks_subIn X hsub
  have L6 : PySem.W.Looks (model prog w) hh (numberSlotInPython (.ref C) nm') true := PySem.W.ksp_inPy X hs hr (.inl rfl)
  have L7 : PySem.W.Looks (model prog w) hh (numberSlotInPython (.type "int") nm') false := PySem.W.Looks.of_pure rfl
  have L8 : PySem.W.Looks (model prog w) hh (typeLookup (.type "int") (PySem.dunderR nm')) ro := PySem.W.looks_findIn X h2
  generalize ((fo.isSome && !isSeqSlot fo) || (ro.isSome && !isSeqSlot ro)) = right at L4
  have hne : (Value.ref C == Value.type "int") = false := Bool.eq_false_iff.mpr fun q => by cases beq_iff_eq.mp q
  unfold binaryOp1
  refine wpAny_bind (L1.at (wpAny_bind (L2.at (wpAny_bind (L3.at ?_)))))
  simp only [hne, Bool.false_eq_true, if_false]
  cases right with
  | false =>
    ksp_lk
    refine wpAny_mono one (fun r s' hr' => ?_) fun _ _ e => e
    obtain ⟨v, rfl, hq⟩ := hr'
    ksp_lk
    exact ⟨v, rfl, hq⟩
  | true =>
    ksp_lk
    refine wpAny_mono one (fun r s' hr' => ?_) fun _ _ e => e
    obtain ⟨v, rfl, hq⟩ := hr'
    ksp_lk
    exact ⟨v, rfl, hq⟩
theorem inplace_own {op : Operator} {i : Int} {t : Tok} {fo ro : Option Value} {Q : Value → Shared → Prop} (F : PyProof.Rows.Fr h₀ L s.heap m) (X₀ : K.In h₀) (I : PySem.W.InstAt s.heap x ox C od) (hm : mroNone K C (PySem.dunderI op.info.2)) (hc : PySem.W.selfFirst K C = true)
    (hs : PySem.W.findIn K (.ref C) (PySem.dunder op.info.2) = some (some (.ref f))) (hf : PySem.W.isFn K (.ref f) = true) (hr : PySem.W.findIn K (.ref C) (PySem.dunderR op.info.2) = some Option.none)
    (h1 : PySem.W.findIn K (.type "int") (PySem.dunder op.info.2) = some fo) (h2 : PySem.W.findIn K (.type "int") (PySem.dunderR op.info.2) = some ro) (hsub : PySem.W.subIn K (.type "int") (.ref C) = some false)
    (h : wpAny (model prog w) A (call (.ref f) [.ref x, .int i t]) (PySem.W.CmpBack Q) E s) : wpAny (model prog w) A (inplaceOp op (.ref x) (.int i t)) Q E s := by
  have one := bin1_own F X₀ I hc hs hf hr h1 h2 hsub h
  have L0 : PySem.W.Looks (model prog w) s.heap (fillsInplaceSlot (.ref C) op.info.2 (op == .Add)) false := fillsI0 (X₀.keeps F.keep) hm
  unfold inplaceOp
  refine wpAny_holding ?_
  refine wpAny_bind (I.type.here ?_)
  refine wpAny_bind (L0.here ?_)
  rw [if_neg Bool.false_ne_true]
  refine wpAny_bind (m := binaryOp1 op.info.2 (.ref x) (.int i t)) (wpAny_mono one (fun r s' hr' => ?_) fun _ _ e => e)
  obtain ⟨v, rfl, hq⟩ := hr'
  exact wpAny_pure hq
end
section
variable {X : Cx} {CX : CXT} {k : Nat} {C f : Addr} {fd : FuncData} {ps : List Str} {sp : Sp} {E : XK}
theorem ip_own {op : Operator} (O : OwnBin X.K C f op) (hm : mroNone X.K C (PySem.dunderI op.info.2)) (F : FnOk X.prog X.w X.K X.mg X.base CX k f fd ps sp) (hr : Room k X.A) (hb : Binds X.K fd ps []) (hx : Passes CX X E) : PIp X op (rBinO C sp E) := by
  intro pins s σ H x y v u Q I rx ry h
  obtain ⟨a, dx, fs, i, rfl, rfl, ha, q⟩ := h
  obtain rfl : v = Value.ref a := rx
  obtain ⟨t, rfl⟩ := ry
  obtain ⟨o, od, J⟩ := ins_at I ha
  obtain ⟨m, hF⟩ := I.fr
  obtain ⟨fo, h1⟩ := O.h1
  obtain ⟨ro, h2⟩ := O.h2
  refine inplace_own hF I.ok.mod.kin J hm O.hc O.hs O.hf O.hr h1 h2 O.hsub (thn (run_fn (us := [.ref a, .int i t]) (vs := [.ref a, .int i]) F hr hb .nil hx I (.cons rfl (.cons ⟨t, rfl⟩ .nil)) q) fun r s1 z => ?_)
  obtain ⟨w, H1, I1, rw1, b, rfl, q1⟩ := z
  cases rw1
  exact ⟨.ref b, H1, I1, rfl, q1⟩
end

/-! ### str of an instance with an own __str__; == with what is no instance -/
section
variable {prog : Program} {w : World} {A : Around} {E : Value → Shared → Prop} {s : Shared} {a : Addr}
theorem str_own {R : Value → Shared → Prop} (h : ∀ A', A' = A.in1.in1 → wpAny (model prog w) A' (Builtin.Str.strOf (.ref a)) (fun b s' => (∃ x t, b = .str x t) ∧ R b s') E s) : wpAny (model prog w) A (call (.type "str") [.ref a]) R E s := by
  refine callType_codes (Q₁ := fun obj s₁ => s₁.TypeIs obj "str" ∧ R obj s₁) PySem.F.called_str (PySem.F.typeCall_str_1 _) PySem.F.entry_object_init ?_ fun obj s₁ h₁ => ?_
  · refine codeAny_of_tree ?_
    show wpAny _ A.in1.in1 (do checkBuiltinCall "str.__new__" ⟨[.type "str", .ref a], []⟩; again (.builtin "str.__new__" ⟨[.type "str", .ref a], []⟩)) _ _ s
    refine wpAny_bind (wpAny_of_eq (PySem.F.newCall_str_1 _) (wpAny_pure ⟨plainId_quiet (by decide +kernel) _, codeAny_builtin PySem.F.entry_str_new ?_⟩))
    rw [Around.under_plainId (by decide +kernel) _, str_new_tree]
    refine wpAny_bind (wpAny_pure ?_)
    refine wpAny_bind (wpAny_of_eq isSubtype_str_str ?_)
    refine wpAny_bind (wpAny_mono (h _ rfl) (fun b s' z => wpAny_pure ?_) fun _ _ e => e)
    obtain ⟨⟨x, t, rfl⟩, z⟩ := z
    exact ⟨typeIs_str _ _ _, z⟩
  · exact ⟨h₁.1, PySem.F.args_object_init_2 obj _, object_init_meets PySem.F.called_str.init.lookup PySem.F.called_str.made (by decide) prog w A.in1 _ s₁ ⟨h₁.1, rfl, h₁.2⟩⟩
theorem strOf_own {K : PySem.W.Frag} {x C f : Addr} {ox : Obj} {od : Option Obj} {Q : Value → Shared → Prop} (hu : A.units < cLine) (X : K.In s.heap) (I : PySem.W.InstAt s.heap x ox C od) (hs : PySem.W.findIn K (.ref C) "__str__" = some (some (.ref f))) (hf : PySem.W.isFn K (.ref f) = true)
    (h : wpAny (model prog w) A (call (.ref f) [.ref x]) (fun r s' => (∃ y t, r = .str y t) ∧ Q r s') E s) : wpAny (model prog w) A (Builtin.Str.strOf (.ref x)) Q E s := by
  unfold Builtin.Str.strOf
  repeat (first
    | with_reducible refine wpAny_cRoomFor hu ?_
    | (refine wpAny_bind (m := callSpecial? (.ref x) (Str.ofString "__str__")) (PySem.W.special_fn X I hs (beq_iff_eq.mp hf) (wpAny_mono h (fun r s' hr => by
        obtain ⟨⟨y, t, rfl⟩, hq⟩ := hr
        repeat (first | exact hq | exact wpAny_pure hq | wp_step)) fun _ _ e => e)))
    | wp_step)
end
section
variable {X : Cx} {CX : CXT} {k : Nat} {C f : Addr} {fd : FuncData} {ps : List Str} {sp : Sp} {E : XK}
def rStrO (C : Addr) (sp : Sp) (E : XK) : List V → Hp → VK → Prop := fun xs H Q => ∃ (a dx : Addr) (fs : List (Str × V)), xs = [.ref a] ∧ H a = some (.ins C dx fs) ∧ sp [.ref a] H (fun v H' => ∃ x, v = .str x ∧ Q (.str x) H') E
theorem call_strO (F : FnOk X.prog X.w X.K X.mg X.base CX k f fd ps sp) (hr : Room (k + 3) X.A) (hb : Binds X.K fd ps []) (hx : Passes CX X E) (hs : PySem.W.findIn X.K (.ref C) "__str__" = some (some (.ref f))) (hf : PySem.W.isFn X.K (.ref f) = true) : CallR X (.type "str") (rStrO C sp E) := by
  intro pins s σ H xs us Q I r h
  obtain ⟨a, dx, fs, rfl, ha, q⟩ := h
  obtain ⟨u, rfl, ru⟩ := vals1 r
  obtain rfl : u = Value.ref a := ru
  obtain ⟨o, od, J⟩ := ins_at I ha
  obtain ⟨m, hF⟩ := I.fr
  refine str_own fun A' e => ?_
  subst e
  refine strOf_own hr.in1.in1.units0 (I.ok.mod.kin.keeps hF.keep) J hs hf (thn (run_fnA (us := [.ref a]) (vs := [.ref a]) F (hr.in1.in1.mono (by omega)) (fun e => e.in1.in1) hb hx I (.cons rfl .nil) q) fun r s1 z => ?_)
  obtain ⟨w', H1, I1, rw1, x, rfl, q1⟩ := z
  obtain ⟨t, rfl⟩ := rw1
  exact ⟨⟨x, t, rfl⟩, ⟨x, t, rfl⟩, .str x, H1, I1, ⟨t, rfl⟩, q1⟩
/-- a == y, a an instance of the class, whose __eq__ is its own, y of a built-in kind -/
def rEqX (K : PySem.W.Frag) (C : Addr) (sp : Sp) (E : XK) : R2 := fun x y H Q => ∃ (a dx : Addr) (fs : List (Str × V)) (t : Value), x = .ref a ∧ H a = some (.ins C dx fs) ∧ TyX K H y t ∧ PySem.W.notFirst K C t = true ∧ sp [.ref a, y] H (fun v H' => ∃ b, v = .bl b ∧ Q (.bl b) H') E
theorem op_eqX (K : PySem.W.Frag) (hK : X.K = K) (F : FnOk X.prog X.w X.K X.mg X.base CX k f fd ps sp) (hr : Room k X.A) (hb : Binds X.K fd ps []) (hx : Passes CX X E) (hs : PySem.W.findIn X.K (.ref C) "__eq__" = some (some (.ref f))) (hf : PySem.W.isFn X.K (.ref f) = true) : OpR X (compareOp .Eq) (rEqX K C sp E) := by
  subst hK
  intro pins s σ H x y v u Q I rx ry h
  obtain ⟨a, dx, fs, t, rfl, ha, ty, nf, q⟩ := h
  obtain rfl : v = Value.ref a := rx
  obtain ⟨o, od, J⟩ := ins_at I ha
  obtain ⟨P, Z, hP, _⟩ := kit_of I ry ty
  obtain ⟨m, hF⟩ := I.fr
  show wpAny (model X.prog X.w) X.A (richCompare .Eq (.ref a) u) (EP X pins σ Q) X.xe s
  refine PySem.W.cmp_K (op := .Eq) (tb := t) hr.units0 hF I.ok.mod.kin J (Z.ty _ _ I.kIn hP) nf hs hf (thn (run_fn (us := [.ref a, u]) (vs := [.ref a, y]) F hr hb .nil hx I (.cons rfl (.cons ry .nil)) q) fun r s1 z => ?_)
  obtain ⟨w, H1, I1, rw1, c, rfl, q1⟩ := z
  cases rw1
  exact ⟨.bl c, H1, I1, rfl, q1⟩
end
/-- f'..' of two parts or more, under a name -/
def tJoin (ts : List TE) : TE := fun σ H Q => tJs ts Str.empty σ H fun out H1 => Q (.str out) H1
theorem pe_joinedT {X : Cx} {v1 v2 : Expr} {rest : List Expr} {ts : List TE} {pos : Pos} (h : PJ X (v1 :: v2 :: rest) ts) : PE X (.JoinedStr (v1 :: v2 :: rest) pos) (tJoin ts) := pe_joined h

/-! ### x == y where y's class is below x's: y is asked first -/
theorem cmp_R {prog : Program} {w : World} {A : Around} {E : Value → Shared → Prop} {s : Shared} {K : PySem.W.Frag} {x y C C' f : Addr} {ox oy : Obj} {od od' : Option Obj} {op : CmpOp} {Q : Value → Shared → Prop} (hu : A.units < cLine) (X : K.In s.heap) (I : PySem.W.InstAt s.heap x ox C od) (J : PySem.W.InstAt s.heap y oy C' od')
    (hn : PySem.W.subIn K (.ref C') (.ref C) = some true) (ne : (Value.ref C != Value.ref C') = true)
    (hs : PySem.W.findIn K (.ref C') (cmpInfo op).2.2 = some (some (.ref f))) (hf : PySem.W.isFn K (.ref f) = true)
    (h : wpAny (model prog w) A (call (.ref f) [.ref y, .ref x]) (PySem.W.CmpBack Q) E s) : wpAny (model prog w) A (richCompare op (.ref x) (.ref y)) Q E s := by
  have one : wpAny (model prog w) A (tryCompare (.ref y) (cmpInfo op).2.2 (.ref x)) (fun r s' => ∃ v, r = some v ∧ Q v s') E s := by
    unfold tryCompare
    refine wpAny_bind (PySem.W.ifBound_K X J hs hf (wpAny_mono h (fun v s' hv => ?_) fun _ _ e => e))
    cases v <;> first | exact hv.elim | exact wpAny_pure ⟨_, rfl, hv⟩
  unfold richCompare
  simp only [oneThing_ref]
  refine wpAny_holding (wpAny_bind (wpAny_cRoomFor hu ?_))
  refine wpAny_bind (I.type.here (wpAny_bind (J.type.here ?_)))
  rw [if_pos ne]
  refine wpAny_bind ((PySem.W.looks_subIn X hn).here ?_)
  simp only [if_true]
  refine wpAny_bind (wpAny_mono one (fun r s' z => ?_) fun _ _ e => e)
  obtain ⟨v, rfl, hq⟩ := z
  exact wpAny_bind (wpAny_rule (wpAny_pure hq))
/-- x == y, x an instance of a class whose __eq__ is the def at g; y of a kind that is not asked first, or of a class below x's -/
def rEqW (K : PySem.W.Frag) (g : Addr) (sp : Sp) (E : XK) : R2 := fun x y H Q => ∃ (a C dx : Addr) (fs : List (Str × V)), x = .ref a ∧ H a = some (.ins C dx fs) ∧
  ((∃ t : Value, PySem.W.findIn K (.ref C) "__eq__" = some (some (.ref g)) ∧ TyX K H y t ∧ PySem.W.notFirst K C t = true ∧ sp [.ref a, y] H (fun v H' => ∃ b, v = .bl b ∧ Q (.bl b) H') E) ∨
   ∃ (b C' dy : Addr) (gs : List (Str × V)), y = .ref b ∧ H b = some (.ins C' dy gs) ∧ PySem.W.findIn K (.ref C') "__eq__" = some (some (.ref g)) ∧ PySem.W.subIn K (.ref C') (.ref C) = some true ∧ (Value.ref C != Value.ref C') = true ∧ sp [.ref b, .ref a] H (fun v H' => ∃ c, v = .bl c ∧ Q (.bl c) H') E)
theorem op_eqW {X : Cx} {CX : CXT} {k : Nat} {g : Addr} {fd : FuncData} {ps : List Str} {sp : Sp} {E : XK} (K : PySem.W.Frag) (hK : X.K = K) (F : FnOk X.prog X.w X.K X.mg X.base CX k g fd ps sp) (hr : Room k X.A) (hb : Binds X.K fd ps []) (hx : Passes CX X E) (hf : PySem.W.isFn X.K (.ref g) = true) : OpR X (compareOp .Eq) (rEqW K g sp E) := by
  subst hK
  intro pins s σ H x y v u Q I rx ry h
  obtain ⟨a, C, dx, fs, rfl, ha, h⟩ := h
  obtain rfl : v = Value.ref a := rx
  obtain ⟨o, od, J⟩ := ins_at I ha
  show wpAny (model X.prog X.w) X.A (richCompare .Eq (.ref a) u) (EP X pins σ Q) X.xe s
  rcases h with ⟨t, hs, ty, nf, q⟩ | ⟨b, C', dy, gs, rfl, hb2, hs, sb, ne, q⟩
  · obtain ⟨P, Z, hP, _⟩ := kit_of I ry ty
    obtain ⟨m, hF⟩ := I.fr
    refine PySem.W.cmp_K (op := .Eq) (tb := t) hr.units0 hF I.ok.mod.kin J (Z.ty _ _ I.kIn hP) nf hs hf (thn (run_fn (us := [.ref a, u]) (vs := [.ref a, y]) F hr hb .nil hx I (.cons rfl (.cons ry .nil)) q) fun r s1 z => ?_)
    obtain ⟨w, H1, I1, rw1, c, rfl, q1⟩ := z
    cases rw1
    exact ⟨.bl c, H1, I1, rfl, q1⟩
  · obtain rfl : u = Value.ref b := ry
    obtain ⟨o2, od2, J2⟩ := ins_at I hb2
    refine cmp_R (op := .Eq) hr.units0 I.kIn J J2 sb ne hs hf (thn (run_fn (us := [.ref b, .ref a]) (vs := [.ref b, .ref a]) F hr hb .nil hx I (.cons rfl (.cons rfl .nil)) q) fun r s1 z => ?_)
    obtain ⟨w, H1, I1, rw1, c, rfl, q1⟩ := z
    cases rw1
    exact ⟨.bl c, H1, I1, rfl, q1⟩

/-! ### rules for instances whose class is one of several: methods, str, signs, != -/
section
variable {X : Cx} {CX : CXT} {k : Nat} {g : Addr} {fd : FuncData} {ps : List Str} {sp : Sp} {E : XK} {dvs : List V} {ds : List Value} {o e : Expr} {es : List Expr} {m : Str} {ta : TE} {t tk : TA} {apos pos : Pos}
/-- o.m(e, ..), m the def at g whichever class o is of -/
def tMethW (K : PySem.W.Frag) (m : Str) (g : Addr) (sp : Sp) (dvs : List V) (E : XK) (ta : TE) (t : TA) : TE := fun σ H Q => ta σ H fun x H1 => ∃ a C dx fs, x = .ref a ∧ H1 a = some (.ins C dx fs) ∧ Cls K C ∧ Meth K C m g ∧ fs.lookup m = Option.none ∧ t σ H1 fun vs H2 => sp (x :: (vs ++ dvs)) H2 Q E
theorem pe_methW {pl : Sem Bool} (K : PySem.W.Frag) (hK : X.K = K) (he : PE X o ta) (F : FnOk X.prog X.w X.K X.mg X.base CX k g fd ps sp) (hr : Room k X.A) (hb : Binds X.K fd ps ds) (hd : Vals dvs ds) (hx : Passes CX X E) (ha : PA X (e :: es) t)
    (hst : starEach (e :: es) X.env = (false, eval e X.env) :: starEach es X.env := by rfl) (hpl : (backTo pos (starEach es X.env)).any (·.1) = false := by rfl)
    (ht : eval (.Call (.Attribute o m apos) (e :: es) [] pos) X.env = (eval o X.env >>= fun ov => standAt apos.atName >>= fun _ => holding [ov] (getMethod ov m pl) >>= fun z => callWith pos z.1 z.2 (backTo pos (starEach (e :: es) X.env)) (backToKw pos (keywordEach [] X.env))) := by rfl) :
    PE X (.Call (.Attribute o m apos) (e :: es) [] pos) (tMethW K m g sp dvs E ta t) := by
  subst hK
  refine ⟨fun pins s σ H Q I h => PySem.W.methodCall_KW (pl := pl) (thn (he.run pins s σ H _ I h) fun u s1 hu => ?_) ht⟩
  obtain ⟨x, H1, I1, rx, a, C, dx, fs, rfl, ea, c, hm, l, q⟩ := hu
  obtain rfl : u = Value.ref a := rx
  refine getmeth_ok I1 ea c hm l (PySem.W.callWith_K (first := [.ref a]) (h₀ := X.base) I.ok.mod.kin hm.kp (thn (ha.run pos pins s1 σ H1 _ I1 q) fun us s2 z => ?_) hst hpl)
  obtain ⟨vs, H2, I2, r, q2⟩ := z
  exact ⟨I2.kIn, run_fn (us := .ref a :: us) (vs := .ref a :: vs) F hr hb hd hx I2 (.cons rfl r) q2⟩
/-- o.m(k = v, ..) -/
def tMethKW (K : PySem.W.Frag) (m : Str) (g : Addr) (sp : Sp) (gV : List V → List V → List V) (E : XK) (ta : TE) (tk : TA) : TE := fun σ H Q => ta σ H fun x H1 => ∃ a C dx fs, x = .ref a ∧ H1 a = some (.ins C dx fs) ∧ Cls K C ∧ Meth K C m g ∧ fs.lookup m = Option.none ∧ tk σ H1 fun zs H2 => sp (gV [x] zs) H2 Q E
theorem pe_methKW {ks : List Str} {kws : List Keyword} {gK : List Value → List Value → List Value} {gV : List V → List V → List V} {pl : Sem Bool} (K : PySem.W.Frag) (hK : X.K = K) (he : PE X o ta) (F : FnOk X.prog X.w X.K X.mg X.base CX k g fd ps sp) (hr : Room k X.A) (hb : KBinds X.K fd ps ks gK gV) (hx : Passes CX X E) (hkw : PK X kws tk)
    (hall : (backToKw pos (keywordEach kws X.env)).all (·.1.isSome) = true := by rfl) (hks : (backToKw pos (keywordEach kws X.env)).filterMap (·.1) = ks := by rfl) (hpl : ((backTo pos (starEach [] X.env)).any (·.1) || (backToKw pos (keywordEach kws X.env)).any (·.1.isNone)) = false := by rfl)
    (ht : eval (.Call (.Attribute o m apos) [] kws pos) X.env = (eval o X.env >>= fun ov => standAt apos.atName >>= fun _ => holding [ov] (getMethod ov m pl) >>= fun z => callWith pos z.1 z.2 (backTo pos (starEach [] X.env)) (backToKw pos (keywordEach kws X.env))) := by rfl) :
    PE X (.Call (.Attribute o m apos) [] kws pos) (tMethKW K m g sp gV E ta tk) := by
  subst hK
  refine ⟨fun pins s σ H Q I h => PySem.W.methodCall_KW (pl := pl) (thn (he.run pins s σ H _ I h) fun u s1 hu => ?_) ht⟩
  obtain ⟨x, H1, I1, rx, a, C, dx, fs, rfl, ea, c, hm, l, q⟩ := hu
  obtain rfl : u = Value.ref a := rx
  refine getmeth_ok I1 ea c hm l (PySem.W.callWith_KW0 (first := [.ref a]) (h₀ := X.base) I.ok.mod.kin hm.kp hall (thn (hkw.run pos pins s1 σ H1 _ I1 q) fun ws s2 z => ?_) hpl)
  obtain ⟨zs, H2, I2, rz, q2⟩ := z
  refine ⟨I2.kIn, ?_⟩
  rw [hks]
  exact run_fnk (us := [.ref a]) (vs := [.ref a]) F hr hb hx I2 (.cons rfl .nil) rz q2
/-- o.m(e, ..), m told of its arguments as they are passed -/
def tMethR (C : Addr) (m : Str) (sp : Sp) (E : XK) (ta : TE) (t : TA) : TE := fun σ H Q => ta σ H fun x H1 => ∃ a dx fs, x = .ref a ∧ H1 a = some (.ins C dx fs) ∧ fs.lookup m = Option.none ∧ t σ H1 fun vs H2 => sp (x :: vs) H2 Q E
theorem pe_methR {C : Addr} {pl : Sem Bool} (he : PE X o ta) (c : Cls X.K C) (hm : Meth X.K C m g) (F : FnR X.prog X.w X.K X.mg X.base CX k g sp) (hr : Room k X.A) (hx : Passes CX X E) (ha : PA X (e :: es) t)
    (hst : starEach (e :: es) X.env = (false, eval e X.env) :: starEach es X.env := by rfl) (hpl : (backTo pos (starEach es X.env)).any (·.1) = false := by rfl)
    (ht : eval (.Call (.Attribute o m apos) (e :: es) [] pos) X.env = (eval o X.env >>= fun ov => standAt apos.atName >>= fun _ => holding [ov] (getMethod ov m pl) >>= fun z => callWith pos z.1 z.2 (backTo pos (starEach (e :: es) X.env)) (backToKw pos (keywordEach [] X.env))) := by rfl) :
    PE X (.Call (.Attribute o m apos) (e :: es) [] pos) (tMethR C m sp E ta t) := by
  refine ⟨fun pins s σ H Q I h => PySem.W.methodCall_KW (pl := pl) (thn (he.run pins s σ H _ I h) fun u s1 hu => ?_) ht⟩
  obtain ⟨x, H1, I1, rx, a, dx, fs, rfl, ea, l, q⟩ := hu
  obtain rfl : u = Value.ref a := rx
  refine getmeth_ok I1 ea c hm l (PySem.W.callWith_K (first := [.ref a]) (h₀ := X.base) I.ok.mod.kin hm.kp (thn (ha.run pos pins s1 σ H1 _ I1 q) fun us s2 z => ?_) hst hpl)
  obtain ⟨vs, H2, I2, r, q2⟩ := z
  exact ⟨I2.kIn, wpAny_call (run_fnR (us := .ref a :: us) (vs := .ref a :: vs) F hr hx I2 (.cons rfl r) q2)⟩
/-- str(x), x an instance whose __str__ is the def at g -/
def rStrW (K : PySem.W.Frag) (g : Addr) (sp : Sp) (E : XK) : List V → Hp → VK → Prop := fun xs H Q => ∃ (a C dx : Addr) (fs : List (Str × V)), xs = [.ref a] ∧ H a = some (.ins C dx fs) ∧ PySem.W.findIn K (.ref C) "__str__" = some (some (.ref g)) ∧ sp [.ref a] H (fun v H' => ∃ x, v = .str x ∧ Q (.str x) H') E
theorem call_strW (F : FnOk X.prog X.w X.K X.mg X.base CX k g fd ps sp) (hr : Room (k + 3) X.A) (hb : Binds X.K fd ps []) (hx : Passes CX X E) (hf : PySem.W.isFn X.K (.ref g) = true) : CallR X (.type "str") (rStrW X.K g sp E) := by
  intro pins s σ H xs us Q I r h
  obtain ⟨a, C, dx, fs, rfl, ha, hs, q⟩ := h
  exact call_strO F hr hb hx hs hf pins s σ H [.ref a] us Q I r ⟨a, dx, fs, rfl, ha, q⟩
end
/-- what the class says of such a sign with what is of the built-in kind T behind it -/
structure OwnBinT (K : PySem.W.Frag) (C f : Addr) (op : Operator) (T : String) : Prop where
  hc : PySem.W.selfFirst K C = true
  hs : PySem.W.findIn K (.ref C) (PySem.dunder op.info.2) = some (some (.ref f))
  hf : PySem.W.isFn K (.ref f) = true
  hr : PySem.W.findIn K (.ref C) (PySem.dunderR op.info.2) = some Option.none
  h1 : ∃ fo, PySem.W.findIn K (.type T) (PySem.dunder op.info.2) = some fo
  h2 : ∃ ro, PySem.W.findIn K (.type T) (PySem.dunderR op.info.2) = some ro
  hsub : PySem.W.subIn K (.type T) (.ref C) = some false
section
variable {prog : Program} {w : World} {A : Around} {E : Value → Shared → Prop} {s : Shared} {K : PySem.W.Frag} {x C L f : Addr} {h₀ : Heap} {m : Str → Option Value} {ox : Obj} {od : Option Obj} {T : String} {b : Value}
theorem bin1_T {nm' : String} {fo ro : Option Value} {Q : Value → Shared → Prop} (F : PyProof.Rows.Fr h₀ L s.heap m) (X₀ : K.In h₀) (I : PySem.W.InstAt s.heap x ox C od) (hT : PySem.W.Looks (model prog w) s.heap (typeOf b) (.type T)) (hc : PySem.W.selfFirst K C = true)
    (hs : PySem.W.findIn K (.ref C) (PySem.dunder nm') = some (some (.ref f))) (hf : PySem.W.isFn K (.ref f) = true) (hr : PySem.W.findIn K (.ref C) (PySem.dunderR nm') = some Option.none)
    (h1 : PySem.W.findIn K (.type T) (PySem.dunder nm') = some fo) (h2 : PySem.W.findIn K (.type T) (PySem.dunderR nm') = some ro) (hsub : PySem.W.subIn K (.type T) (.ref C) = some false)
    (h : wpAny (model prog w) A (call (.ref f) [.ref x, b]) (PySem.W.CmpBack Q) E s) : wpAny (model prog w) A (binaryOp1 nm' (.ref x) b) (fun r s' => ∃ v, r = some v ∧ Q v s') E s := by
  have X := X₀.keeps F.keep
  obtain ⟨cd, rest, hcd, hmr⟩ := PySem.W.ksp_first hc
  have one := PySem.W.ksp_try X I hs hf h
  obtain ⟨hh, g, d, tt, os⟩ := s
  have L1 : PySem.W.Looks (model prog w) hh (typeOf (.ref x)) (.ref C) := I.type
  have L2 : PySem.W.Looks (model prog w) hh (typeOf b) (.type T) := hT
  have L3 : PySem.W.Looks (model prog w) hh (fillsNumberSlot (.ref C) nm') true := PySem.W.fills_K X hcd hmr hs
  have L4 : PySem.W.Looks (model prog w) hh (fillsNumberSlot (.type T) nm') ((fo.isSome && !isSeqSlot fo) || (ro.isSome && !isSeqSlot ro)) := PySem.W.ksp_fillsT X h1 h2
  have L5 : PySem.W.Looks (model prog w) hh (isSubtype (.type T) (.ref C)) false := PySem.W.looks_subIn X hsub
  have L6 : PySem.W.Looks (model prog w) hh (numberSlotInPython (.ref C) nm') true := PySem.W.ksp_inPy X hs hr (.inl rfl)
  have L7 : PySem.W.Looks (model prog w) hh (numberSlotInPython (.type T) nm') false := PySem.W.Looks.of_pure rfl
  have L8 : PySem.W.Looks (model prog w) hh (typeLookup (.type T) (PySem.dunderR nm')) ro := PySem.W.looks_findIn X h2
  generalize ((fo.isSome && !isSeqSlot fo) || (ro.isSome && !isSeqSlot ro)) = right at L4
  have hne : (Value.ref C == Value.type T) = false := Bool.eq_false_iff.mpr fun q => by cases beq_iff_eq.mp q
  unfold binaryOp1
  refine wpAny_bind (L1.at (wpAny_bind (L2.at (wpAny_bind (L3.at ?_)))))
  simp only [hne, Bool.false_eq_true, if_false]
  cases right with
  | false =>
    ksp_lk
    refine wpAny_mono one (fun r s' hr' => ?_) fun _ _ e => e
    obtain ⟨v, rfl, hq⟩ := hr'
    ksp_lk
    exact ⟨v, rfl, hq⟩
  | true =>
    ksp_lk
    refine wpAny_mono one (fun r s' hr' => ?_) fun _ _ e => e
    obtain ⟨v, rfl, hq⟩ := hr'
    ksp_lk
    exact ⟨v, rfl, hq⟩
theorem bin_T {op : Operator} {fo ro : Option Value} {Q : Value → Shared → Prop} (F : PyProof.Rows.Fr h₀ L s.heap m) (X₀ : K.In h₀) (I : PySem.W.InstAt s.heap x ox C od) (hT : PySem.W.Looks (model prog w) s.heap (typeOf b) (.type T)) (hc : PySem.W.selfFirst K C = true)
    (hs : PySem.W.findIn K (.ref C) (PySem.dunder op.info.2) = some (some (.ref f))) (hf : PySem.W.isFn K (.ref f) = true) (hr : PySem.W.findIn K (.ref C) (PySem.dunderR op.info.2) = some Option.none)
    (h1 : PySem.W.findIn K (.type T) (PySem.dunder op.info.2) = some fo) (h2 : PySem.W.findIn K (.type T) (PySem.dunderR op.info.2) = some ro) (hsub : PySem.W.subIn K (.type T) (.ref C) = some false)
    (h : wpAny (model prog w) A (call (.ref f) [.ref x, b]) (PySem.W.CmpBack Q) E s) : wpAny (model prog w) A (binaryOp op (.ref x) b) Q E s := by
  have one := bin1_T F X₀ I hT hc hs hf hr h1 h2 hsub h
  rcases hi : op.info with ⟨sym, nm'⟩
  rw [hi] at one
  dsimp only at one
  simp only [binaryOp, hi]
  refine wpAny_holding (wpAny_bind (wpAny_mono one (fun r s' hr' => ?_) fun _ _ e => e))
  obtain ⟨v, rfl, hq⟩ := hr'
  exact wpAny_pure hq
/-- x != y where y's class is below x's: y is asked first -/
theorem ne_R {y C' : Addr} {oy : Obj} {od' : Option Obj} {Q : Value → Shared → Prop} (hu : A.units + 1 < cLine) (X : K.In s.heap) (I : PySem.W.InstAt s.heap x ox C od) (J : PySem.W.InstAt s.heap y oy C' od') (hn : PySem.W.subIn K (.ref C') (.ref C) = some true) (ne : (Value.ref C != Value.ref C') = true)
    (hm : PySem.W.mroIn K C' (.type "object") = some true) (he : PySem.W.findIn K (.ref C') "__ne__" = some (some (.builtin "object.__ne__"))) (hs : PySem.W.findIn K (.ref C') "__eq__" = some (some (.ref f))) (hf : PySem.W.isFn K (.ref f) = true)
    (h : wpAny (model prog w) A.in1 (call (.ref f) [.ref y, .ref x]) (fun v s' => ∃ c, v = .bool c ∧ Q (.bool (!c)) s') E s) : wpAny (model prog w) A (richCompare .NotEq (.ref x) (.ref y)) Q E s := by
  have one : wpAny (model prog w) A (tryCompare (.ref y) (cmpInfo .NotEq).2.2 (.ref x)) (fun r s' => ∃ v, r = some v ∧ Q v s') E s := by
    unfold tryCompare
    refine wpAny_bind (ifBound_objNe X J he (wpAny_call (codeAny_call_builtin PySem.F.cmp_object.ne.plain PySem.F.cmpEntry_ne (PySem.W.check_slot PySem.F.cmpKind_ne PySem.F.cmpSplit_ne (J.type.andThen (PySem.W.looks_mroIn X hm)) (PySem.F.cmpArgs_ne _ _)
      (neO_entry (A := A.in1) hu X J hs hf (wpAny_mono h (fun v s' hv => ?_) fun _ _ e => e))))))
    obtain ⟨c, rfl, hq⟩ := hv
    exact ⟨c, rfl, wpAny_pure ⟨_, rfl, hq⟩⟩
  unfold richCompare
  simp only [oneThing_ref]
  refine wpAny_holding (wpAny_bind (wpAny_cRoomFor (Nat.lt_of_succ_lt hu) ?_))
  refine wpAny_bind (I.type.here (wpAny_bind (J.type.here ?_)))
  rw [if_pos ne]
  refine wpAny_bind ((PySem.W.looks_subIn X hn).here ?_)
  simp only [if_true]
  refine wpAny_bind (wpAny_mono one (fun r s' z => ?_) fun _ _ e => e)
  obtain ⟨v, rfl, hq⟩ := z
  exact wpAny_bind (wpAny_rule (wpAny_pure hq))
end
section
variable {X : Cx} {CX : CXT} {k : Nat} {g : Addr} {fd : FuncData} {ps : List Str} {sp : Sp} {E : XK}
/-- x op y, x an instance whose method is the def at g, y of a built-in kind -/
def rBinW (K : PySem.W.Frag) (g : Addr) (op : Operator) (sp : Sp) (E : XK) : R2 := fun x y H Q => ∃ (a C dx : Addr) (fs : List (Str × V)) (T : String), x = .ref a ∧ H a = some (.ins C dx fs) ∧ TyX K H y (.type T) ∧ OwnBinT K C g op T ∧ sp [.ref a, y] H (fun v H' => ∃ b, v = .ref b ∧ Q (.ref b) H') E
theorem op_binW {op : Operator} (K : PySem.W.Frag) (hK : X.K = K) (F : FnOk X.prog X.w X.K X.mg X.base CX k g fd ps sp) (hr : Room k X.A) (hb : Binds X.K fd ps []) (hx : Passes CX X E) : OpR X (binaryOp op) (rBinW K g op sp E) := by
  subst hK
  intro pins s σ H x y v u Q I rx ry h
  obtain ⟨a, C, dx, fs, T, rfl, ha, ty, O, q⟩ := h
  obtain rfl : v = Value.ref a := rx
  obtain ⟨o, od, J⟩ := ins_at I ha
  obtain ⟨P, Z, hP, _⟩ := kit_of I ry ty
  obtain ⟨m, hF⟩ := I.fr
  obtain ⟨fo, h1⟩ := O.h1
  obtain ⟨ro, h2⟩ := O.h2
  refine bin_T hF I.ok.mod.kin J (Z.ty _ _ I.kIn hP) O.hc O.hs O.hf O.hr h1 h2 O.hsub (thn (run_fn (us := [.ref a, u]) (vs := [.ref a, y]) F hr hb .nil hx I (.cons rfl (.cons ry .nil)) q) fun r s1 z => ?_)
  obtain ⟨w, H1, I1, rw1, b, rfl, q1⟩ := z
  cases rw1
  exact ⟨.ref b, H1, I1, rfl, q1⟩
/-- x op= i -/
def rIpW (K : PySem.W.Frag) (g : Addr) (op : Operator) (sp : Sp) (E : XK) : R2 := fun x y H Q => ∃ (a C dx : Addr) (fs : List (Str × V)) (i : Int), x = .ref a ∧ y = .int i ∧ H a = some (.ins C dx fs) ∧ OwnBin K C g op ∧ mroNone K C (PySem.dunderI op.info.2) ∧ sp [.ref a, .int i] H (fun v H' => ∃ b, v = .ref b ∧ Q (.ref b) H') E
theorem ip_ownW {op : Operator} (K : PySem.W.Frag) (hK : X.K = K) (F : FnOk X.prog X.w X.K X.mg X.base CX k g fd ps sp) (hr : Room k X.A) (hb : Binds X.K fd ps []) (hx : Passes CX X E) : PIp X op (rIpW K g op sp E) := by
  subst hK
  intro pins s σ H x y v u Q I rx ry h
  obtain ⟨a, C, dx, fs, i, rfl, rfl, ha, O, hm, q⟩ := h
  exact ip_own O hm F hr hb hx pins s σ H (.ref a) (.int i) v u Q I rx ry ⟨a, dx, fs, i, rfl, rfl, ha, q⟩
/-- x != y of instances, their == the def at g -/
def rNeW (K : PySem.W.Frag) (g : Addr) (sp : Sp) (E : XK) : R2 := fun x y H Q => ∃ (a b C C' dx dy : Addr) (fs gs : List (Str × V)), x = .ref a ∧ y = .ref b ∧ H a = some (.ins C dx fs) ∧ H b = some (.ins C' dy gs) ∧
  ((PySem.W.notFirst K C (.ref C') = true ∧ PySem.W.mroIn K C (.type "object") = some true ∧ PySem.W.findIn K (.ref C) "__ne__" = some (some (.builtin "object.__ne__")) ∧ PySem.W.findIn K (.ref C) "__eq__" = some (some (.ref g)) ∧ sp [.ref a, .ref b] H (fun v H' => ∃ c, v = .bl c ∧ Q (.bl (!c)) H') E) ∨
   (PySem.W.subIn K (.ref C') (.ref C) = some true ∧ (Value.ref C != Value.ref C') = true ∧ PySem.W.mroIn K C' (.type "object") = some true ∧ PySem.W.findIn K (.ref C') "__ne__" = some (some (.builtin "object.__ne__")) ∧ PySem.W.findIn K (.ref C') "__eq__" = some (some (.ref g)) ∧ sp [.ref b, .ref a] H (fun v H' => ∃ c, v = .bl c ∧ Q (.bl (!c)) H') E))
theorem op_neW (K : PySem.W.Frag) (hK : X.K = K) (F : FnOk X.prog X.w X.K X.mg X.base CX k g fd ps sp) (hr : Room (k + 1) X.A) (hb : Binds X.K fd ps []) (hx : Passes CX X E) (hf : PySem.W.isFn X.K (.ref g) = true) : OpR X (compareOp .NotEq) (rNeW K g sp E) := by
  subst hK
  intro pins s σ H x y v u Q I rx ry h
  obtain ⟨a, b, C, C', dx, dy, fs, gs, rfl, rfl, ha, hb2, h⟩ := h
  obtain rfl : v = Value.ref a := rx
  obtain rfl : u = Value.ref b := ry
  obtain ⟨o, od, J⟩ := ins_at I ha
  obtain ⟨o2, od2, J2⟩ := ins_at I hb2
  obtain ⟨m, hF⟩ := I.fr
  have hu := hr.units
  show wpAny (model X.prog X.w) X.A (richCompare .NotEq (.ref a) (.ref b)) (EP X pins σ Q) X.xe s
  rcases h with ⟨nf, hm, he, hs, q⟩ | ⟨sb, ne, hm, he, hs, q⟩
  · refine ne_own (tb := .ref C') (by omega) hF I.ok.mod.kin J J2.type nf hm he hs hf (thn (run_fn1 (us := [.ref a, .ref b]) (vs := [.ref a, .ref b]) F hr hb hx I (.cons rfl (.cons rfl .nil)) q) fun r s1 z => ?_)
    obtain ⟨w, H1, I1, rw1, c, rfl, q1⟩ := z
    cases rw1
    exact ⟨c, rfl, .bl (!c), H1, I1, rfl, q1⟩
  · refine ne_R (by omega) I.kIn J J2 sb ne hm he hs hf (thn (run_fn1 (us := [.ref b, .ref a]) (vs := [.ref b, .ref a]) F hr hb hx I (.cons rfl (.cons rfl .nil)) q) fun r s1 z => ?_)
    obtain ⟨w, H1, I1, rw1, c, rfl, q1⟩ := z
    cases rw1
    exact ⟨c, rfl, .bl (!c), H1, I1, rfl, q1⟩
end

/-! ### x[k] and x[k] = v, x an instance with __getitem__ and __setitem__ of its own -/
section
variable {X : Cx} {CX : CXT} {k : Nat} {f C : Addr} {fd : FuncData} {ps : List Str} {sp : Sp} {E : XK}
def rIxO (C : Addr) (sp : Sp) (E : XK) : R2 := fun x y H Q => ∃ (a dx : Addr) (fs : List (Str × V)), x = .ref a ∧ H a = some (.ins C dx fs) ∧ sp [.ref a, y] H Q E
theorem pe_ixO {a b : Expr} {ta tb : TE} {pos : Pos} (F : FnOk X.prog X.w X.K X.mg X.base CX k f fd ps sp) (hr : Room (k + 1) X.A) (hb : Binds X.K fd ps []) (hx : Passes CX X E) (hs : PySem.W.findIn X.K (.ref C) "__getitem__" = some (some (.ref f))) (hf : PySem.W.fnIn X.K f = true) (hfn : PySem.W.isFn X.K (.ref f) = true)
    (ha : PE X a ta) (hi : PE X b tb) (hsl : ∀ o i, subscripted b true o i = runValue (.builtin "lifetime.subscript" ⟨[o, i], []⟩) := by intros; rfl) : PE X (.Subscript a b pos) (tOp (rIxO C sp E) ta tb) := by
  refine ⟨fun pins s σ H Q I h => PyProof.Rows.Subscript_ (thn (ha.run pins s σ H _ I h) fun v s1 z => ?_)⟩
  obtain ⟨x, H1, I1, rx, h1⟩ := z
  refine thn (hi.run pins s1 σ H1 _ I1 h1) fun u s2 z => ?_
  obtain ⟨y, H2, I2, ry, q, dx, fs, rfl, ea, h2⟩ := z
  obtain rfl : v = Value.ref q := rx
  obtain ⟨o, od, J⟩ := ins_at I2 ea
  obtain ⟨m, hF⟩ := I2.fr
  exact PySem.W.sub_K hF I2.ok.mod.kin J hs hf hfn (run_fn1 (us := [.ref q, u]) (vs := [.ref q, y]) F hr hb hx I2 (.cons rfl (.cons ry .nil)) h2) (hsl _ _)
def rSetO (C : Addr) (sp : Sp) (E : XK) : V → V → V → Hp → (Hp → Prop) → Prop := fun o i v H Q => ∃ (a dx : Addr) (fs : List (Str × V)), o = .ref a ∧ H a = some (.ins C dx fs) ∧ sp [.ref a, i, v] H (fun _ H' => Q H') E
theorem set_ownO (F : FnOk X.prog X.w X.K X.mg X.base CX k f fd ps sp) (hr : Room k X.A) (hb : Binds X.K fd ps []) (hx : Passes CX X E) (hq : PySem.W.noSeq X.K C = true) (hs : PySem.W.findIn X.K (.ref C) "__setitem__" = some (some (.ref f))) (hf : PySem.W.isFn X.K (.ref f) = true) : PSet X (rSetO C sp E) := by
  intro pins s σ H o i v ov iv u Q I ro ri rv h
  obtain ⟨a, dx, fs, rfl, ea, h2⟩ := h
  obtain rfl : ov = Value.ref a := ro
  obtain ⟨oo, od, J⟩ := ins_at I ea
  have XK := I.kIn
  unfold setItem sequenceKey
  refine wpAny_holding (wpAny_bind (wpAny_bind (J.type.here ?_)))
  refine wpAny_bind ((PySem.W.anyM_none XK hq).here ?_)
  rw [if_pos (show (!false) = true from rfl)]
  refine wpAny_pure (wpAny_bind (PySem.W.special_fn XK J hs (beq_iff_eq.mp hf) (wpAny_mono (run_fn (us := [.ref a, iv, u]) (vs := [.ref a, i, v]) F hr hb .nil hx I (.cons rfl (.cons ri (.cons rv .nil))) h2) (fun r s1 z => ?_) fun _ _ z => z)))
  obtain ⟨w, H1, I1, rw1, q⟩ := z
  exact wpAny_pure ⟨H1, I1, q⟩
end

/-! ### a def with a star and keyword-only names; its class called with keywords -/
/-- the promise of a def that is told of the positional values and of the keywords' -/
def FnKw (P : Program) (w : World) (K : PySem.W.Frag) (mg : Str → Option Value) (base : Heap) (CX : CXT) (k : Nat) (f : Addr) (ks : List Str) (sp : List V → List V → Hp → VK → XK → Prop) : Prop :=
  ∀ (A : Around) (outer : List Env) (s : Shared) (H : Hp) (us ws : List Value) (vs zs : List V) (Q : VK) (E : XK), Room k A → Env0 P w K mg base A outer s H → Vals vs us → Vals zs ws → sp vs zs H Q E →
    codeAny (model P w) A (.call (.ref f) ⟨us, ks.zip ws⟩) (CR CX outer P w H s Q E) s
/-- what such a def binds: something is looked up, then a tuple is laid -/
def BStar (K : PySem.W.Frag) (fd : FuncData) (args : Args) (ps : List Str) (vals : List Value) (pv : Str) (rest : List Value) : Prop :=
  ∃ (β : Type) (t0 : Sem β) (k : β → Sem (List (Str × Value))) (a : β), bindArgs fd args = t0 >>= k ∧ (∀ (M : Model) (h : Heap), K.In h → PySem.W.Looks M h t0 a) ∧ k a = (newTuple rest >>= fun t => pure (ps.zip vals ++ [(pv, t)]))
section
variable {CX : CXT} {k : Nat} {f : Addr} {name qual : Str} {params : Arguments} {body : List Stmt} {scope : Scope} {dV kV doc pm cdv ct oc : Value} {an od : Option Addr} {osl : Array (Option Value)} {N ps : List Str} {sp : Sp} {pv : Str}
theorem run_starK {A : Around} {outer : List Env} {s : Shared} {H : Hp} {args : Args} {us rest : List Value} {ws vs : List V} {Q : VK} {E : XK} (lk : K.lookup f = some ⟨oc, od, .func (PySem.W.fnOf name qual params body scope dV kV doc pm an cdv ct), osl⟩) (hcd : PySem.W.codeIn K cdv qual = true)
    (S : FnScope N (ps ++ [pv]) scope) (hCX : StX.CXUp CX) (hr : Room (k + 1) A) (e0 : Env0 P w K mg base A outer s H) (hb : BStar K (PySem.W.fnOf name qual params body scope dV kV doc pm an cdv ct) args ps us pv rest) (r1 : Vals ws us) (hl : ws.length = ps.length) (r2 : Vals vs rest) (hz : vs.length ≤ sizeLine)
    (hq : ∀ p, H p = Option.none → sp (ws ++ [V.ref p]) (upd H p (.tup vs)) Q E)
    (hbody : ∀ (A : Around) (outer : List Env) (s : Shared) (H : Hp) (vs : List V) (Q : VK) (E : XK), Room k (A.deeper (envOfC qual scope s.heap.objs.size f cdv)) → sp vs H Q E →
      ∃ t, PSs (cxOf CX P w K mg base N qual scope f cdv A outer s H E) body t ∧ t { nx := fun _ H' => Q .non H', rt := Q } (start N vs) H) :
    codeAny (model P w) A (.call (.ref f) args) (CR CX outer P w H s Q E) s := by
  have hn : H s.heap.objs.size = Option.none := e0.hok.fresh (Nat.le_refl _)
  have hl1 : us.length = ps.length := by rw [← r1.length]; exact hl
  have hl2 : rest.length ≤ sizeLine := by rw [← r2.length]; exact hz
  have KX : K.In s.heap := e0.mod.kin.keeps fun b o e => (e0.bs b o e).1
  obtain ⟨β, t0, kk, a, e1, L, e2⟩ := hb
  refine StX.run_bnd lk hcd S hr e0 (G := fun xs H2 => ∃ p, H p = Option.none ∧ xs = ws ++ [V.ref p] ∧ H2 = upd H p (.tup vs)) (fun A' Ex Q' h => ?_) fun s2 H2 xs ⟨p, hp, ex, eH⟩ hr' => ?_
  · rw [e1]
    refine wpAny_bind ((L _ _ KX).here ?_)
    rw [e2]
    refine wpAny_bind (wpAny_newTuple (wpAny_pure ?_) hl2)
    have new : ObjOk P w (upd H s.heap.objs.size (.tup vs)) (s.heap.push ({ cls := .type "tuple", data := .seq rest.toArray } : Obj)) s.heap.objs.size (.tup vs) := ⟨hz, rest, r2, ⟨_, Heap.get?_push_size _ rfl, rfl, _, rfl⟩⟩
    have un := StX.un_laid (fs := frs outer) (s := s) (o := ({ cls := .type "tuple", data := .seq rest.toArray } : Obj)) (u := .tup vs) hn
    have z := h _ _ (ws ++ [V.ref s.heap.objs.size]) (us ++ [Value.ref s.heap.objs.size]) (StX.env0_laid e0 new) un rfl (fun e s' => hCX outer s H _ _ E e s' un (fun b o q => Heap.get?_push_of_some _ q) rfl) (r1.append (.cons rfl .nil))
      (by rw [List.length_append, List.length_append, hl] <;> rfl) ⟨_, hn, rfl, rfl⟩
    rw [List.zip_append hl1.symm] at z
    exact z
  · subst ex eH
    exact hbody A outer s2 _ _ Q E hr' (hq p hp)
end
section
variable {M : Model} {A : Around} {E : Value → Shared → Prop} {s : Shared} {env : Env} {pos p : Pos} {f : Value} {first : List Value} {Q : Value → Shared → Prop} {h₀ : Heap} {e : Expr} {rest : List Expr} {kws : List Keyword}
theorem ks_callK {Pd : Heap → Prop} {args : List (Bool × Sem Value)} {keywords : List (Option Str × Sem Value)} (hst : args.any (·.1) = true)
    (hk : ∀ h, Pd h → ∃ k, (k = Keeper.frame ∨ k = Keeper.machine ∨ k = Keeper.boundFrame) ∧ PySem.W.Looks M h (keeperOf f) k)
    (h : wpAny M A (evalArgs f true args keywords) (fun a s₁ => Pd s₁.heap ∧ wpAny M A (call f (first ++ a.pos) a.kw) Q E s₁) E s) : wpAny M A (callWith pos f first args keywords) Q E s := by
  unfold callWith
  refine wpAny_bind (wpAny_holding (wpAny_mono h (fun a s₁ h₁ => wpAny_bind (wpAny_standAt ?_)) fun _ _ x => x))
  obtain ⟨k, hk', L⟩ := hk _ h₁.1
  simp only [hst, Bool.true_or]
  refine wpAny_bind (L.here ?_)
  have tail : ∀ {t : Sem Value}, wpAny M A t Q E s₁ → wpAny M A (t >>= fun r => holding [r] point >>= fun _ => pure r) Q E s₁ :=
    fun ht => wpAny_bind (wpAny_mono ht (fun r s₂ hr => wpAny_bind (wpAny_holding (wpAny_point (wpAny_pure hr)))) fun _ _ x => x)
  have marked (mk : Value) : wpAny M A (callMarked mk f (first ++ a.pos) a.kw) Q E s₁ := by unfold callMarked; exact Calls.wpAny_keep h₁.2
  rcases hk' with rfl | rfl | rfl <;> dsimp only <;> first | exact tail (marked _) | exact tail (wpAny_operating h₁.2)
theorem callWith_KWS (_X : K.In h₀) (hk : PySem.W.keepIn K f = true) (hall : (backToKw pos (keywordEach kws env)).all (·.1.isSome) = true)
    (h : wpAny M A (spliced (backTo pos (starEach (e :: rest) env))) (fun vs s₁ => wpAny M A (evalAll ((backToKw pos (keywordEach kws env)).map (·.2)))
      (fun ks s₂ => K.In s₂.heap ∧ wpAny M A (call f (first ++ vs) (((backToKw pos (keywordEach kws env)).filterMap (·.1)).zip ks)) Q E s₂) E s₁) E s)
    (he : starEach (e :: rest) env = (false, eval e env) :: starEach rest env := by rfl) (hst : (backTo pos (starEach rest env)).any (·.1) = true := by rfl) :
    wpAny M A (callWith pos f first (backTo pos (starEach (e :: rest) env)) (backToKw pos (keywordEach kws env))) Q E s :=
  ks_callK (by rw [he]; show (false || (backTo pos (starEach rest env)).any (·.1)) = true; rw [hst]; rfl) (PySem.W.keeps_K hk) (PyProof.Rows.evalArgs_kw2 hall h he)
end
section
variable {X : Cx} {CX : CXT} {k : Nat} {f C : Addr} {ks : List Str} {sp : List V → List V → Hp → VK → XK → Prop} {E : XK} {x : Str} {p pos : Pos} {e : Expr} {es : List Expr} {kws : List Keyword} {t tk : TA}
/-- C(e, .., k = v, ..) -/
def tMkKw (C : Addr) (m : Nat) (sp : List V → List V → Hp → VK → XK → Prop) (E : XK) (t tk : TA) : TE := fun σ H Q => t σ H fun vs H1 => tk σ H1 fun zs H2 => ∀ x dx, H2 x = Option.none → H2 dx = Option.none → dx ≠ x →
  sp (.ref x :: vs) zs (upd (upd H2 dx (.own x)) x (.ins C dx [])) (fun v H3 => v = .non ∧ Q (.ref x) H3) E
theorem run_mkKw {pins : List (Addr × Obj)} {σ : L2.St} {H : Hp} {s : Shared} {Q : VK} {us ws : List Value} {vs zs : List V} (M : Mk X.K C f) (F : FnKw X.prog X.w X.K X.mg X.base CX k f ks sp) (hr : Room (k + 1) X.A) (hx : Passes CX X E)
    (I : Inv X pins σ H s) (r : Vals vs us) (rz : Vals zs ws)
    (h : ∀ x dx, H x = Option.none → H dx = Option.none → dx ≠ x → sp (.ref x :: vs) zs (upd (upd H dx (.own x)) x (.ins C dx [])) (fun v H2 => v = .non ∧ Q (.ref x) H2) E) :
    wpAny (model X.prog X.w) X.A (call (.ref C) us (ks.zip ws)) (EP X pins σ Q) X.xe s := by
  have hq := h (s.heap.objs.size + 1) s.heap.objs.size (I.hok.fresh (Nat.le_succ _)) (I.hok.fresh (Nat.le_refl _)) (Nat.ne_of_lt (Nat.lt_succ_self _))
  have I2 := Inv.made (C := C) I
  have r1 : Vals (V.ref (s.heap.objs.size + 1) :: vs) (Value.ref (s.heap.objs.size + 1) :: us) := .cons rfl r
  refine wpAny_call (make_map (f := f) I.kIn M.makes M.init (beq_iff_eq.mp M.fn) (codeAny_mono (F _ X.stack _ _ (Value.ref (s.heap.objs.size + 1) :: us) ws _ _ _ E (hr.make C us (ks.zip ws))
    (I2.env0.make C us (ks.zip ws)) r1 rz hq) fun r s' hq' => ?_))
  cases r with
  | error e => exact hx pins σ _ _ e s' I2 hq'
  | ok fl =>
    cases fl with
    | ret u =>
      obtain ⟨v, H', I3, rv, ev, q3⟩ := I2.after hq'
      subst ev
      exact ⟨rv, ⟨V.ref (s.heap.objs.size + 1), H', I3, rfl, q3⟩⟩
    | next => exact False.elim hq'
    | brk => exact False.elim hq'
    | cont => exact False.elim hq'
theorem pe_mkKK (M : Mk X.K C f) (F : FnKw X.prog X.w X.K X.mg X.base CX k f ks sp) (hr : Room (k + 1) X.A) (hg : Gl X x) (hm : X.mg x = some (.ref C)) (hx : Passes CX X E) (hkw : PK X kws tk)
    (hall : (backToKw pos (keywordEach kws X.env)).all (·.1.isSome) = true := by rfl) (hks : (backToKw pos (keywordEach kws X.env)).filterMap (·.1) = ks := by rfl) (hdb : (x == ("__debug__" : Str)) = false := by decide)
    (hpl : ((backTo pos (starEach [] X.env)).any (·.1) || (backToKw pos (keywordEach kws X.env)).any (·.1.isNone)) = false := by rfl) :
    PE X (.Call (.Name x p) [] kws pos) (tMkKw C ks.length sp E tNil tk) := by
  refine ⟨fun pins s σ H Q I h => ?_⟩
  refine wpAny_Call_Name_kw (ld_glob I hg hm ?_ hdb)
  refine PySem.W.callWith_KW0 (h₀ := X.base) I.ok.mod.kin M.kp hall ?_ hpl
  refine thn (hkw.run pos pins s σ H _ I h) fun ws s2 ⟨zs, H2, I2, rz, q2⟩ => ⟨I2.kIn, ?_⟩
  rw [hks]
  exact run_mkKw (us := []) (vs := []) M F hr hx I2 .nil rz q2
theorem pe_mkK (M : Mk X.K C f) (F : FnKw X.prog X.w X.K X.mg X.base CX k f ks sp) (hr : Room (k + 1) X.A) (hg : Gl X x) (hm : X.mg x = some (.ref C)) (hx : Passes CX X E) (ha : PA X (e :: es) t) (hkw : PK X kws tk)
    (hall : (backToKw pos (keywordEach kws X.env)).all (·.1.isSome) = true := by rfl) (hks : (backToKw pos (keywordEach kws X.env)).filterMap (·.1) = ks := by rfl) (hdb : (x == ("__debug__" : Str)) = false := by decide)
    (he : starEach (e :: es) X.env = (false, eval e X.env) :: starEach es X.env := by rfl) (hpl : ((backTo pos (starEach (e :: es) X.env)).any (·.1) || (backToKw pos (keywordEach kws X.env)).any (·.1.isNone)) = false := by rfl) :
    PE X (.Call (.Name x p) (e :: es) kws pos) (tMkKw C ks.length sp E t tk) := by
  refine ⟨fun pins s σ H Q I h => ?_⟩
  refine wpAny_Call_Name_kw (ld_glob I hg hm ?_ hdb)
  refine PySem.W.callWith_KW (h₀ := X.base) I.ok.mod.kin M.kp hall (thn (ha.run pos pins s σ H _ I h) fun us s1 ⟨vs, H1, I1, r, q⟩ => ?_) hpl he
  refine thn (hkw.run pos pins s1 σ H1 _ I1 q) fun ws s2 ⟨zs, H2, I2, rz, q2⟩ => ⟨I2.kIn, ?_⟩
  rw [hks]
  exact run_mkKw M F hr hx I2 r rz q2
/-- C(e, .., *y, k = v, ..) -/
theorem pe_mkKS (M : Mk X.K C f) (F : FnKw X.prog X.w X.K X.mg X.base CX k f ks sp) (hr : Room (k + 1) X.A) (hg : Gl X x) (hm : X.mg x = some (.ref C)) (hx : Passes CX X E) (ha : PA X (e :: es) t) (hkw : PK X kws tk)
    (hall : (backToKw pos (keywordEach kws X.env)).all (·.1.isSome) = true := by rfl) (hks : (backToKw pos (keywordEach kws X.env)).filterMap (·.1) = ks := by rfl) (hdb : (x == ("__debug__" : Str)) = false := by decide)
    (he : starEach (e :: es) X.env = (false, eval e X.env) :: starEach es X.env := by rfl) (hst : (backTo pos (starEach es X.env)).any (·.1) = true := by rfl) :
    PE X (.Call (.Name x p) (e :: es) kws pos) (tMkKw C ks.length sp E t tk) := by
  refine ⟨fun pins s σ H Q I h => ?_⟩
  refine wpAny_Call_Name_kw (ld_glob I hg hm ?_ hdb)
  refine callWith_KWS (h₀ := X.base) I.ok.mod.kin M.kp hall (thn (ha.run pos pins s σ H _ I h) fun us s1 ⟨vs, H1, I1, r, q⟩ => ?_) he hst
  refine thn (hkw.run pos pins s1 σ H1 _ I1 q) fun ws s2 ⟨zs, H2, I2, rz, q2⟩ => ⟨I2.kIn, ?_⟩
  rw [hks]
  exact run_mkKw M F hr hx I2 r rz q2
end
/-- f(*y), f a def of fixed parameters -/
def tS1 (K : PySem.W.Frag) (sp : Sp) (E : XK) (te : TE) : TE := fun σ H Q => te σ H fun y H1 => ∃ a xs, y = V.ref a ∧ (SqT K H1 a xs ∨ SqL K H1 a xs) ∧ sp (xs ++ []) H1 Q E
theorem pe_callS1F {X : Cx} {CX : CXT} {k : Nat} {f : Addr} {fd : FuncData} {ps : List Str} {sp : Sp} {E : XK} {x : Str} {e : Expr} {te : TE} {p sp_ pos : Pos} (K : PySem.W.Frag) (hK : X.K = K) (F : FnOk X.prog X.w X.K X.mg X.base CX k f fd ps sp) (hr : Room k X.A) (hg : Gl X x) (hm : X.mg x = some (.ref f)) (hk : PySem.W.keepIn X.K (.ref f) = true) (hb : Binds X.K fd ps []) (hx : Passes CX X E) (he : PE X e te) (hd : (x == ("__debug__" : Str)) = false := by decide)
    (hst : starEach [.Starred e sp_] X.env = [(true, eval e X.env)] := by rfl) :
    PE X (.Call (.Name x p) [.Starred e sp_] [] pos) (tS1 K sp E te) := by
  subst hK
  exact StX.pe_callS1 (F.raw hb .nil) hr hk hg hm hx he hd hst


end
/-- what the top has written -/
structure Txt (K : PySem.W.Frag) (mg : Str → Option Value) where
  a_Words : Addr
  a_Train : Addr
  m_Words : mg "Words" = some (.ref a_Words)
  m_Train : mg "Train" = some (.ref a_Train)
  p_read : Addr
  slD : Addr
  slK : ∀ H : Hp, SqT K H slD [.int 0, .int 1]
  a_is_whole : Addr
  fd_is_whole : FuncData
  F_is_whole : Fun K "is_whole" "is_whole" s_is_whole a_is_whole fd_is_whole
  m_is_whole : mg "is_whole" = some (.ref a_is_whole)
  a_is_from : Addr
  fd_is_from : FuncData
  F_is_from : Fun K "is_from" "is_from" s_is_from a_is_from fd_is_from
  m_is_from : mg "is_from" = some (.ref a_is_from)
  a_is_between : Addr
  fd_is_between : FuncData
  F_is_between : Fun K "is_between" "is_between" s_is_between a_is_between fd_is_between
  m_is_between : mg "is_between" = some (.ref a_is_between)
  a_common : Addr
  fd_common : FuncData
  F_common : Fun K "common" "common" s_common a_common fd_common
  m_common : mg "common" = some (.ref a_common)
  a_multiple : Addr
  fd_multiple : FuncData
  F_multiple : Fun K "multiple" "multiple" s_multiple a_multiple fd_multiple
  m_multiple : mg "multiple" = some (.ref a_multiple)
  a_number_in : Addr
  fd_number_in : FuncData
  F_number_in : Fun K "number_in" "number_in" s_number_in a_number_in fd_number_in
  m_number_in : mg "number_in" = some (.ref a_number_in)
  a_is_fraction : Addr
  fd_is_fraction : FuncData
  F_is_fraction : Fun K "is_fraction" "is_fraction" s_is_fraction a_is_fraction fd_is_fraction
  m_is_fraction : mg "is_fraction" = some (.ref a_is_fraction)
  a_least_terms : Addr
  fd_least_terms : FuncData
  F_least_terms : Fun K "least_terms" "least_terms" s_least_terms a_least_terms fd_least_terms
  m_least_terms : mg "least_terms" = some (.ref a_least_terms)
  a_is_gear : Addr
  fd_is_gear : FuncData
  F_is_gear : Fun K "is_gear" "is_gear" s_is_gear a_is_gear fd_is_gear
  m_is_gear : mg "is_gear" = some (.ref a_is_gear)
  a_need_gears : Addr
  fd_need_gears : FuncData
  F_need_gears : Fun K "need_gears" "need_gears" s_need_gears a_need_gears fd_need_gears
  m_need_gears : mg "need_gears" = some (.ref a_need_gears)
  a_periods_of : Addr
  fd_periods_of : FuncData
  F_periods_of : Fun K "periods_of" "periods_of" s_periods_of a_periods_of fd_periods_of
  m_periods_of : mg "periods_of" = some (.ref a_periods_of)
  a_gear_words : Addr
  fd_gear_words : FuncData
  F_gear_words : Fun K "gear_words" "gear_words" s_gear_words a_gear_words fd_gear_words
  m_gear_words : mg "gear_words" = some (.ref a_gear_words)
  a_take_train : Addr
  fd_take_train : FuncData
  F_take_train : Fun K "take_train" "take_train" s_take_train a_take_train fd_take_train
  m_take_train : mg "take_train" = some (.ref a_take_train)
  a_take_gear : Addr
  fd_take_gear : FuncData
  F_take_gear : Fun K "take_gear" "take_gear" s_take_gear a_take_gear fd_take_gear
  m_take_gear : mg "take_gear" = some (.ref a_take_gear)
  a_take_fraction : Addr
  fd_take_fraction : FuncData
  F_take_fraction : Fun K "take_fraction" "take_fraction" s_take_fraction a_take_fraction fd_take_fraction
  m_take_fraction : mg "take_fraction" = some (.ref a_take_fraction)
  a_pen : Addr
  fd_pen : FuncData
  F_pen : Fun K "_law_pen" "_law_pen" s_pen a_pen fd_pen
  m_pen : mg "_law_pen" = some (.ref a_pen)
  a_draw : Addr
  fd_draw : FuncData
  F_draw : Fun K "_law_draw" "_law_draw" s_draw a_draw fd_draw
  m_draw : mg "_law_draw" = some (.ref a_draw)
  a_pick : Addr
  fd_pick : FuncData
  F_pick : Fun K "_law_pick" "_law_pick" s_pick a_pick fd_pick
  m_pick : mg "_law_pick" = some (.ref a_pick)
  a_shared : Addr
  fd_shared : FuncData
  F_shared : Fun K "_law_shared" "_law_shared" s_shared a_shared fd_shared
  m_shared : mg "_law_shared" = some (.ref a_shared)
  a_lowest : Addr
  fd_lowest : FuncData
  F_lowest : Fun K "_law_lowest" "_law_lowest" s_lowest a_lowest fd_lowest
  m_lowest : mg "_law_lowest" = some (.ref a_lowest)
  a_by_multiple : Addr
  fd_by_multiple : FuncData
  F_by_multiple : Fun K "_law_multiple" "_law_multiple" s_by_multiple a_by_multiple fd_by_multiple
  m_by_multiple : mg "_law_multiple" = some (.ref a_by_multiple)
  a_periods : Addr
  fd_periods : FuncData
  F_periods : Fun K "_law_periods" "_law_periods" s_periods a_periods fd_periods
  m_periods : mg "_law_periods" = some (.ref a_periods)
  a_train : Addr
  fd_train : FuncData
  F_train : Fun K "_law_train" "_law_train" s_train a_train fd_train
  m_train : mg "_law_train" = some (.ref a_train)
  a_fraction : Addr
  fd_fraction : FuncData
  F_fraction : Fun K "_law_fraction" "_law_fraction" s_fraction a_fraction fd_fraction
  m_fraction : mg "_law_fraction" = some (.ref a_fraction)
  a_gears : Addr
  fd_gears : FuncData
  F_gears : Fun K "_law_gears" "_law_gears" s_gears a_gears fd_gears
  m_gears : mg "_law_gears" = some (.ref a_gears)
  a_period : Addr
  fd_period : FuncData
  F_period : Fun K "_law_period" "_law_period" s_period a_period fd_period
  m_period : mg "_law_period" = some (.ref a_period)
  a_text : Addr
  fd_text : FuncData
  F_text : Fun K "_law_text" "_law_text" s_text a_text fd_text
  m_text : mg "_law_text" = some (.ref a_text)
  a_stands : Addr
  fd_stands : FuncData
  F_stands : Fun K "_law_stands" "_law_stands" s_stands a_stands fd_stands
  m_stands : mg "_law_stands" = some (.ref a_stands)
  a_right : Addr
  fd_right : FuncData
  F_right : Fun K "_law_right" "_law_right" s_right a_right fd_right
  m_right : mg "_law_right" = some (.ref a_right)
  a_told_alike : Addr
  fd_told_alike : FuncData
  F_told_alike : Fun K "_law_told_alike" "_law_told_alike" s_told_alike a_told_alike fd_told_alike
  m_told_alike : mg "_law_told_alike" = some (.ref a_told_alike)
  a_law : Addr
  fd_law : FuncData
  F_law : Fun K "law" "law" s_law a_law fd_law
  m_law : mg "law" = some (.ref a_law)
  a_Words_init : Addr
  fd_Words_init : FuncData
  F_Words_init : FunD K "__init__" "Words.__init__" (defArgs s_Words_init) (defBody s_Words_init) (defScope s_Words_init) [V.int 0] [] a_Words_init fd_Words_init
  a_Words_upcoming : Addr
  fd_Words_upcoming : FuncData
  F_Words_upcoming : Fun K "upcoming" "Words.upcoming" s_Words_upcoming a_Words_upcoming fd_Words_upcoming
  a_Words_take : Addr
  fd_Words_take : FuncData
  F_Words_take : Fun K "take" "Words.take" s_Words_take a_Words_take fd_Words_take
  a_Words_take_number : Addr
  fd_Words_take_number : FuncData
  F_Words_take_number : Fun K "take_number" "Words.take_number" s_Words_take_number a_Words_take_number fd_Words_take_number
  a_Words_finish : Addr
  fd_Words_finish : FuncData
  F_Words_finish : Fun K "finish" "Words.finish" s_Words_finish a_Words_finish fd_Words_finish
  a_Train_init : Addr
  fd_Train_init : FuncData
  F_Train_init : FunD K "__init__" "Train.__init__" (defArgs s_Train_init) (defBody s_Train_init) (defScope s_Train_init) [] [("slip", V.ref slD)] a_Train_init fd_Train_init
  a_Train_read : Addr
  fd_Train_read : FuncData
  F_Train_read : Fun K "read" "Train.read" s_Train_read a_Train_read fd_Train_read
  a_Train_again : Addr
  fd_Train_again : FuncData
  F_Train_again : Fun K "again" "Train.again" s_Train_again a_Train_again fd_Train_again
  a_Train_len : Addr
  fd_Train_len : FuncData
  F_Train_len : Fun K "__len__" "Train.__len__" s_Train_len a_Train_len fd_Train_len
  a_Train_iter : Addr
  fd_Train_iter : FuncData
  F_Train_iter : Fun K "__iter__" "Train.__iter__" s_Train_iter a_Train_iter fd_Train_iter
  a_Train_getitem : Addr
  fd_Train_getitem : FuncData
  F_Train_getitem : Fun K "__getitem__" "Train.__getitem__" s_Train_getitem a_Train_getitem fd_Train_getitem
  a_Train_add : Addr
  fd_Train_add : FuncData
  F_Train_add : Fun K "__add__" "Train.__add__" s_Train_add a_Train_add fd_Train_add
  a_Train_eq : Addr
  fd_Train_eq : FuncData
  F_Train_eq : Fun K "__eq__" "Train.__eq__" s_Train_eq a_Train_eq fd_Train_eq
  a_Train_str : Addr
  fd_Train_str : FuncData
  F_Train_str : Fun K "__str__" "Train.__str__" s_Train_str a_Train_str fd_Train_str
  a_Train_stands : Addr
  fd_Train_stands : FuncData
  F_Train_stands : Fun K "stands" "Train.stands" s_Train_stands a_Train_stands fd_Train_stands
  m_gcd : mg "gcd" = some (.builtin "math.gcd")
  n_ValueError : mg "ValueError" = none
  n_abs : mg "abs" = none
  n_bool : mg "bool" = none
  n_enumerate : mg "enumerate" = none
  n_int : mg "int" = none
  n_isinstance : mg "isinstance" = none
  n_iter : mg "iter" = none
  n_len : mg "len" = none
  n_list : mg "list" = none
  n_max : mg "max" = none
  n_property : mg "property" = none
  n_range : mg "range" = none
  n_repr : mg "repr" = none
  n_staticmethod : mg "staticmethod" = none
  n_str : mg "str" = none
  n_tuple : mg "tuple" = none
  u_MD : Value
  m_MD : mg "MOST_DIGITS" = some u_MD
  r_MD : RelV (.int 120) u_MD
  u_MP : Value
  m_MP : mg "MOST_PART" = some u_MP
  r_MP : RelV (.int 1000000) u_MP
  u_MT : Value
  m_MT : mg "MOST_TEETH" = some u_MT
  r_MT : RelV (.int 1000) u_MT
  u_MG : Value
  m_MG : mg "MOST_GEARS" = some u_MG
  r_MG : RelV (.int 6) u_MG
  wcls : Cls K a_Words
  wmk : Mk K a_Words a_Words_init
  w_upcoming : Meth K a_Words "upcoming" a_Words_upcoming
  w_take : Meth K a_Words "take" a_Words_take
  w_take_number : Meth K a_Words "take_number" a_Words_take_number
  w_finish : Meth K a_Words "finish" a_Words_finish
  w_na : ∀ y ∈ (["words", "line", "at"] : List Str), NoAttr K a_Words y
  tcls : Cls K a_Train
  tmk : Mk K a_Train a_Train_init
  t_stands : Meth K a_Train "stands" a_Train_stands
  t_na : ∀ y ∈ (["_gears", "periods", "slips", "unit"] : List Str), NoAttr K a_Train y
  kiT : ∀ (H : Hp) (a dx : Addr) (fs : List (Str × V)), H a = some (.ins a_Train dx fs) → TyX K H (.ref a) (.ref a_Train)
  kTT : PySem.W.kitOne K (.ref a_Train) (.ref a_Train) = some true
  kSt : PySem.W.kitOne K (.type "str") (.ref a_Train) = some false
  nfT : PySem.W.notFirst K a_Train (.ref a_Train) = true
  nfS : PySem.W.notFirst K a_Train (.type "str") = true
  mroO : PySem.W.mroIn K a_Train (.type "object") = some true
  fi_eq : PySem.W.findIn K (.ref a_Train) "__eq__" = some (some (.ref a_Train_eq))
  fi_ne : PySem.W.findIn K (.ref a_Train) "__ne__" = some (some (.builtin "object.__ne__"))
  fn_eq : PySem.W.isFn K (.ref a_Train_eq) = true
  addO : OwnBinT K a_Train a_Train_add .Add "tuple"
  p_again : Addr
  pr_again : PropOf K a_Train "again" p_again a_Train_again
  fi_len : PySem.W.findIn K (.ref a_Train) "__len__" = some (some (.ref a_Train_len))
  fn_len : PySem.W.isFn K (.ref a_Train_len) = true
  fi_iter : PySem.W.findIn K (.ref a_Train) "__iter__" = some (some (.ref a_Train_iter))
  fn_iter : PySem.W.isFn K (.ref a_Train_iter) = true
  fi_get : PySem.W.findIn K (.ref a_Train) "__getitem__" = some (some (.ref a_Train_getitem))
  fn_get : PySem.W.isFn K (.ref a_Train_getitem) = true
  fi_str : PySem.W.findIn K (.ref a_Train) "__str__" = some (some (.ref a_Train_str))
  fn_str : PySem.W.isFn K (.ref a_Train_str) = true
  rdT : ClX.CRead K a_Train (.type "type")
  st_read : CStat K a_Train (.type "type") "read" p_read a_Train_read
section
variable {P : Program} {w : World} {K : PySem.W.Frag} {mg : Str → Option Value} {base : Heap}
theorem b_is_whole (T : Txt K mg) : Binds K T.fd_is_whole ["value"] [] := T.F_is_whole.binds (ps := ["value"]) fun _ _ _ _ _ _ us hl => match us, hl with | [_], _ => rfl
theorem b_is_from (T : Txt K mg) : Binds K T.fd_is_from ["value", "low"] [] := T.F_is_from.binds (ps := ["value", "low"]) fun _ _ _ _ _ _ us hl => match us, hl with | [_, _], _ => rfl
theorem b_is_between (T : Txt K mg) : Binds K T.fd_is_between ["value", "low", "high"] [] := T.F_is_between.binds (ps := ["value", "low", "high"]) fun _ _ _ _ _ _ us hl => match us, hl with | [_, _, _], _ => rfl
theorem b_number_in (T : Txt K mg) : Binds K T.fd_number_in ["word"] [] := T.F_number_in.binds (ps := ["word"]) fun _ _ _ _ _ _ us hl => match us, hl with | [_], _ => rfl
theorem b_is_fraction (T : Txt K mg) : Binds K T.fd_is_fraction ["value"] [] := T.F_is_fraction.binds (ps := ["value"]) fun _ _ _ _ _ _ us hl => match us, hl with | [_], _ => rfl
theorem b_least_terms (T : Txt K mg) : Binds K T.fd_least_terms ["top", "bottom"] [] := T.F_least_terms.binds (ps := ["top", "bottom"]) fun _ _ _ _ _ _ us hl => match us, hl with | [_, _], _ => rfl
theorem b_is_gear (T : Txt K mg) : Binds K T.fd_is_gear ["value", "ahead"] [] := T.F_is_gear.binds (ps := ["value", "ahead"]) fun _ _ _ _ _ _ us hl => match us, hl with | [_, _], _ => rfl
theorem b_need_gears (T : Txt K mg) : Binds K T.fd_need_gears ["gears"] [] := T.F_need_gears.binds (ps := ["gears"]) fun _ _ _ _ _ _ us hl => match us, hl with | [_], _ => rfl
theorem b_periods_of (T : Txt K mg) : Binds K T.fd_periods_of ["period", "gears"] [] := T.F_periods_of.binds (ps := ["period", "gears"]) fun _ _ _ _ _ _ us hl => match us, hl with | [_, _], _ => rfl
theorem b_gear_words (T : Txt K mg) : Binds K T.fd_gear_words ["gear"] [] := T.F_gear_words.binds (ps := ["gear"]) fun _ _ _ _ _ _ us hl => match us, hl with | [_], _ => rfl
theorem b_take_train (T : Txt K mg) : Binds K T.fd_take_train ["words"] [] := T.F_take_train.binds (ps := ["words"]) fun _ _ _ _ _ _ us hl => match us, hl with | [_], _ => rfl
theorem b_take_gear (T : Txt K mg) : Binds K T.fd_take_gear ["words", "last"] [] := T.F_take_gear.binds (ps := ["words", "last"]) fun _ _ _ _ _ _ us hl => match us, hl with | [_, _], _ => rfl
theorem b_take_fraction (T : Txt K mg) : Binds K T.fd_take_fraction ["words"] [] := T.F_take_fraction.binds (ps := ["words"]) fun _ _ _ _ _ _ us hl => match us, hl with | [_], _ => rfl
theorem b_pen (T : Txt K mg) : Binds K T.fd_pen ["_law_script"] [] := T.F_pen.binds (ps := ["_law_script"]) fun _ _ _ _ _ _ us hl => match us, hl with | [_], _ => rfl
theorem b_draw (T : Txt K mg) : Binds K T.fd_draw ["_law_pen_here", "_law_many"] [] := T.F_draw.binds (ps := ["_law_pen_here", "_law_many"]) fun _ _ _ _ _ _ us hl => match us, hl with | [_, _], _ => rfl
theorem b_pick (T : Txt K mg) : Binds K T.fd_pick ["_law_pen_here", "_law_some"] [] := T.F_pick.binds (ps := ["_law_pen_here", "_law_some"]) fun _ _ _ _ _ _ us hl => match us, hl with | [_, _], _ => rfl
theorem b_shared (T : Txt K mg) : Binds K T.fd_shared ["_law_one", "_law_other"] [] := T.F_shared.binds (ps := ["_law_one", "_law_other"]) fun _ _ _ _ _ _ us hl => match us, hl with | [_, _], _ => rfl
theorem b_lowest (T : Txt K mg) : Binds K T.fd_lowest ["_law_top", "_law_bottom"] [] := T.F_lowest.binds (ps := ["_law_top", "_law_bottom"]) fun _ _ _ _ _ _ us hl => match us, hl with | [_, _], _ => rfl
theorem b_by_multiple (T : Txt K mg) : Binds K T.fd_by_multiple ["_law_numbers"] [] := T.F_by_multiple.binds (ps := ["_law_numbers"]) fun _ _ _ _ _ _ us hl => match us, hl with | [_], _ => rfl
theorem b_periods (T : Txt K mg) : Binds K T.fd_periods ["_law_period_here", "_law_gears_here"] [] := T.F_periods.binds (ps := ["_law_period_here", "_law_gears_here"]) fun _ _ _ _ _ _ us hl => match us, hl with | [_, _], _ => rfl
theorem b_train (T : Txt K mg) : Binds K T.fd_train ["_law_period_here", "_law_slip", "_law_gears_here"] [] := T.F_train.binds (ps := ["_law_period_here", "_law_slip", "_law_gears_here"]) fun _ _ _ _ _ _ us hl => match us, hl with | [_, _, _], _ => rfl
theorem b_fraction (T : Txt K mg) : Binds K T.fd_fraction ["_law_pen_here"] [] := T.F_fraction.binds (ps := ["_law_pen_here"]) fun _ _ _ _ _ _ us hl => match us, hl with | [_], _ => rfl
theorem b_gears (T : Txt K mg) : Binds K T.fd_gears ["_law_pen_here", "_law_many"] [] := T.F_gears.binds (ps := ["_law_pen_here", "_law_many"]) fun _ _ _ _ _ _ us hl => match us, hl with | [_, _], _ => rfl
theorem b_period (T : Txt K mg) : Binds K T.fd_period ["_law_pen_here"] [] := T.F_period.binds (ps := ["_law_pen_here"]) fun _ _ _ _ _ _ us hl => match us, hl with | [_], _ => rfl
theorem b_text (T : Txt K mg) : Binds K T.fd_text ["_law_period_here", "_law_slip", "_law_gears_here"] [] := T.F_text.binds (ps := ["_law_period_here", "_law_slip", "_law_gears_here"]) fun _ _ _ _ _ _ us hl => match us, hl with | [_, _, _], _ => rfl
theorem b_stands (T : Txt K mg) : Binds K T.fd_stands ["_law_periods_here", "_law_value"] [] := T.F_stands.binds (ps := ["_law_periods_here", "_law_value"]) fun _ _ _ _ _ _ us hl => match us, hl with | [_, _], _ => rfl
theorem b_right (T : Txt K mg) : Binds K T.fd_right ["_law_pen_here"] [] := T.F_right.binds (ps := ["_law_pen_here"]) fun _ _ _ _ _ _ us hl => match us, hl with | [_], _ => rfl
theorem b_told_alike (T : Txt K mg) : Binds K T.fd_told_alike ["_law_pen_here", "_law_train_here", "_law_parts"] [] := T.F_told_alike.binds (ps := ["_law_pen_here", "_law_train_here", "_law_parts"]) fun _ _ _ _ _ _ us hl => match us, hl with | [_, _, _], _ => rfl
theorem b_law (T : Txt K mg) : Binds K T.fd_law ["_law_script"] [] := T.F_law.binds (ps := ["_law_script"]) fun _ _ _ _ _ _ us hl => match us, hl with | [_], _ => rfl
theorem b_Words_upcoming (T : Txt K mg) : Binds K T.fd_Words_upcoming ["self"] [] := T.F_Words_upcoming.binds (ps := ["self"]) fun _ _ _ _ _ _ us hl => match us, hl with | [_], _ => rfl
theorem b_Words_take_number (T : Txt K mg) : Binds K T.fd_Words_take_number ["self", "low", "high"] [] := T.F_Words_take_number.binds (ps := ["self", "low", "high"]) fun _ _ _ _ _ _ us hl => match us, hl with | [_, _, _], _ => rfl
theorem b_Words_finish (T : Txt K mg) : Binds K T.fd_Words_finish ["self"] [] := T.F_Words_finish.binds (ps := ["self"]) fun _ _ _ _ _ _ us hl => match us, hl with | [_], _ => rfl
theorem b_Train_read (T : Txt K mg) : Binds K T.fd_Train_read ["text"] [] := T.F_Train_read.binds (ps := ["text"]) fun _ _ _ _ _ _ us hl => match us, hl with | [_], _ => rfl
theorem b_Train_again (T : Txt K mg) : Binds K T.fd_Train_again ["self"] [] := T.F_Train_again.binds (ps := ["self"]) fun _ _ _ _ _ _ us hl => match us, hl with | [_], _ => rfl
theorem b_Train_len (T : Txt K mg) : Binds K T.fd_Train_len ["self"] [] := T.F_Train_len.binds (ps := ["self"]) fun _ _ _ _ _ _ us hl => match us, hl with | [_], _ => rfl
theorem b_Train_iter (T : Txt K mg) : Binds K T.fd_Train_iter ["self"] [] := T.F_Train_iter.binds (ps := ["self"]) fun _ _ _ _ _ _ us hl => match us, hl with | [_], _ => rfl
theorem b_Train_getitem (T : Txt K mg) : Binds K T.fd_Train_getitem ["self", "at"] [] := T.F_Train_getitem.binds (ps := ["self", "at"]) fun _ _ _ _ _ _ us hl => match us, hl with | [_, _], _ => rfl
theorem b_Train_add (T : Txt K mg) : Binds K T.fd_Train_add ["self", "other"] [] := T.F_Train_add.binds (ps := ["self", "other"]) fun _ _ _ _ _ _ us hl => match us, hl with | [_, _], _ => rfl
theorem b_Train_eq (T : Txt K mg) : Binds K T.fd_Train_eq ["self", "other"] [] := T.F_Train_eq.binds (ps := ["self", "other"]) fun _ _ _ _ _ _ us hl => match us, hl with | [_, _], _ => rfl
theorem b_Train_str (T : Txt K mg) : Binds K T.fd_Train_str ["self"] [] := T.F_Train_str.binds (ps := ["self"]) fun _ _ _ _ _ _ us hl => match us, hl with | [_], _ => rfl
theorem b_Train_stands (T : Txt K mg) : Binds K T.fd_Train_stands ["self", "value"] [] := T.F_Train_stands.binds (ps := ["self", "value"]) fun _ _ _ _ _ _ us hl => match us, hl with | [_, _], _ => rfl

def spWhole : Sp := fun vs H Q _ => ∃ (v : V) (t : String), vs = [v] ∧ NT H v t ∧ Q (.bl (t == "int")) H
theorem ok_is_whole (T : Txt K mg) : FnOk P w K mg base CX0 1 T.a_is_whole T.fd_is_whole ["value"] spWhole := by
  refine T.F_is_whole.ok sc_is_whole (fun vs H Q E h => ?_) (fun cdv A outer s H vs Q E hr h => ?_)
  · obtain ⟨v, t, rfl, _⟩ := h; rfl
  · obtain ⟨v, t, rfl, ht, k⟩ := h
    obtain ⟨b1, b2, h1, h2, h3⟩ := ht.kit
    refine ⟨_, pss_one (ps_ret (pe_and (pe_callB call_isi (by rfl) T.n_isinstance (by decide +kernel) (pa_cons (pv 0) (pa_cons (pe_bltn (v := .ty "int") (u := .type "int") (by rfl) T.n_int (by decide +kernel) rfl) (pa_nil)))) (pe_one (pe_not (pe_callB call_isi (by rfl) T.n_isinstance (by decide +kernel) (pa_cons (pv 0) (pa_cons (pe_bltn (v := .ty "bool") (u := .type "bool") (by rfl) T.n_bool (by decide +kernel) rfl) (pa_nil)))))))), ?_⟩
    refine ⟨_, rfl, v, .ty "int", .type t, .type "int", b1, rfl, .ty _, ht.ty, kit_ty h1, b1, rfl, ?_⟩
    rw [← h3] at k
    cases b1 with
    | false => exact iteF k
    | true => exact iteT ⟨_, rfl, v, .ty "bool", .type t, .type "bool", b2, rfl, .ty _, ht.ty, kit_ty h2, b2, rfl, k⟩

/-- whether v is an integer between the two -/
def betB (lo hi : Int) : V → Bool
  | .int i => decide (lo ≤ i ∧ i ≤ hi)
  | _ => false
def spBetI : Sp := fun vs H Q _ => ∃ (v lo hi : Int), vs = [.int v, .int lo, .int hi] ∧ lo ≤ v ∧ v ≤ hi ∧ Q (.bl true) H
theorem ok_is_between (T : Txt K mg) : FnOk P w K mg base CX0 2 T.a_is_between T.fd_is_between ["value", "low", "high"] spBetI := by
  refine T.F_is_between.ok sc_is_between (fun vs H Q E h => ?_) (fun cdv A outer s H vs Q E hr h => ?_)
  · obtain ⟨v, lo, hi, rfl, _⟩ := h; rfl
  · obtain ⟨v, lo, hi, rfl, h1, h2, k⟩ := h
    refine ⟨_, pss_one (ps_ret (pe_and (pe_call (ok_is_whole T) (hr.mono (by decide)) rfl T.m_is_whole T.F_is_whole.kp (b_is_whole T) .nil pass0 (pa_cons (pv 0) (pa_nil))) (pe_one (pe_chain op_le op_le (pv 1) (pv 0) (pv 2))))), ?_⟩
    refine ⟨_, rfl, .int v, "int", rfl, .int v, true, rfl, iteT ⟨_, rfl, _, rfl, _, _, rfl, rfl, _, rfl, ?_⟩⟩
    refine if_true_of (decide_eq_true h1) ⟨_, rfl, _, _, rfl, rfl, ?_⟩
    show Q (.bl (decide (v ≤ hi))) H
    rw [decide_eq_true h2]
    exact k
def spFrom : Sp := fun vs H Q _ => ∃ (v lo : Int), vs = [.int v, .int lo] ∧ lo ≤ v ∧ Q (.bl true) H
theorem ok_is_from (T : Txt K mg) : FnOk P w K mg base CX0 2 T.a_is_from T.fd_is_from ["value", "low"] spFrom := by
  refine T.F_is_from.ok sc_is_from (fun vs H Q E h => ?_) (fun cdv A outer s H vs Q E hr h => ?_)
  · obtain ⟨v, lo, rfl, _⟩ := h; rfl
  · obtain ⟨v, lo, rfl, h1, k⟩ := h
    refine ⟨_, pss_one (ps_ret (pe_and (pe_call (ok_is_whole T) (hr.mono (by decide)) rfl T.m_is_whole T.F_is_whole.kp (b_is_whole T) .nil pass0 (pa_cons (pv 0) (pa_nil))) (pe_one (pe_cmpR op_ge (pv 0) (pv 1) (nomark _))))), ?_⟩
    refine ⟨_, rfl, .int v, "int", rfl, .int v, true, rfl, iteT ⟨_, rfl, _, rfl, _, _, rfl, rfl, ?_⟩⟩
    show Q (.bl (decide (lo ≤ v))) H
    rw [decide_eq_true h1]
    exact k
theorem map_get {ns : List Int} {i : Nat} {y : V} (hi : (ns.map V.int)[i]? = some y) : ∃ z, ns[i]? = some z ∧ y = V.int z := by
  rw [List.getElem?_map] at hi
  cases e : ns[i]? with
  | none => rw [e] at hi; cases hi
  | some z => rw [e] at hi; exact ⟨z, rfl, (Option.some.inj hi).symm⟩
def spCommon : Sp := fun vs H Q _ => ∃ ns : List Int, vs = ns.map V.int ∧ ∀ H', Same H H' → Q (.int (NM.gcdL ns)) H'
theorem ok_common (T : Txt K mg) : FnR P w K mg base CX0 4 T.a_common (fun vs H Q E => vs.length ≤ sizeLine ∧ spCommon vs H Q E) := by
  refine star_ok T.F_common sc_common (fun _ _ _ _ _ _ rest => ?_) (fun cdv A outer s H vs p H0 Q E hr h hl hp eH => ?_)
  · cases rest <;> rfl
  · subst eH
    have s0 : Same H0 (upd H0 p (.tup vs)) := same_new hp
    have hT : SqT K (upd H0 p (.tup vs)) p vs := SqT.of upd_same
    generalize upd H0 p (.tup vs) = H at s0 hT ⊢
    refine ⟨_, pss_cons (ps_for PassesOwn.never rfl (pi_tup (pv 0)) (pg_name (i := 1) sc_common.nd rfl (Or.inl rfl)) (pss_one (ps_if (pt_not (pt_val (pe_call (ok_is_whole T) (hr.mono (by decide)) rfl T.m_is_whole T.F_is_whole.kp (b_is_whole T) .nil pass0 (pa_cons (pv 1) (pa_nil))))) (pss_one (ps_never)) (pss_nil))))
      (pss_cons (ps_set (i := 2) sc_common.nd rfl (Or.inl rfl) (pe_int))
      (pss_cons (ps_for PassesOwn.never rfl (pi_tup (pv 0)) (pg_name (i := 1) sc_common.nd rfl (Or.inl rfl)) (pss_one (ps_set (i := 2) sc_common.nd rfl (Or.inl rfl) (pe_callBfun cr_gcd (by rfl) T.m_gcd (pa_cons (pv 2) (pa_cons (pv 1) (pa_nil)))))))
      (pss_one (ps_ret (pv 2))))), ?_⟩
    obtain ⟨ns, rfl, k⟩ := h
    refine ⟨_, rfl, p, rfl, ⟨_, hT⟩, for_tup (K := K) (a := p) (xs := ns.map V.int) (fun i σ H' => H' = H ∧ ∃ v, σ = [some (.ref p), v, Option.none]) ⟨rfl, Option.none, rfl⟩ (fun _ _ _ _ h => h.1 ▸ hT) ?_ ?_⟩
    · rintro i y σ H' hi ⟨rfl, v, rfl⟩
      obtain ⟨z, hz, rfl⟩ := map_get hi
      exact ⟨_, rfl, _, _, rfl, .int z, true, rfl, iteF ⟨rfl, _, rfl⟩⟩
    · rintro σ H' ⟨rfl, v, rfl⟩
      refine ⟨_, rfl, p, rfl, ⟨_, hT⟩, for_tup (K := K) (a := p) (xs := ns.map V.int) (fun i σ H2 => H2 = H' ∧ ∃ v, σ = [some (.ref p), v, some (.int (NM.gcdL (ns.take i)))]) ⟨rfl, _, rfl⟩ (fun _ _ _ _ h => h.1 ▸ hT) ?_ ?_⟩
      · rintro i y σ H2 hi ⟨rfl, v, rfl⟩
        obtain ⟨z, hz, rfl⟩ := map_get hi
        refine ⟨_, rfl, _, rfl, _, _, rfl, rfl, some (.int z), ?_⟩
        rw [NM.take_snoc hz, NM.gcdL_snoc]
        rfl
      · rintro σ H2 ⟨rfl, v, rfl⟩
        rw [List.length_map, List.take_length]
        exact ⟨_, rfl, k _ s0⟩
/-- a size in bits -/
theorem lcmL_size {b : Nat} (l : List Int) (h : ∀ z ∈ l, 0 < z ∧ z.natAbs < 2 ^ b) : NM.lcmL l ≤ 2 ^ (b * l.length) := by
  suffices ∀ (l : List Int) (a : Nat), 0 < a → (∀ z ∈ l, 0 < z ∧ z.natAbs < 2 ^ b) → l.foldl (fun g n => Nat.lcm g n.natAbs) a ≤ a * 2 ^ (b * l.length) from by
    have q := this l 1 (by decide) h
    rw [Nat.one_mul] at q
    exact q
  intro l
  induction l with
  | nil => intro a ha _; simp
  | cons z l ih =>
    intro a ha h
    have hz := h z List.mem_cons_self
    have hp : 0 < Nat.lcm a z.natAbs := Nat.lcm_pos ha (by omega)
    refine Nat.le_trans (ih _ hp fun y hy => h y (List.mem_cons_of_mem _ hy)) ?_
    rw [List.length_cons, Nat.mul_add, Nat.mul_one, Nat.pow_add, Nat.mul_comm (2 ^ (b * l.length)), ← Nat.mul_assoc]
    refine Nat.mul_le_mul_right _ (Nat.le_trans (NM.lcm_le_mul ha (by omega)) (Nat.mul_le_mul_left _ (Nat.le_of_lt hz.2)))
/-- one step, of the program and of the law -/
theorem lcm_next {ns : List Int} {i : Nat} {z : Int} (hns : ∀ z ∈ ns, 0 < z ∧ z.natAbs < 2 ^ 100) (hlen : ns.length ≤ 60) (hz : ns[i]? = some z) :
    CDivW ((NM.lcmL (ns.take i) : Nat) : Int) ((Nat.gcd (NM.lcmL (ns.take i)) z.natAbs : Nat) : Int) ∧ CMulW (((NM.lcmL (ns.take i) : Nat) : Int) / ((Nat.gcd (NM.lcmL (ns.take i)) z.natAbs : Nat) : Int)) z ∧ ((NM.lcmL (ns.take i) : Nat) : Int) / ((Nat.gcd (NM.lcmL (ns.take i)) z.natAbs : Nat) : Int) * z = ((NM.lcmL (ns.take (i + 1)) : Nat) : Int) ∧ 0 < NM.lcmL (ns.take i) := by
  have h1 := hns z (List.mem_of_getElem? hz)
  have hsub : ∀ y ∈ ns.take i, 0 < y ∧ y.natAbs < 2 ^ 100 := fun y hy => hns y (List.mem_of_mem_take hy)
  have hp : 0 < NM.lcmL (ns.take i) := NM.lcmL_pos fun y hy => (hsub y hy).1
  have hsz := lcmL_size (b := 100) (ns.take i) hsub
  have hl : (ns.take i).length ≤ 60 := by rw [List.length_take]; omega
  have hsz2 : NM.lcmL (ns.take i) < 2 ^ 6001 := Nat.lt_of_le_of_lt hsz (Nat.pow_lt_pow_right (by decide) (by omega))
  have hgp : 0 < Nat.gcd (NM.lcmL (ns.take i)) z.natAbs := Nat.gcd_pos_of_pos_left _ hp
  have hgl : Nat.gcd (NM.lcmL (ns.take i)) z.natAbs ≤ z.natAbs := Nat.le_of_dvd (by omega) (Nat.gcd_dvd_right _ _)
  refine ⟨wide_div (b := 100) (by show (0 : Int) < ((Nat.gcd (NM.lcmL (ns.take i)) z.natAbs : Nat) : Int); omega) (Nat.lt_of_le_of_lt hgl h1.2) (by decide) (by decide), ?_, ?_, hp⟩
  · refine wide_mul (a := 6001) (b := 100) ?_ h1.2 (by decide) (by decide) (by decide)
    refine Nat.lt_of_le_of_lt ?_ hsz2
    rw [← Int.natCast_ediv, Int.natAbs_natCast]
    exact Nat.div_le_self _ _
  · rw [NM.take_snoc hz, NM.lcmL_snoc]
    have e := NM.lcm_step (f := (NM.lcmL (ns.take i) : Int)) (n := z) (by omega) h1.1
    rw [show ((Nat.gcd (NM.lcmL (ns.take i)) z.natAbs : Nat) : Int) = ((Nat.gcd ((NM.lcmL (ns.take i) : Nat) : Int).natAbs z.natAbs : Nat) : Int) from rfl, e]
    rfl
theorem rI_mulW {i j k : Int} {H : Hp} {Q : VK} (e : i * j = k) (c : CMulW i j) (h : Q (.int k) H) : rI CMulW (fun i j => V.int (i * j)) (.int i) (.int j) H Q := ⟨i, j, rfl, rfl, c, by show Q (.int (i * j)) H; rw [e]; exact h⟩
theorem rI_divW {i j k : Int} {H : Hp} {Q : VK} (e : i / j = k) (c : CDivW i j) (h : Q (.int k) H) : rI CDivW (fun i j => V.int (i / j)) (.int i) (.int j) H Q := ⟨i, j, rfl, rfl, c, by show Q (.int (i / j)) H; rw [e]; exact h⟩
def spMultiple : Sp := fun vs H Q _ => ∃ ns : List Int, vs = ns.map V.int ∧ (∀ z ∈ ns, 0 < z ∧ z.natAbs < 2 ^ 100) ∧ ns.length ≤ 60 ∧ ∀ H', Same H H' → Q (.int (NM.lcmL ns)) H'
theorem ok_multiple (T : Txt K mg) : FnR P w K mg base CX0 4 T.a_multiple (fun vs H Q E => vs.length ≤ sizeLine ∧ spMultiple vs H Q E) := by
  refine star_ok T.F_multiple sc_multiple (fun _ _ _ _ _ _ rest => ?_) (fun cdv A outer s H vs p H0 Q E hr h hl hp eH => ?_)
  · cases rest <;> rfl
  · subst eH
    have s0 : Same H0 (upd H0 p (.tup vs)) := same_new hp
    have hT : SqT K (upd H0 p (.tup vs)) p vs := SqT.of upd_same
    generalize upd H0 p (.tup vs) = H at s0 hT ⊢
    refine ⟨_, pss_cons (ps_for PassesOwn.never rfl (pi_tup (pv 0)) (pg_name (i := 1) sc_multiple.nd rfl (Or.inl rfl)) (pss_one (ps_if (pt_not (pt_val (pe_call (ok_is_from T) (hr.mono (by decide)) rfl T.m_is_from T.F_is_from.kp (b_is_from T) .nil pass0 (pa_cons (pv 1) (pa_cons (pe_int) (pa_nil)))))) (pss_one (ps_never)) (pss_nil))))
      (pss_cons (ps_set (i := 2) sc_multiple.nd rfl (Or.inl rfl) (pe_int))
      (pss_cons (ps_for PassesOwn.never rfl (pi_tup (pv 0)) (pg_name (i := 1) sc_multiple.nd rfl (Or.inl rfl)) (pss_one (ps_set (i := 2) sc_multiple.nd rfl (Or.inl rfl) (pe_op op_mulW (pe_op op_fdivW (pv 2) (pe_callBfun cr_gcd (by rfl) T.m_gcd (pa_cons (pv 2) (pa_cons (pv 1) (pa_nil))))) (pv 1)))))
      (pss_one (ps_ret (pv 2))))), ?_⟩
    obtain ⟨ns, rfl, hns, hlen, k⟩ := h
    refine ⟨_, rfl, p, rfl, ⟨_, hT⟩, for_tup (K := K) (a := p) (xs := ns.map V.int) (fun i σ H' => H' = H ∧ ∃ v, σ = [some (.ref p), v, Option.none]) ⟨rfl, Option.none, rfl⟩ (fun _ _ _ _ h => h.1 ▸ hT) ?_ ?_⟩
    · rintro i y σ H' hi ⟨rfl, v, rfl⟩
      obtain ⟨z, hz, rfl⟩ := map_get hi
      have h1 := hns z (List.mem_of_getElem? hz)
      exact ⟨_, rfl, z, 1, rfl, (by omega), true, rfl, iteF ⟨rfl, _, rfl⟩⟩
    · rintro σ H' ⟨rfl, v, rfl⟩
      refine ⟨_, rfl, p, rfl, ⟨_, hT⟩, for_tup (K := K) (a := p) (xs := ns.map V.int) (fun i σ H2 => H2 = H' ∧ ∃ v, σ = [some (.ref p), v, some (.int (NM.lcmL (ns.take i)))]) ⟨rfl, _, rfl⟩ (fun _ _ _ _ h => h.1 ▸ hT) ?_ ?_⟩
      · rintro i y σ H2 hi ⟨rfl, v, rfl⟩
        obtain ⟨z, hz, rfl⟩ := map_get hi
        obtain ⟨c1, c2, e, _⟩ := lcm_next hns hlen hz
        refine ⟨_, rfl, _, rfl, _, rfl, _, _, rfl, rI_divW rfl c1 ⟨_, rfl, rI_mulW e c2 ?_⟩⟩
        exact ⟨rfl, some (.int z), rfl⟩
      · rintro σ H2 ⟨rfl, v, rfl⟩
        rw [List.length_map, List.take_length]
        exact ⟨_, rfl, k _ s0⟩

def optI : Option Int → V
  | some n => .int n
  | Option.none => .non
def spNumber : Sp := fun vs H Q _ => ∃ w : Str, vs = [.str w] ∧ w.length ≤ sizeLine ∧ Q (optI (NX.numG w)) H
theorem numG_no {w : Str} (h : ¬ (NX.canon (TL.tl w) = true ∧ (TL.tl w).length ≤ 120)) : optI (NX.numG w) = .non := by
  unfold NX.numG
  rw [if_neg h]
  rfl
theorem ok_number_in (T : Txt K mg) : FnOk P w K mg base CX0 1 T.a_number_in T.fd_number_in ["word"] spNumber := by
  refine T.F_number_in.ok sc_number_in (fun vs H Q E h => ?_) (fun cdv A outer s H vs Q E hr h => ?_)
  · obtain ⟨z, rfl, _⟩ := h; rfl
  · obtain ⟨z, rfl, hz, k⟩ := h
    refine ⟨_, pss_cons (ps_if (PW.pt (pw_or (pt_not (pt_val (pe_m0 PySem.F.slot_str_isascii PySem.F.type_str_isascii mt_isascii (pv 0)))) (pw_or (pt_not (pt_val (pe_m0 PySem.F.slot_str_isdigit PySem.F.type_str_isdigit mt_isdigit (pv 0)))) (pw_or1 (pt_cmpR op_gt (pe_callB call_len_str (by rfl) T.n_len (by decide +kernel) (pa_cons (pv 0) (pa_nil))) (pe_glob (v := .int 120) rfl T.m_MD T.r_MD) (nomark _)))))) (pss_one (ps_ret (pe_non))) (pss_nil))
      (C8.pss_cut (ps_if (PW.pt (pw_and (pt_cmpR op_eq (pe_ix ix_str (pv 0) (pe_int) (fun _ _ => rfl)) (pe_str) (nomark _)) (pw_and1 (pt_cmpR op_gt (pe_callB call_len_str (by rfl) T.n_len (by decide +kernel) (pa_cons (pv 0) (pa_nil))) (pe_int) (nomark _))))) (pss_one (ps_ret (pe_non))) (pss_nil))
      (pss_one (ps_ret (pe_callTy call_int_str (by rfl) T.n_int (by decide +kernel) (pa_cons (pv 0) (pa_nil)))))), ?_⟩
    have AD := NX.ascii_digits z
    have dig : ∀ {b : Bool}, (Txt.isascii z && Txt.isdigit z) = false → optI (NX.numG z) = .non := fun {b} h => numG_no fun c => by
      rw [h] at AD
      have c1 := NX.canon_dig c.1
      have c2 := NX.canon_ne c.1
      rw [c1, Bool.and_true] at AD
      cases q : TL.tl z with
      | nil => exact c2 q
      | cons _ _ => rw [q] at AD; cases AD
    refine ⟨_, rfl, ⟨z, rfl⟩, z, rfl, rfl, trivial, _, rfl, ?_⟩
    cases e1 : Txt.isascii z with
    | false =>
      refine if_true_of rfl (if_true_of rfl ?_)
      rw [dig (b := true) (by rw [e1]; rfl)] at k
      exact k
    | true =>
      refine if_false_of rfl ⟨_, rfl, ⟨z, rfl⟩, z, rfl, rfl, trivial, _, rfl, ?_⟩
      cases e2 : Txt.isdigit z with
      | false =>
        refine if_true_of rfl (if_true_of rfl ?_)
        rw [dig (b := true) (by rw [e1, e2]; rfl)] at k
        exact k
      | true =>
        rw [e1, e2, Bool.and_self, eq_comm, Bool.and_eq_true] at AD
        have ne : TL.tl z ≠ [] := fun q => by rw [q] at AD; exact absurd AD.1 (by decide)
        refine if_false_of rfl ⟨_, rfl, z, rfl, hz, _, _, rfl, rfl, _, rfl, ?_⟩
        have lz : z.length = (TL.tl z).length := TL.len_tl z
        refine ite2 (fun hl => ?_) (fun hl => ?_)
        · have hl := of_decide_eq_true hl
          rw [numG_no (fun c => by have := c.2; omega)] at k
          exact k
        · have hl : ¬ (120 : Int) < (z.length : Nat) := fun q => hl (decide_eq_true q)
          cases q : TL.tl z with
          | nil => exact absurd q ne
          | cons c r =>
            refine ⟨fun σ' H' => σ' = [some (.str z)] ∧ H' = H ∧ NX.canon (TL.tl z) = true, ?_, ?_⟩
            · have at0 : atI z.cps.toList 0 = some c := by
                rw [show z.cps.toList = c :: r from q]
                exact atI_nat (j := 0) (xs := c :: r) rfl
              refine ⟨_, rfl, z, 0, c, rfl, rfl, hz, at0, rfl, _, rfl, ?_⟩
              have dc : decide (V.str ⟨#[c]⟩ = V.str ("0" : Str)) = decide (c = 48) := by
                rw [decide_eq_decide]
                constructor
                · intro e
                  injection e with e
                  have := congrArg (fun s : Str => s.cps.toList) e
                  have : [c] = [48] := this
                  simpa using this
                · rintro rfl
                  rfl
              by_cases hc : c = 48
              · refine if_true_of (by rw [dc, decide_eq_true hc]) ⟨_, rfl, z, rfl, hz, _, _, rfl, rfl, _, rfl, ?_⟩
                refine ite2 (fun h1 => ?_) (fun h1 => ?_)
                · have h1 := of_decide_eq_true h1
                  rw [numG_no (fun c' => by
                    rcases NX.canon_head c'.1 with y | y
                    · rw [q, hc] at y; exact y rfl
                    · omega)] at k
                  exact k
                · have h1 : ¬ (1 : Int) < (z.length : Nat) := fun q => h1 (decide_eq_true q)
                  have hp : 0 < (TL.tl z).length := by rw [q]; simp
                  exact ⟨rfl, rfl, NX.canon_mk ne AD.2 (.inr (by omega))⟩
              · refine if_false_of (by rw [dc, decide_eq_false hc]) ?_
                exact ⟨rfl, rfl, NX.canon_mk ne AD.2 (.inl (by rw [q]; intro y; exact hc (by simpa using y)))⟩
            · rintro σ' H' ⟨rfl, rfl, hcn⟩
              refine ⟨_, rfl, z, _, rfl, NX.int_text hcn (by omega), by omega, ?_⟩
              have e : NX.numG z = some ((NumText.digitsVal (TL.tl z) : Nat) : Int) := by
                unfold NX.numG
                rw [if_pos ⟨hcn, by omega⟩]
              rw [e] at k
              exact k

/-- def f(p1, *v) of the text -/
theorem star1_ok {x qual p1 pv : Str} {k : Nat} {st : Stmt} {f : Addr} {fd : FuncData} {N : List Str} {sp : V → List V → Hp → VK → XK → Prop} (F : Fun K x qual st f fd) (S : FnScope N [p1, pv] (defScope st))
    (hb : ∀ (kV doc pm : Value) (an : Option Addr) (cdv ct : Value) (a : Value) (rest : List Value), bindArgs (PySem.W.fnOf x qual (defArgs st) (defBody st) (defScope st) .none kV doc pm an cdv ct) ⟨a :: rest, []⟩ = (newTuple rest >>= fun t => pure [(p1, a), (pv, t)]))
    (go : ∀ (cdv : Value) (A : Around) (outer : List Env) (s : Shared) (H : Hp) (a : V) (vs : List V) (p : Addr) (H0 : Hp) (Q : VK) (E : XK), Room k (A.deeper (envOfC qual (defScope st) s.heap.objs.size f cdv)) → sp a vs H0 Q E → vs.length ≤ sizeLine → H0 p = Option.none → H = upd H0 p (.tup vs) →
      ∃ t, PSs (cxOf CX0 P w K mg base N qual (defScope st) f cdv A outer s H E).nox (defBody st) t ∧ t { nx := fun _ H1 => Q .non H1, rt := Q } (start N [a, V.ref p]) H) :
    FnR P w K mg base CX0 (k + 1) f (fun vs H Q E => ∃ a rest, vs = a :: rest ∧ rest.length ≤ sizeLine ∧ sp a rest H Q E) := by
  obtain ⟨oc, od, kV, doc, pm, an, cdv, ct, osl, rfl, lk, hcd⟩ := F.ex
  refine FnR.imp (StX.fn_star (ps := [p1]) (pv := pv) (CX := CX0) (sp := fun ws H Q E => ∃ (a : V) (vs : List V) (p : Addr) (H0 : Hp), ws = [a, V.ref p] ∧ sp a vs H0 Q E ∧ vs.length ≤ sizeLine ∧ H0 p = Option.none ∧ H = upd H0 p (.tup vs)) lk hcd S StX.cxUp_none (fun us rest hl => ?_) fun A outer s H vs Q E hr h => ?_) fun vs H Q E h => ?_
  · match us, hl with
    | [a], _ =>
      show bindArgs _ { pos := a :: rest, kw := [] } = _
      rw [hb]
      rfl
  · obtain ⟨a, ws, p, H0, rfl, hs, hl, hp, rfl⟩ := h
    obtain ⟨t, ht, hq⟩ := go cdv A outer s _ a ws p H0 Q E hr hs hl hp rfl
    exact ⟨t, ht.nox, hq⟩
  · obtain ⟨a, rest, rfl, hl, hs⟩ := h
    exact ⟨[a], rest, rfl, rfl, hl, fun p hp => ⟨a, rest, p, H, rfl, hs, hl, hp, rfl⟩⟩
/-! ### the words of a text, taken one by one; nothing that is refused -/
def WdAt (T : Txt K mg) (H : Hp) (x L : Addr) (ws : List Str) (i : Nat) : Prop := ∃ dx, H x = some (.ins T.a_Words dx [("words", .ref L), ("line", .int 0), ("at", .int (i : Nat))]) ∧ H L = some (.lst (ws.map V.str)) ∧ x ≠ L
/-- all but x is as it was -/
def But (x : Addr) (H H' : Hp) : Prop := ∀ b o, b ≠ x → H b = some o → H' b = some o
theorem But.refl (x : Addr) (H : Hp) : But x H H := fun _ _ _ e => e
theorem But.trans {x : Addr} {H H1 H2 : Hp} (s : But x H H1) (t : But x H1 H2) : But x H H2 := fun b o n e => t b o n (s b o n e)
theorem But.of {x : Addr} {H H1 : Hp} (s : Same H H1) : But x H H1 := fun b o _ e => s b o e
theorem but_upd {H : Hp} {x : Addr} {o : HO} : But x H (upd H x o) := fun b u n e => by rw [upd_ne n]; exact e
theorem tNil_to {σ : L2.St} {H : Hp} {Q : List V → Hp → Prop} (h : Q [] H) : tNil σ H Q := h
theorem WdAt.same {T : Txt K mg} {H H' : Hp} {x L : Addr} {ws : List Str} {i : Nat} (s : Same H H') (h : WdAt T H x L ws i) : WdAt T H' x L ws i := by
  obtain ⟨dx, h1, h2, h3⟩ := h
  exact ⟨dx, s _ _ h1, s _ _ h2, h3⟩
def spWordsInit (T : Txt K mg) : Sp := fun vs H Q _ => ∃ (x dx : Addr) (z : Str), vs = [.ref x, .str z, .int 0] ∧ H x = some (.ins T.a_Words dx []) ∧ z.length + 2 ≤ sizeLine ∧
  ∀ L, H L = Option.none → Q .non (upd (upd H L (.lst ((Txt.split z " ").map V.str))) x (.ins T.a_Words dx [("words", .ref L), ("line", .int 0), ("at", .int 0)]))
theorem ok_Words_init (T : Txt K mg) : FnOk P w K mg base CX0 3 T.a_Words_init T.fd_Words_init ["self", "text", "line"] (spWordsInit T) := by
  refine T.F_Words_init.ok sc_Words_init (fun vs H Q E h => ?_) (fun cdv A outer s H vs Q E hr h => ?_)
  · obtain ⟨x, dx, z, rfl, _⟩ := h; rfl
  · obtain ⟨x, dx, z, rfl, hx, hz, k1⟩ := h
    refine ⟨_, PSs.nox (pss_cons (ps_if (pt_not (pt_val (pe_callB call_isi (by rfl) T.n_isinstance (by decide +kernel) (pa_cons (pv 1) (pa_cons (pe_bltn (v := .ty "str") (u := .type "str") (by rfl) T.n_str (by decide +kernel) rfl) (pa_nil)))))) (pss_one (ps_never)) (pss_nil))
      (pss_cons (ps_fld (pv 0) (pe_m1 PySem.F.slot_str_split PySem.F.type_str_split mt_split (pv 1) pe_str) rfl)
      (pss_cons (ps_fld (pv 0) (pv 2) rfl)
      (pss_one (ps_fld (pv 0) (pe_int) rfl))))), ?_⟩
    refine ⟨_, rfl, .str z, .ty "str", .type "str", .type "str", true, rfl, (by constructor), (NT.str z).ty, kit_ty (by rfl), true, rfl, ?_⟩
    refine if_false_of rfl ?_
    refine ⟨_, rfl, ⟨z, rfl⟩, z, " ", rfl, rfl, rfl, hz, fun L hL => ?_⟩
    have sL := same_new (o := .lst ((Txt.split z " ").map V.str)) hL
    refine ⟨_, rfl, x, _, dx, _, rfl, sL _ _ hx, T.wcls, T.w_na _ (by simp), (by show 0 < 1000; decide), ?_⟩
    refine ⟨_, rfl, _, rfl, x, _, dx, _, rfl, upd_same, T.wcls, T.w_na _ (by simp), (by show 1 < 1000; decide), ?_⟩
    refine ⟨_, rfl, x, _, dx, _, rfl, upd_same, T.wcls, T.w_na _ (by simp), (by show 2 < 1000; decide), ?_⟩
    refine Eq.mpr (congrArg (Q V.non) ?_) (k1 L hL)
    funext y
    unfold upd
    split <;> rfl
def wdV : Option Str → V
  | some w => .str w
  | Option.none => .non
def spUpcoming (T : Txt K mg) : Sp := fun vs H Q _ => ∃ (x L : Addr) (ws : List Str) (i : Nat), vs = [.ref x] ∧ WdAt T H x L ws i ∧ Q (wdV ws[i]?) H
theorem ok_Words_upcoming (T : Txt K mg) : FnOk P w K mg base CX0 1 T.a_Words_upcoming T.fd_Words_upcoming ["self"] (spUpcoming T) := by
  refine T.F_Words_upcoming.ok sc_Words_upcoming (fun vs H Q E h => ?_) (fun cdv A outer s H vs Q E hr h => ?_)
  · obtain ⟨x, L, ws, i, rfl, _⟩ := h; rfl
  · obtain ⟨x, L, ws, i, rfl, ⟨dx, hx, hL, _⟩, k⟩ := h
    refine ⟨_, pss_one (ps_ret (pe_ifExp (pt_cmpR op_lt (pe_fld (pv 0) rfl) (pe_callB call_len_seq (by rfl) T.n_len (by decide +kernel) (pa_cons (pe_fld (pv 0) rfl) (pa_nil))) (nomark _)) (pe_ix ix_list (pe_fld (pv 0) rfl) (pe_fld (pv 0) rfl) (fun _ _ => rfl)) (pe_non))), ?_⟩
    refine ⟨_, rfl, x, _, dx, _, _, rfl, hx, T.wcls, T.w_na _ (by simp), rfl, ?_⟩
    refine ⟨_, rfl, x, _, dx, _, _, rfl, hx, T.wcls, T.w_na _ (by simp), rfl, L, _, rfl, .inl (SqL.of hL), _, _, rfl, rfl, _, rfl, ?_⟩
    refine ite2 (fun h1 => ?_) (fun h1 => ?_)
    · have h1 := of_decide_eq_true h1
      rw [List.length_map] at h1
      have lt : i < ws.length := by omega
      rw [List.getElem?_eq_getElem lt] at k
      refine ⟨_, rfl, x, _, dx, _, _, rfl, hx, T.wcls, T.w_na _ (by simp), rfl, _, rfl, x, _, dx, _, _, rfl, hx, T.wcls, T.w_na _ (by simp), rfl, L, _, _, _, rfl, rfl, SqL.of hL, atI_nat (by rw [List.getElem?_map, List.getElem?_eq_getElem lt]; rfl), k⟩
    · have h1 : ¬ ((i : Int) < ((ws.map V.str).length : Nat)) := fun q => h1 (decide_eq_true q)
      rw [List.length_map] at h1
      rw [List.getElem?_eq_none (by omega)] at k
      exact k
def spTake (T : Txt K mg) : List V → Hp → VK → XK → Prop := fun vs H Q _ => ∃ (x L : Addr) (ws : List Str) (i : Nat) (a1 : Str), vs = [.ref x, .str a1] ∧ WdAt T H x L ws i ∧ ws[i]? = some a1 ∧ ∀ H', But x H H' → WdAt T H' x L ws (i + 1) → Q (.str a1) H'
/-- the instance with one word more taken -/
theorem WdAt.next {T : Txt K mg} {H : Hp} {x L dx : Addr} {ws : List Str} {i : Nat} {j : Int} (hj : j = ((i + 1 : Nat) : Int)) (hL : H L = some (.lst (ws.map V.str))) (ne : x ≠ L) : WdAt T (upd H x (.ins T.a_Words dx [("words", .ref L), ("line", .int 0), ("at", .int j)])) x L ws (i + 1) :=
  ⟨dx, by rw [upd_same, hj], by rw [upd_ne (Ne.symm ne)]; exact hL, ne⟩
theorem wdV_flat (o : Option Str) : flatV (wdV o) = true := by cases o <;> rfl
theorem ok_Words_take (T : Txt K mg) : FnR P w K mg base CX0 3 T.a_Words_take (spTake T) := by
  refine FnR.imp (star1_ok (sp := fun v rest H Q E => spTake T (v :: rest) H Q E) T.F_Words_take sc_Words_take (fun kV doc pm an cdv ct a rest => by cases rest <;> rfl) (fun cdv A outer s H a rest p H0 Q E hr h hl hp eH => ?_)) (fun vs H Q E h => ?_)
  · obtain ⟨x, L, ws, i, a1, e, hW, hi, k1⟩ := h
    injection e with e1 e2
    subst e1
    subst e2
    refine ⟨_, pss_cons (ps_set (i := 2) sc_Words_take.nd rfl (Or.inl rfl) (pe_meth0 (pv 0) T.wcls T.w_upcoming (ok_Words_upcoming T) (hr.mono (by decide)) (b_Words_upcoming T) .nil pass0))
      (pss_cons (ps_if (pt_cmpR op_notIn_seq (pv 2) (pv 1) rfl) (pss_one (ps_never)) (pss_nil))
      (pss_cons (ps_fld (pv 0) (pe_op op_add (pe_fld (pv 0) rfl) (pe_int)) rfl)
      (pss_one (ps_ret (pv 2))))), ?_⟩
    have s0 : Same H0 H := eH ▸ same_new hp
    have hp' : H p = some (.tup [.str a1]) := by rw [eH, upd_same]
    obtain ⟨dx, hx, hL, ne⟩ := hW.same s0
    refine ⟨_, rfl, x, dx, _, rfl, hx, rfl, x, L, ws, i, rfl, ⟨dx, hx, hL, ne⟩, ?_⟩
    refine ⟨_, rfl, _, rfl, p, _, rfl, .inr (SqT.of hp'), wdV_flat _, rfl, _, rfl, ?_⟩
    rw [hi]
    refine if_false_of (by show (!(a1 == a1 || false)) = false; simp) ?_
    refine ⟨_, rfl, x, _, dx, _, _, rfl, hx, T.wcls, T.w_na _ (by simp), rfl, _, _, rfl, rfl, _, rfl, x, _, dx, _, rfl, hx, T.wcls, T.w_na _ (by simp), (by show 3 < 1000; decide), ?_⟩
    refine ⟨_, rfl, ?_⟩
    exact k1 _ (fun b o n e => but_upd b o n (s0 _ _ e)) (WdAt.next (by omega) hL ne)
  · obtain ⟨x, L, ws, i, a1, rfl, q⟩ := h
    exact ⟨_, _, rfl, (by show 1 ≤ sizeLine; decide), x, L, ws, i, a1, rfl, q⟩
def spTakeN (T : Txt K mg) : Sp := fun vs H Q _ => ∃ (x L : Addr) (ws : List Str) (i : Nat) (lo hi n : Int), vs = [.ref x, .int lo, .int hi] ∧ WdAt T H x L ws i ∧ ws[i]? = some (NX.num n) ∧ 0 ≤ n ∧ n ≤ 1000000 ∧ lo ≤ n ∧ n ≤ hi ∧ ∀ H', But x H H' → WdAt T H' x L ws (i + 1) → Q (.int n) H'
theorem ok_Words_take_number (T : Txt K mg) : FnOk P w K mg base CX0 3 T.a_Words_take_number T.fd_Words_take_number ["self", "low", "high"] (spTakeN T) := by
  refine T.F_Words_take_number.ok sc_Words_take_number (fun vs H Q E h => ?_) (fun cdv A outer s H vs Q E hr h => ?_)
  · obtain ⟨x, L, ws, i, lo, hi, n, rfl, _⟩ := h; rfl
  · obtain ⟨x, L, ws, i, lo, hi, n, rfl, hW, e, n0, n1, h1, h2, k1⟩ := h
    obtain ⟨dx, hx, hL, ne⟩ := id hW
    refine ⟨_, pss_cons (ps_set (i := 3) sc_Words_take_number.nd rfl (Or.inl rfl) (pe_meth0 (pv 0) T.wcls T.w_upcoming (ok_Words_upcoming T) (hr.mono (by decide)) (b_Words_upcoming T) .nil pass0))
      (pss_cons (ps_set (i := 4) sc_Words_take_number.nd rfl (Or.inl rfl) (pe_ifExp (pt_cmpR op_isN (pv 3) (pe_non) (nomark _)) (pe_non) (pe_call (ok_number_in T) (hr.mono (by decide)) rfl T.m_number_in T.F_number_in.kp (b_number_in T) .nil pass0 (pa_cons (pv 3) (pa_nil)))))
      (pss_cons (ps_if (PW.pt (pw_or (pt_cmpR op_isN (pv 4) (pe_non) (nomark _)) (pw_or1 (pt_not (pt_chain op_le op_le (pv 1) (pv 4) (pv 2)))))) (pss_one (ps_never)) (pss_nil))
      (pss_cons (ps_fld (pv 0) (pe_op op_add (pe_fld (pv 0) rfl) (pe_int)) rfl)
      (pss_one (ps_ret (pv 4)))))), ?_⟩
    refine ⟨_, rfl, x, dx, _, rfl, hx, rfl, x, L, ws, i, rfl, hW, ?_⟩
    refine ⟨_, rfl, ?_⟩
    rw [e]
    refine ⟨rfl, false, rfl, if_false_of rfl ?_⟩
    have lz := NX.len_num n0 (by omega : n ≤ 1000000000000)
    refine ⟨_, rfl, NX.num n, rfl, (by have : (13 : Nat) ≤ sizeLine := by decide
                                       omega), ?_⟩
    rw [NX.numG_num n0 (by omega)]
    refine ⟨_, rfl, rfl, false, rfl, if_false_of rfl ?_⟩
    refine ⟨_, rfl, _, rfl, _, _, rfl, rfl, _, rfl, ?_⟩
    refine if_true_of (decide_eq_true h1) ?_
    refine ⟨_, rfl, _, _, rfl, rfl, _, rfl, ?_⟩
    refine if_false_of (by rw [decide_eq_true h2]; rfl) ?_
    refine ⟨_, rfl, x, _, dx, _, _, rfl, hx, T.wcls, T.w_na _ (by simp), rfl, _, _, rfl, rfl, _, rfl, x, _, dx, _, rfl, hx, T.wcls, T.w_na _ (by simp), (by show 3 < 1000; decide), ?_⟩
    exact ⟨_, rfl, k1 _ but_upd (WdAt.next (by omega) hL ne)⟩
def spFinish (T : Txt K mg) : Sp := fun vs H Q _ => ∃ (x L : Addr) (ws : List Str) (i : Nat), vs = [.ref x] ∧ WdAt T H x L ws i ∧ ws.length ≤ i ∧ Q .non H
theorem ok_Words_finish (T : Txt K mg) : FnOk P w K mg base CX0 3 T.a_Words_finish T.fd_Words_finish ["self"] (spFinish T) := by
  refine T.F_Words_finish.ok sc_Words_finish (fun vs H Q E h => ?_) (fun cdv A outer s H vs Q E hr h => ?_)
  · obtain ⟨x, L, ws, i, rfl, _⟩ := h; rfl
  · obtain ⟨x, L, ws, i, rfl, ⟨dx, hx, hL, ne⟩, hl, k1⟩ := h
    refine ⟨_, pss_one (ps_if (pt_cmpR op_lt (pe_fld (pv 0) rfl) (pe_callB call_len_seq (by rfl) T.n_len (by decide +kernel) (pa_cons (pe_fld (pv 0) rfl) (pa_nil))) (nomark _)) (pss_one (ps_never)) (pss_nil)), ?_⟩
    refine ⟨_, rfl, x, _, dx, _, _, rfl, hx, T.wcls, T.w_na _ (by simp), rfl, _, rfl, x, _, dx, _, _, rfl, hx, T.wcls, T.w_na _ (by simp), rfl, L, _, rfl, .inl (SqL.of hL), _, _, rfl, rfl, _, rfl, ?_⟩
    exact if_false_of (decide_eq_false (by rw [List.length_map]; omega)) k1

theorem meets_enum1 {v : Value} {o : Obj} {I0 : Heap → Prop} (Bg : Begins v o I0) : Meets (Builtin.«enumerate.__new__» ⟨[.type "enumerate", v], []⟩) (fun _ R s => I0 s.heap ∧ R (.ok (.ret (.ref (s.heap.push o).objs.size))) { s with heap := (s.heap.push o).push { cls := .type "enumerate", data := .fields #[.none, .bool false, .ref s.heap.objs.size, rawInt 0, .none, .none] } }) :=
  .of_wp fun pr wd A R z hz => by
    obtain ⟨g0, gg, dd, k0, os⟩ := z
    obtain ⟨h1, h2⟩ := hz
    have hsub := sub_enumerate
    have it1 : ∀ {A' : Around} {E' : Value → Shared → Prop} {Q' : Value → Shared → Prop}, Q' (.ref g0.objs.size) ⟨g0.push o, gg, dd, k0, os⟩ → wpAny (model pr wd) A' (pyIter v) Q' E' ⟨g0, gg, dd, k0, os⟩ := fun q => Bg.iter pr wd _ _ ⟨g0, gg, dd, k0, os⟩ _ h1 q
    wp_walk using it1
    refine wpAny_stack_any fun _ => wpAny_pure ?_
    split
    · rename_i cc _ _ _ _ _
      cases (cc == Value.type "enumerate") <;> (wp_walk using it1; exact ⟨_, rfl, h2⟩)
    · wp_walk using it1
      exact ⟨_, rfl, h2⟩
theorem call_enum1 {pr : Program} {wd : World} {B : Around} {EE : Value → Shared → Prop} {z : Shared} {v : Value} {o : Obj} {I0 : Heap → Prop} {Q : Value → Shared → Prop} (Bg : Begins v o I0) (h1 : I0 z.heap)
    (h : ∀ g, IsEnum g (z.heap.objs.size + 1) z.heap.objs.size 0 .none → g.get? z.heap.objs.size = some o → g.objs.size = z.heap.objs.size + 2 → (∀ b u, z.heap.get? b = some u → g.get? b = some u) → Q (.ref (z.heap.objs.size + 1)) { z with heap := g }) :
    wpAny (model pr wd) B (call (.type "enumerate") [v]) Q EE z := by
  refine callType_new F.called_enumerate (by decide) (F.typeCall_enumerate_1 _) (F.newCall_enumerate_1 _) (fun ob => F.args_object_init_2 ob _) F.entry_enumerate_new (meets_enum1 Bg) ⟨h1, ?_⟩
  have s1 : (z.heap.push o).objs.size = z.heap.objs.size + 1 := Heap.size_push ..
  show _ ∧ _
  rw [s1]
  have he : IsEnum ((z.heap.push o).push { cls := .type "enumerate", data := .fields #[.none, .bool false, .ref z.heap.objs.size, rawInt 0, .none, .none] }) (z.heap.objs.size + 1) z.heap.objs.size 0 .none := by
    rw [← s1]
    exact Heap.get?_push_size (z.heap.push o) rfl
  exact ⟨⟨_, he, rfl⟩, h _ he (Heap.get?_push_of_some _ (Heap.get?_push_size _ Bg.free)) (by rw [Heap.size_push, s1]) fun b u q => Heap.get?_push_of_some _ (Heap.get?_push_of_some _ q)⟩
section
variable {X : Cx}
/-- the tuple at a, each item in a new pair -/
def IteT (K : PySem.W.Frag) (a : Addr) : It :=
  ⟨fun i H => ∃ (xs : List V) (x : V), SqT K H a xs ∧ xs[i]? = some x, fun i H v H' => ∃ T x, v = .ref T ∧ H T = Option.none ∧ H' = upd H T (.tup [.int (i : Nat), x]) ∧ ∀ xs, SqT K H a xs → xs[i]? = some x, fun i H => ∃ xs : List V, SqT K H a xs ∧ xs.length ≤ i⟩
theorem turn_enumT {P : Program} {w : World} {K : PySem.W.Frag} {elts : List Expr} {kk : Nat} {tpos : Pos} (a e it : Addr) :
    Turn P w K (.Tuple elts kk tpos) (IteT K a) [e, it] e (fun i h => (∃ old, IsEnum h e it ((i : Nat) : Int) old) ∧ h.IsTupleIter it a i ∧ e ≠ it) where
  mem := by simp
  obj := fun j g st b hb => by
    obtain ⟨⟨old, q⟩, ⟨o, o1, o2, o3⟩, _⟩ := st
    rcases List.mem_cons.mp hb with y | y
    · rw [y]; exact ⟨_, q, fun v z => nomatch z⟩
    · rw [List.mem_singleton.mp y]; exact ⟨o, o1, fun v z => by rw [o3] at z; cases z⟩
  keep := fun j g g' st k => by
    obtain ⟨⟨old, q⟩, hi, ne⟩ := st
    exact ⟨⟨old, k e List.mem_cons_self _ q⟩, hi.at fun o y => k it (by simp) o y, ne⟩
  item := by
    intro X hP hw hK hc i pins s σ H E I hf st hg
    subst hP hw hK
    obtain ⟨⟨old, he⟩, hit, hne⟩ := st
    obtain ⟨xs, x, hq, hx⟩ := hg
    obtain ⟨its, rv, pl, hz⟩ := I.tuple hq
    obtain ⟨u, hu, ru⟩ := rv.get hx
    obtain ⟨oa, oa1, oa2, _⟩ := id pl
    obtain ⟨oi, oi1, oi2, _⟩ := id hit
    have nai : a ≠ it := fun y => by
      rw [y, oi1] at oa1
      cases oa1
      rw [oi2] at oa2
      exact absurd oa2 (by decide)
    have nae : e ≠ a := fun y => by
      rw [y] at he
      have he : s.heap.get? a = _ := he
      rw [oa1] at he
      cases he
      exact absurd (show Value.type "enumerate" = Value.type "tuple" from oa2) (by decide)
    have hel : e < s.heap.objs.size := Heap.lt_size he
    have hil : it < s.heap.objs.size := Heap.lt_size oi1
    have ix : i < its.toArray.size := by rw [List.size_toArray]; exact (List.getElem?_eq_some_iff.mp hu).1
    refine wpAny_pyNext_enum_itemD (Draws.tuple (A := X.A.in1) (I.ok.hd hc) it a nai its.toArray) he ⟨hit, pl⟩ ix hne (fun y => ?_) fun v g k hv ho st2 hT hsz kp => ?_
    · rcases List.mem_cons.mp y with y | y
      · exact hne y
      · exact nae (List.mem_singleton.mp y)
    have ev : v = u := by
      have : its[i]? = some v := by simpa using hv
      rw [hu] at this
      exact (Option.some.inj this).symm
    subst ev
    refine ⟨_, rfl, wpAny_letOwnedTupleGo_enum (s := { s with heap := g, toks := k + 1 }) ho fun g2 he2 sb => ?_⟩
    have hT2 : g2.get? s.heap.objs.size = some { cls := .type "tuple", data := .seq #[.int i k, v] } := (sb.2 _ (Nat.ne_of_gt hel)).trans hT
    have new : ObjOk X.prog X.w (upd H s.heap.objs.size (.tup [.int (i : Nat), x])) g2 s.heap.objs.size (.tup [.int (i : Nat), x]) := ⟨by show 2 ≤ sizeLine; decide, [.int i k, v], .cons ⟨_, rfl⟩ (.cons ru .nil), ⟨_, hT2, rfl, _, rfl⟩⟩
    have keep2 : ∀ b o, b ∉ [e, it] → s.heap.get? b = some o → g2.get? b = some o := fun b o hb q => by
      have b1 : b ≠ e := fun z => hb (by rw [z]; exact List.mem_cons_self)
      have b2 : b ≠ it := fun z => hb (by rw [z]; simp)
      exact (sb.2 b b1).trans (kp b o b1 b2 q)
    have I1 : Inv X pins σ (upd H s.heap.objs.size (.tup [.int (i : Nat), x])) { s with heap := g2, toks := k + 1 } := I.turnedNew (ch := [e, it]) keep2 hf (Nat.le_refl _) new
    have low : ∀ b ∈ [e, it], b < s.heap.objs.size := fun b hb => by
      rcases List.mem_cons.mp hb with z | z
      · rw [z]; exact hel
      · rw [List.mem_singleton.mp z]; exact hil
    refine ⟨.ref s.heap.objs.size, _, I1, rfl, ⟨_, x, rfl, I.hok.fresh (Nat.le_refl _), rfl, fun ys hy => by rw [I.tuple_inj hy hq]; exact hx⟩, ⟨⟨v, ?_⟩, st2.1.at fun o q => (sb.2 it (Ne.symm hne)).trans q, hne⟩, fun b hb => ?_⟩
    · rw [show ((i + 1 : Nat) : Int) = (i : Int) + 1 by omega]
      exact he2
    · rw [upd_ne (Nat.ne_of_lt (low b hb))]
      exact (hf b hb).1
  done := by
    intro X hP hw hK hc i pins s σ H E I hf st hg
    subst hP hw hK
    obtain ⟨⟨old, he⟩, hit, hne⟩ := st
    obtain ⟨xs, hq, hx⟩ := hg
    obtain ⟨its, rv, pl, hz⟩ := I.tuple hq
    obtain ⟨f0, f1, f2, f3, f4, f5⟩ := hf it (by simp)
    have none_at : its.toArray[i]? = Option.none := by
      have : its.length ≤ i := by rw [← rv.length]; exact hx
      simpa using this
    have hTy : s.TypeIs (.ref e) "enumerate" := ⟨_, he, rfl⟩
    unfold pyNext
    refine wpAny_bind (wpAny_attempt (wpAny_callSpecial?_slot (name := Str.ofString "__next__") hTy F.slot_enumerate_next ?_))
    refine wpAny_call_entry F.slot_enumerate_next hTy F.entry_enumerate_next ?_ (F.args_enumerate_next_1 _)
    show wpAny _ _ (field (.ref e) 2 >>= _) _ _ _
    refine wpAny_bind (wpAny_field he rfl (x := .ref it) rfl (wpAny_bind (wpAny_nextOf_tuple_end (A := X.A.in1) (I.ok.hd hc) hit pl none_at fun g x eg hx2 => ?_)))
    obtain ⟨ox, ox1, ox2⟩ := hx2
    exact wpAny_bind (wpAny_isInstance (T := "StopIteration") (b := true) ⟨ox, ox1, ox2⟩ isSubtype_stop (wpAny_pure ⟨rfl, I.turned (t' := s.toks) (fun b o hb q => eg b o hb q) f0 f1 f3 f4 f5⟩))
  self := fun A i s Q E st h => by
    obtain ⟨⟨_, he⟩, _⟩ := st
    exact wpAny_pyIter_enum he h
/-- enumerate of a list or of a tuple, walked -/
def iEnum2 (K : PySem.W.Frag) (ta : TA) : TI := fun σ H R => ta σ H fun vs H1 => ∃ a xs, vs = [.ref a] ∧ ((SqL K H1 a xs ∧ R (Ite K a) H1) ∨ (SqT K H1 a xs ∧ R (IteT K a) H1))
theorem pi_enum2 {e : Expr} {ta : TA} {p pos tpos : Pos} {elts : List Expr} {kk : Nat} (hg : Gl X "enumerate") (hm : X.mg "enumerate" = Option.none) (ha : PA X [e] ta) (hs : starEach [e] X.env = [(false, eval e X.env)] := by rfl) : PI X (.Tuple elts kk tpos) (.Call (.Name "enumerate" p) [e] [] pos) (iEnum2 X.K ta) := by
  refine ⟨fun pins s σ H R I h => Call_ (ld_blt I hg hm boot_enumerate (PyProof.Rows.callWith_type1 (thn (ha.run pos pins s σ H _ I h) fun us s1 ⟨vs, H1, I1, r1, q1⟩ => ?_) hs rfl))⟩
  obtain ⟨a, xs, ev, q⟩ := q1
  subst ev
  obtain rfl := Vals.ref1 r1
  have fresh2 : ∀ b ∈ [s1.heap.objs.size + 1, s1.heap.objs.size], FpOk X pins H1 b := fun b hb => by
    have le : s1.heap.objs.size ≤ b := by
      rcases List.mem_cons.mp hb with z | z
      · rw [z]; exact Nat.le_succ _
      · rw [List.mem_singleton.mp z]; exact Nat.le_refl _
    exact I1.fpOk le (I1.hok.fresh le)
  rcases q with ⟨hq, q⟩ | ⟨hq, q⟩
  · obtain ⟨its, rv, pl, hz⟩ := I1.list hq
    refine call_enum1 (begins_list a its.toArray) pl.isList fun g he hj hsz kp => wpAny_pyIter_enum he ?_
    exact ⟨s1.heap.objs.size + 1, [s1.heap.objs.size + 1, s1.heap.objs.size], _, _, H1, rfl, I1.kept (t' := s1.toks) kp, turn_enum a (s1.heap.objs.size + 1) s1.heap.objs.size, ⟨⟨.none, he⟩, ⟨_, hj, rfl, rfl⟩, Nat.succ_ne_self _⟩, fresh2, q⟩
  · obtain ⟨its, rv, pl, hz⟩ := I1.tuple hq
    refine call_enum1 (begins_tuple a its.toArray) pl fun g he hj hsz kp => wpAny_pyIter_enum he ?_
    exact ⟨s1.heap.objs.size + 1, [s1.heap.objs.size + 1, s1.heap.objs.size], _, _, H1, rfl, I1.kept (t' := s1.toks) kp, turn_enumT a (s1.heap.objs.size + 1) s1.heap.objs.size, ⟨⟨.none, he⟩, ⟨_, hj, rfl, rfl⟩, Nat.succ_ne_self _⟩, fresh2, q⟩
end

theorem for_enumT {K : PySem.W.Frag} {a : Addr} {xs : List V} {g : TG} {tb : TS} {D : Ends} {σ : L2.St} {H : Hp} (Pv : Nat → L2.St → Hp → Prop) (h0 : Pv 0 σ H) (hl : ∀ i σ H, i ≤ xs.length → Pv i σ H → SqT K H a xs)
    (hs : ∀ i x σ H T, xs[i]? = some x → Pv i σ H → H T = Option.none → g (.ref T) σ (upd H T (.tup [.int (i : Nat), x])) fun σ2 H2 => tb { nx := Pv (i + 1), rt := D.rt, bk := D.nx, ct := Pv (i + 1) } σ2 H2) (hd : ∀ σ H, Pv xs.length σ H → D.nx σ H) :
    ∃ W : Nat → Nat → L2.St → Hp → Prop, (∃ m, W 0 m σ H) ∧ ∀ i m σ H, W i m σ H →
      ((IteT K a).stop i H ∧ D.nx σ H) ∨ ((IteT K a).go i H ∧ ∃ N : L2.St → Hp → Prop, (∀ σ' H', N σ' H' → ∃ m', m' < m ∧ W (i + 1) m' σ' H') ∧ ∀ x H', (IteT K a).yld i H x H' → g x σ H' fun σ2 H2 => tb { nx := N, rt := D.rt, bk := D.nx, ct := N } σ2 H2) := by
  refine ⟨fun i m σ H => m = xs.length - i ∧ i ≤ xs.length ∧ Pv i σ H, ⟨xs.length, by simp, Nat.zero_le _, h0⟩, ?_⟩
  rintro i m σ H ⟨rfl, hi, p⟩
  have q := hl i σ H hi p
  by_cases hlt : i < xs.length
  · refine .inr ⟨⟨xs, xs[i], q, by simp [hlt]⟩, Pv (i + 1), fun σ' H' p' => ⟨xs.length - (i + 1), by omega, rfl, hlt, p'⟩, fun x H' y => ?_⟩
    obtain ⟨T, z, rfl, hT, rfl, hz⟩ := y
    exact hs i z σ H T (hz xs q) p hT
  · have e : i = xs.length := by omega
    subst e
    exact .inl ⟨⟨xs, q, Nat.le_refl _⟩, hd σ H p⟩

/-! ### the draws -/
def spPen (K : PySem.W.Frag) : Sp := fun vs H Q _ => ∃ (a : Addr) (ns : List Int), vs = [.ref a] ∧ SqL K H a (ns.map V.int) ∧ ns.length ≤ 63 ∧ ∀ (p : Addr) (H' : Hp), Same H H' → Pen H' p 0 → Q (.ref p) H'
theorem ok_pen (T : Txt K mg) : FnOk P w K mg base CX0 1 T.a_pen T.fd_pen ["_law_script"] (spPen K) := by
  refine T.F_pen.ok sc_pen (fun vs H Q E h => ?_) (fun cdv A outer s H vs Q E hr h => ?_)
  · obtain ⟨a, ns, rfl, _⟩ := h; rfl
  · obtain ⟨a, ns, rfl, hS, hl, k⟩ := h
    refine ⟨_, pss_one (ps_ret (pe_lst (pa_cons (pe_callTy call_list_of (by rfl) T.n_list (by decide +kernel) (pa_cons (pe_slice sl_list (pv 0) (po_none) (po_some (pe_int))) (pa_nil))) (pa_cons (pe_int) (pa_cons (pe_int) (pa_nil)))))), ?_⟩
    obtain ⟨ms, em, lm⟩ := cut_ints ns none (some 63)
    refine ⟨_, rfl, _, rfl, a, _, rfl, hS, fun q hq => ?_⟩
    refine ⟨q, _, rfl, .inl (SqL.of upd_same), fun l hl => ?_⟩
    refine ⟨(by show 3 ≤ sizeLine; decide), fun p hp => k p _ ?_ ?_⟩
    · exact (same_new hq).trans ((same_new hl).trans (same_new hp))
    · refine ⟨l, ms, 0, 0, upd_same, ?_, by omega, by omega, by omega, by omega⟩
      rw [upd_ne (ne_of_none upd_same hp), upd_same, em]
def spDraw : Sp := fun vs H Q _ => ∃ (p : Addr) (m : Int) (n : Nat), vs = [.ref p, .int m] ∧ 0 < m ∧ m < 1606938044258990275541962092341162602522202993782792835301376 ∧ Pen H p n ∧ n < 100000 ∧ ∀ (r : Int) (H' : Hp), 0 ≤ r → r < m → Pen H' p (n + 1) → Fr p H H' → Q (.int r) H'
theorem ok_draw (T : Txt K mg) : FnOk P w K mg base CX0 1 T.a_draw T.fd_draw ["_law_pen_here", "_law_many"] spDraw := by
  refine T.F_draw.ok sc_draw (fun vs H Q E h => ?_) (fun cdv A outer s H vs Q E hr h => ?_)
  · obtain ⟨p, m, n, rfl, _⟩ := h; rfl
  · obtain ⟨p, m, n, rfl, hm, hm2, ⟨c, ns, i, g, hp, hc, i0, i1, g0, hl⟩, hn, k⟩ := h
    have cp : c ≠ p := pen_ne hp hc
    have mb : m.natAbs < 2 ^ 200 := by omega
    refine ⟨_, pss_cons (ps_if (pt_cmpR op_gt (pe_ix ix_list (pv 0) (pe_int) (fun _ _ => rfl)) (pe_int) (nomark _)) (pss_cons (ps_set (i := 2) sc_draw.nd rfl (Or.inl rfl) (pe_op op_modN (pe_callTy call_int1 (by rfl) T.n_int (by decide +kernel) (pa_cons (pe_ix ix_list (pv 0) (pe_int) (fun _ _ => rfl)) (pa_nil))) (pv 1)))
      (pss_cons (ps_asg (pe_op op_fdivW (pe_callTy call_int1 (by rfl) T.n_int (by decide +kernel) (pa_cons (pe_ix ix_list (pv 0) (pe_int) (fun _ _ => rfl)) (pa_nil))) (pv 1)) (pg_sub (pv 0) (pe_int) set_list))
      (pss_one (ps_ret (pv 2))))) (pss_nil))
      (pss_cons (ps_set (i := 3) sc_draw.nd rfl (Or.inl rfl) (pe_ix ix_list (pv 0) (pe_int) (fun _ _ => rfl)))
      (pss_cons (ps_asg (pe_op op_add (pv 3) (pe_int)) (pg_sub (pv 0) (pe_int) set_list))
      (pss_cons (ps_set (i := 4) sc_draw.nd rfl (Or.inl rfl) (pe_op op_add (pe_op op_mul (pe_int) (pv 3)) (pe_int)))
      (C8.pss_cut (ps_if (pt_cmpR (op_neD hr.units) (pe_ix ix_list (pv 0) (pe_int) (fun _ _ => rfl)) (pe_lst (pa_nil)) (nomark _)) (pss_one (ps_set (i := 4) sc_draw.nd rfl (Or.inl rfl) (pe_ix ix_list (pe_ix ix_list (pv 0) (pe_int) (fun _ _ => rfl)) (pe_op op_modN (pe_callTy call_int1 (by rfl) T.n_int (by decide +kernel) (pa_cons (pv 3) (pa_nil))) (pe_callB call_len_seq (by rfl) T.n_len (by decide +kernel) (pa_cons (pe_ix ix_list (pv 0) (pe_int) (fun _ _ => rfl)) (pa_nil)))) (fun _ _ => rfl)))) (pss_nil))
      (C8.pss_cut (ps_if (PW.pt (pw_and (pt_cmpR op_lt (pv 3) (pe_callB call_len_seq (by rfl) T.n_len (by decide +kernel) (pa_cons (pe_ix ix_list (pv 0) (pe_int) (fun _ _ => rfl)) (pa_nil))) (nomark _)) (pw_and1 (pt_cmpR op_ge (pe_callB call_abs (by rfl) T.n_abs (by decide +kernel) (pa_cons (pv 4) (pa_nil))) (pe_op op_pow (pe_int) (pe_int)) (nomark _))))) (pss_cons (ps_set (i := 5) sc_draw.nd rfl (Or.inl rfl) (pe_op op_add (pe_op op_mul (pe_int) (pe_op op_sub (pe_callB call_abs (by rfl) T.n_abs (by decide +kernel) (pa_cons (pv 4) (pa_nil))) (pe_op op_pow (pe_int) (pe_int)))) (pe_callTy call_int1 (by rfl) T.n_int (by decide +kernel) (pa_cons (pe_cmpR op_lt (pv 4) (pe_int) (nomark _)) (pa_nil)))))
      (pss_cons (ps_asg (pe_op op_fdivW (pe_callTy call_int1 (by rfl) T.n_int (by decide +kernel) (pa_cons (pv 5) (pa_nil))) (pv 1)) (pg_sub (pv 0) (pe_int) set_list))
      (pss_one (ps_ret (pe_op op_modN (pe_callTy call_int1 (by rfl) T.n_int (by decide +kernel) (pa_cons (pv 5) (pa_nil))) (pv 1)))))) (pss_nil))
      (pss_cons (ps_set (i := 6) sc_draw.nd rfl (Or.inl rfl) (pe_op op_modN (pe_callTy call_int1 (by rfl) T.n_int (by decide +kernel) (pa_cons (pe_op op_pow (pe_op op_add (pe_op op_add (pe_op op_modN (pe_callTy call_int1 (by rfl) T.n_int (by decide +kernel) (pa_cons (pv 4) (pa_nil))) (pe_int)) (pe_op op_mul (pe_int) (pv 3))) (pe_int)) (pe_int)) (pa_nil))) (pe_int)))
      (pss_cons (ps_set (i := 6) sc_draw.nd rfl (Or.inl rfl) (pe_op op_modN (pe_callTy call_int1 (by rfl) T.n_int (by decide +kernel) (pa_cons (pe_op op_pow (pe_op op_add (pe_op op_add (pe_op op_mul (pv 6) (pe_op op_add (pe_op op_mul (pe_int) (pv 3)) (pe_int))) (pe_op op_mul (pe_op op_mul (pe_int) (pv 3)) (pv 3))) (pe_int)) (pe_int)) (pa_nil))) (pe_int)))
      (pss_one (ps_ret (pe_op op_modN (pe_callTy call_int1 (by rfl) T.n_int (by decide +kernel) (pa_cons (pe_op op_fdivW (pv 6) (pe_int)) (pa_nil))) (pv 1))))))))))), ?_⟩
    refine ⟨_, rfl, p, _, _, _, rfl, rfl, SqL.of hp, rfl, _, _, rfl, rfl, _, rfl, ?_⟩
    refine ite2 (fun hg => ?_) (fun hg => ?_)
    · refine ⟨_, rfl, p, _, _, _, rfl, rfl, SqL.of hp, rfl, .inl ⟨_, rfl, ?_⟩⟩
      refine ⟨_, rfl, _, _, rfl, rfl, (by omega), ?_⟩
      refine ⟨_, rfl, p, _, _, _, rfl, rfl, SqL.of hp, rfl, .inl ⟨_, rfl, ?_⟩⟩
      refine ⟨_, rfl, _, _, rfl, rfl, wide_div hm mb (by decide) (by decide), ?_⟩
      refine ⟨_, rfl, p, _, _, _, rfl, rfl, hp, rfl, _, rfl, ?_⟩
      have fm := fmod_pos (x := g) hm
      refine k _ _ fm.1 fm.2 ⟨c, ns, i, g / m, upd_same, ?_, i0, by omega, Int.ediv_nonneg g0 (by omega), hl⟩ (fr_upd hp)
      rw [upd_ne cp]; exact hc
    · refine ⟨_, rfl, p, _, _, _, rfl, rfl, SqL.of hp, rfl, ?_⟩
      refine ⟨_, rfl, _, _, rfl, rfl, _, rfl, p, _, _, _, rfl, rfl, hp, rfl, ?_⟩
      -- the index is one more
      have f1 : Fr p H (upd H p (.lst [.ref c, .int (i + 1), .int g])) := fr_upd hp
      have hp1 : (upd H p (.lst [.ref c, .int (i + 1), .int g])) p = some (.lst [.ref c, .int (i + 1), .int g]) := upd_same
      have hc1 : (upd H p (.lst [.ref c, .int (i + 1), .int g])) c = some (.lst (ns.map V.int)) := by rw [upd_ne cp]; exact hc
      show _
      refine ⟨_, rfl, _, _, rfl, rfl, .inl ⟨by decide, by decide⟩, _, _, rfl, rfl, ?_⟩
      refine ⟨fun σ' H' => ∃ raw : Int, σ' = [some (.ref p), some (.int m), Option.none, some (.int i), some (.int raw), Option.none, Option.none] ∧ Same (upd H p (.lst [.ref c, .int (i + 1), .int g])) H', ?_, ?_⟩
      · refine ⟨_, rfl, p, _, _, _, rfl, rfl, SqL.of hp1, rfl, Nat.zero_le _, fun l hl0 => ?_⟩
        refine ⟨.list (ns.map PyData.int), .list [], .lst (SqL.of (same_new hl0 _ _ hc1)) (dp_ints ns), .lst (SqL.of upd_same) .nil, PySem.W.ke_shaped_ints ns, by decide +kernel, _, rfl, ?_⟩
        have s1 := same_new (o := .lst []) hl0
        cases ns with
        | nil => exact iteF ⟨_, rfl, s1⟩
        | cons z r =>
          refine iteT ?_
          refine ⟨_, rfl, p, _, _, _, rfl, rfl, SqL.of (s1 _ _ hp1), rfl, ?_⟩
          refine ⟨_, rfl, .inl ⟨_, rfl, ?_⟩⟩
          refine ⟨_, rfl, p, _, _, _, rfl, rfl, SqL.of (s1 _ _ hp1), rfl, c, _, rfl, .inl (SqL.of (s1 _ _ hc1)), _, _, rfl, rfl, ?_⟩
          have lp : (0 : Int) < (((z :: r).map V.int).length : Nat) := by rw [List.length_map, List.length_cons]; omega
          have fm := fmod_pos (x := i) lp
          have fm2 : i.fmod (((z :: r).map V.int).length : Nat) < (((z :: r).length : Nat) : Int) := by have := fm.2; rw [List.length_map] at this; rw [List.length_map]; exact this
          obtain ⟨y, hy⟩ := atI_in fm.1 fm2
          exact ⟨by omega, c, _, _, _, rfl, rfl, SqL.of (s1 _ _ hc1), hy, y, rfl, s1⟩
      · rintro σ' H' ⟨raw, rfl, s1⟩
        have hp2 := s1 _ _ hp1
        have hc2 := s1 _ _ hc1
        have f2 : Fr p H H' := f1.trans (same_fr s1)
        have penE : ∀ g' : Int, 0 ≤ g' → Pen (upd H' p (.lst [.ref c, .int (i + 1), .int g'])) p (n + 1) := fun g' h' => ⟨c, ns, i + 1, g', upd_same, by rw [upd_ne cp]; exact hc2, by omega, by omega, h', hl⟩
        refine ⟨fun σ'' H'' => σ'' = [some (.ref p), some (.int m), Option.none, some (.int i), some (.int raw), Option.none, Option.none] ∧ H'' = H', ?_, ?_⟩
        rotate_left
        · rintro σ'' H'' ⟨rfl, rfl⟩
          refine ⟨_, rfl, .inl ⟨_, rfl, ?_⟩⟩
          refine ⟨_, _, rfl, rfl, (by show (_ : Int) ≠ 0; decide), _, rfl, _, _, rfl, rfl, .inl ⟨by decide, by decide⟩, _, _, rfl, rfl, _, _, rfl, rfl, ?_⟩
          have r1 := fmod_pos (x := raw) (m := 2147483543) (by decide)
          refine ⟨_, _, rfl, rfl, ⟨by decide, by decide, stir1 r1.1 (by omega) i0 (by omega) (by decide) (by decide) (by decide) (by decide)⟩, .inl ⟨_, rfl, ?_⟩⟩
          refine ⟨_, _, rfl, rfl, (by show (_ : Int) ≠ 0; decide), ?_⟩
          have r2 : ∀ x : Int, 0 ≤ x.fmod 2147483629 ∧ x.fmod 2147483629 < 2147483629 := fun x => fmod_pos (by decide)
          refine ⟨_, rfl, _, rfl, _, _, rfl, rfl, .inl ⟨by decide, by decide⟩, _, _, rfl, rfl, _, _, rfl, rfl, .inl (small64 (r2 _).1 (Int.lt_trans (r2 _).2 (by decide))), ?_⟩
          refine ⟨_, rfl, _, _, rfl, rfl, .inl ⟨by decide, by decide⟩, _, rfl, _, _, rfl, rfl, .inr ⟨by omega, by omega⟩, _, _, rfl, rfl, _, _, rfl, rfl, ?_⟩
          refine ⟨_, _, rfl, rfl, ⟨by decide, by decide, stir2 (r2 _).1 (Int.lt_trans (r2 _).2 (by decide)) i0 (by omega) (by decide) (by decide) (by decide) (by decide) (by decide) (by decide)⟩, .inl ⟨_, rfl, ?_⟩⟩
          refine ⟨_, _, rfl, rfl, (by show (_ : Int) ≠ 0; decide), ?_⟩
          refine ⟨_, rfl, _, _, rfl, rfl, wide_div (b := 10) (by decide) (by decide) (by decide) (by decide), .inl ⟨_, rfl, ?_⟩⟩
          refine ⟨_, rfl, _, _, rfl, rfl, (by omega), ?_⟩
          have fm := fun x => fmod_pos (x := x) hm
          exact k _ _ (fm _).1 (fm _).2 ⟨c, ns, i + 1, g, hp2, hc2, by omega, by omega, g0, hl⟩ f2
        refine ⟨_, rfl, _, rfl, p, _, _, _, rfl, rfl, SqL.of hp2, rfl, c, _, rfl, .inl (SqL.of hc2), _, _, rfl, rfl, _, rfl, ?_⟩
        refine ite2 (fun hlt => ?_) (fun hlt => ?_)
        · refine ⟨_, rfl, _, rfl, _, _, rfl, rfl, ⟨by decide, by decide, by decide⟩, _, _, rfl, rfl, _, rfl, ?_⟩
          refine ite2 (fun hge => ?_) (fun hge => ?_)
          · have hge := of_decide_eq_true hge
            refine ⟨_, rfl, _, rfl, _, _, rfl, rfl, ⟨by decide, by decide, by decide⟩, _, _, rfl, rfl, _, _, rfl, rfl, .inl ⟨by decide, by decide⟩, ?_⟩
            refine ⟨_, rfl, _, _, rfl, rfl, .inr ⟨_, rfl, ?_⟩⟩
            refine ⟨_, _, rfl, rfl, ?_⟩
            have gpos : (0 : Int) ≤ 2 * ((if raw < 0 then -raw else raw) - 10 ^ (18 : Int).toNat) + (if decide (raw < 0) = true then 1 else 0) := by
              have : (0 : Int) ≤ (if decide (raw < 0) = true then 1 else 0) := by split <;> omega
              omega
            refine ⟨_, rfl, .inl ⟨_, rfl, ?_⟩⟩
            refine ⟨_, rfl, _, _, rfl, rfl, wide_div hm mb (by decide) (by decide), ?_⟩
            refine ⟨_, rfl, p, _, _, _, rfl, rfl, hp2, rfl, ?_⟩
            refine ⟨_, rfl, .inl ⟨_, rfl, ?_⟩⟩
            refine ⟨_, rfl, _, _, rfl, rfl, (by omega), ?_⟩
            have fm := fun x => fmod_pos (x := x) hm
            exact k _ _ (fm _).1 (fm _).2 (penE _ (Int.ediv_nonneg gpos (by omega))) (f2.trans (fr_upd hp2))
          · exact ⟨rfl, rfl⟩
        · exact ⟨rfl, rfl⟩

def spPick (K : PySem.W.Frag) : Sp := fun vs H Q _ => ∃ (p l : Addr) (xs : List V) (n : Nat), vs = [.ref p, .ref l] ∧ SqL K H l xs ∧ l ≠ p ∧ 0 < xs.length ∧ xs.length < 1000000 ∧ Pen H p n ∧ n < 100000 ∧ ∀ (x : V) (H' : Hp), x ∈ xs → Pen H' p (n + 1) → Fr p H H' → Q x H'
theorem ok_pick (T : Txt K mg) : FnOk P w K mg base CX0 2 T.a_pick T.fd_pick ["_law_pen_here", "_law_some"] (spPick K) := by
  refine T.F_pick.ok sc_pick (fun vs H Q E h => ?_) (fun cdv A outer s H vs Q E hr h => ?_)
  · obtain ⟨p, l, xs, n, rfl, _⟩ := h; rfl
  · obtain ⟨p, l, xs, n, rfl, hS, hne, h0, h1, hP, hn, k⟩ := h
    refine ⟨_, pss_one (ps_ret (pe_ix ix_list (pv 1) (pe_call (ok_draw T) (hr.mono (by decide)) rfl T.m_draw T.F_draw.kp (b_draw T) .nil pass0 (pa_cons (pv 0) (pa_cons (pe_callB call_len_seq (by rfl) T.n_len (by decide +kernel) (pa_cons (pv 1) (pa_nil))) (pa_nil)))) (fun _ _ => rfl))), ?_⟩
    refine ⟨_, rfl, _, rfl, _, rfl, l, xs, rfl, .inl hS, p, _, n, rfl, (by omega), (by omega), hP, hn, fun r H' r0 r1 hP' fr => ?_⟩
    obtain ⟨x, hx, he⟩ := atI_any r0 r1
    exact ⟨l, xs, _, x, rfl, rfl, fr.seq hne hS, he, k x H' hx hP' fr⟩
/-! ### what is neither the pen nor a table stays -/
open Classical in
noncomputable def core (p : Addr) (H : Hp) : Hp := fun b => if b = p ∨ ∃ ps, H b = some (.tbl ps) then Option.none else H b
theorem core_sub {p : Addr} {H : Hp} : Same (core p H) H := fun b o e => by
  unfold core at e
  split at e
  · cases e
  · exact e
theorem core_at {p : Addr} {H : Hp} {a : Addr} {o : HO} (h : H a = some o) (n : a ≠ p) (nt : ∀ ps, o ≠ .tbl ps) : core p H a = some o := by
  unfold core
  rw [if_neg]
  · exact h
  · rintro (z | ⟨ps, z⟩)
    · exact n z
    · rw [h] at z
      exact nt ps (Option.some.inj z)
theorem core_of {p : Addr} {H : Hp} {a : Addr} {o : HO} (h : core p H a = some o) : a ≠ p ∧ (∀ ps, o ≠ .tbl ps) ∧ H a = some o := by
  have h2 := core_sub _ _ h
  unfold core at h
  split at h
  · cases h
  · rename_i n
    exact ⟨fun z => n (.inl z), fun ps z => n (.inr ⟨ps, z ▸ h2⟩), h2⟩
theorem core_fr {p : Addr} {H H' : Hp} (e : Fr p H H') : Same (core p H) H' := fun b o q => by
  obtain ⟨q1, _, q3⟩ := core_of q
  exact e b o q1 q3
theorem core_same {p : Addr} {H H' : Hp} (e : Same H H') : Same (core p H) H' := fun b o q => e b o (core_of q).2.2
theorem core_up {p : Addr} {H H' : Hp} (e : Same (core p H) H') : Same (core p H) (core p H') := fun b o q => by
  obtain ⟨q1, q2, _⟩ := core_of q
  exact core_at (e b o q) q1 q2
theorem SqL.same {K : PySem.W.Frag} {H H' : Hp} {a : Addr} {xs : List V} (s : Same H H') (h : SqL K H a xs) : SqL K H' a xs := by
  rcases h with (h | ⟨o, h⟩) | h
  · exact .inl (.inl (s _ _ h))
  · exact .inl (.inr ⟨o, s _ _ h⟩)
  · exact .inr h

theorem SqL.sameR {K : PySem.W.Frag} {H H' : Hp} {a : Addr} {xs : List V} (s : Same H H') (h : SqL K H a xs) : SqL K H' a xs := by
  rcases h with (h | ⟨o, h⟩) | h
  · exact .inl (.inl (s _ _ h))
  · exact .inl (.inr ⟨o, s _ _ h⟩)
  · exact .inr h
theorem SqT.same {K : PySem.W.Frag} {H H' : Hp} {a : Addr} {xs : List V} (s : Same H H') (h : SqT K H a xs) : SqT K H' a xs := by
  rcases h with (h | ⟨o, h⟩) | h
  · exact .inl (.inl (s _ _ h))
  · exact .inl (.inr ⟨o, s _ _ h⟩)
  · exact .inr h
mutual
theorem dp_same {K : PySem.W.Frag} {H H' : Hp} (s : Same H H') : ∀ (d : PyData) (v : V), Dp K H v d → Dp K H' v d
  | .none, _, h => by cases h; exact .non
  | .bool _, _, h => by cases h; exact .bl _
  | .int _, _, h => by cases h; exact .int _
  | .str _, _, h => by cases h; exact .str _
  | .list ds, _, h => by
    cases h with
    | lst h1 ha => exact .lst (SqL.sameR s h1) (dp_sameAll s ds _ ha)
  | .tuple ds, _, h => by
    cases h with
    | tup h1 ha => exact .tup (SqT.same s h1) (dp_sameAll s ds _ ha)
  | .dict _, _, h => by cases h
theorem dp_sameAll {K : PySem.W.Frag} {H H' : Hp} (s : Same H H') : ∀ (ds : List PyData) (vs : List V), DpAll K H vs ds → DpAll K H' vs ds
  | [], _, h => by cases h; exact .nil
  | d :: ds, _, h => by
    cases h with
    | cons h1 h2 => exact .cons (dp_same s d _ h1) (dp_sameAll s ds _ h2)
end

theorem shown_int120 {i : Int} (h : i.natAbs < 10 ^ 120) : (PyData.shown (.int i)).length ≤ 121 := by
  have e := int_text_length_le10 (k := 120) (by decide) h
  show (Str.ofString (toString i)).length ≤ 121
  rw [PySem.ofString_length]; exact e
theorem log_int120 {i : Int} (h : i.natAbs < 10 ^ 120) : i.natAbs.log2 < 399 := by
  by_cases n0 : i.natAbs = 0
  · rw [n0]; decide
  · exact (Nat.log2_lt n0).mpr (Nat.lt_of_lt_of_le h (by decide +kernel))
theorem weight_int120 {i : Int} (h : i.natAbs < 10 ^ 120) : (PyData.int i).weight ≤ 400 := by
  have l := log_int120 h
  simp only [PyData.weight]
  split <;> omega
/-- shown without harm -/
def Fine (n : Nat) (d : PyData) : Prop := d.showable = true ∧ d.leavesShort 121 = true ∧ d.weight ≤ n
theorem Fine.int {i : Int} (h : i.natAbs < 10 ^ 120) : Fine 400 (.int i) := by
  have l := log_int120 h
  refine ⟨?_, ?_, weight_int120 h⟩
  · simp only [PyData.showable, decide_eq_true_eq]; omega
  · simp only [PyData.leavesShort, decide_eq_true_eq]; exact shown_int120 h
def FineAll (n : Nat) (ds : List PyData) : Prop := PyData.showableAll ds = true ∧ PyData.leavesShortAll 121 ds = true ∧ PyData.weightAll ds ≤ n
theorem FineAll.nil : FineAll 0 [] := ⟨rfl, rfl, Nat.le_refl _⟩
theorem FineAll.cons {n m : Nat} {d : PyData} {ds : List PyData} (h : Fine n d) (g : FineAll m ds) : FineAll (n + 1 + m) (d :: ds) := by
  refine ⟨?_, ?_, ?_⟩
  · simp only [PyData.showableAll, h.1, g.1, Bool.and_self]
  · simp only [PyData.leavesShortAll, h.2.1, g.2.1, Bool.and_self]
  · have := h.2.2
    have := g.2.2
    simp only [PyData.weightAll]
    omega
theorem FineAll.tup {n : Nat} {ds : List PyData} (h : FineAll n ds) : Fine n (.tuple ds) :=
  ⟨by simp only [PyData.showable, h.1], by simp only [PyData.leavesShort, h.2.1], by simp only [PyData.weight]; exact h.2.2⟩
theorem Fine.mono {n m : Nat} {d : PyData} (l : n ≤ m) (h : Fine n d) : Fine m d := ⟨h.1, h.2.1, Nat.le_trans h.2.2 l⟩
theorem Fine.size {n : Nat} {d : PyData} (h : Fine n d) (l : n ≤ 10000) : d.shown.length ≤ sizeLine := by
  have z := PyData.shown_le 121 (by decide) d h.2.1
  have h2 : (121 + 2) * d.weight ≤ 123 * 10000 := Nat.mul_le_mul (by omega) (Nat.le_trans h.2.2 l)
  rw [sizeLine_eq]
  omega

theorem tyT {H : Hp} {a : Addr} {xs : List V} (h : SqT K H a xs) : TyX K H (.ref a) (.type "tuple") := by
  rcases h with (h | ⟨o, h⟩) | ⟨o, its, n, h1, h2, _⟩
  · exact (NT.tup h).ty
  · exact .fTuple h
  · exact .kTuple h1 h2
/-! ### fractions and gears as data -/
def frD (t : NG.Fr) : PyData := .tuple [.int t.1, .int t.2]
def grD (g : NG.Gr) : PyData := .tuple [.int g.on, .int g.dg, .int g.dn, frD g.s]
theorem dpAll_nil {H : Hp} {xs : List V} (h : DpAll K H xs []) : xs = [] := by cases h; rfl
theorem dp_int {H : Hp} {v : V} {i : Int} (h : Dp K H v (.int i)) : v = .int i := by cases h; rfl
theorem dp_tup {H : Hp} {v : V} {ds : List PyData} (h : Dp K H v (.tuple ds)) : ∃ a xs, v = .ref a ∧ SqT K H a xs ∧ DpAll K H xs ds := by
  cases h with
  | tup h1 h2 => exact ⟨_, _, rfl, h1, h2⟩
theorem dp_list {H : Hp} {v : V} {ds : List PyData} (h : Dp K H v (.list ds)) : ∃ a xs, v = .ref a ∧ SqL K H a xs ∧ DpAll K H xs ds := by
  cases h with
  | lst h1 h2 => exact ⟨_, _, rfl, h1, h2⟩
theorem dp_fr {H : Hp} {v : V} {t : NG.Fr} (h : Dp K H v (frD t)) : ∃ a, v = .ref a ∧ SqT K H a [.int t.1, .int t.2] := by
  obtain ⟨a, xs, rfl, h1, h2⟩ := dp_tup h
  cases h2 with
  | cons q1 h2 =>
    cases h2 with
    | cons q2 h2 =>
      cases h2
      rw [dp_int q1, dp_int q2] at h1
      exact ⟨a, rfl, h1⟩
theorem fr_dp {H : Hp} {a : Addr} {t : NG.Fr} (h : SqT K H a [.int t.1, .int t.2]) : Dp K H (.ref a) (frD t) := .tup h (.cons (.int _) (.cons (.int _) .nil))
theorem dp_gr {H : Hp} {v : V} {g : NG.Gr} (h : Dp K H v (grD g)) : ∃ a u, v = .ref a ∧ SqT K H a [.int g.on, .int g.dg, .int g.dn, u] ∧ Dp K H u (frD g.s) := by
  obtain ⟨a, xs, rfl, h1, h2⟩ := dp_tup h
  cases h2 with
  | cons q1 h2 =>
    cases h2 with
    | cons q2 h2 =>
      cases h2 with
      | cons q3 h2 =>
        cases h2 with
        | cons q4 h2 =>
          cases h2
          rw [dp_int q1, dp_int q2, dp_int q3] at h1
          exact ⟨a, _, rfl, h1, q4⟩
theorem gr_dp {H : Hp} {a : Addr} {u : V} {g : NG.Gr} (h : SqT K H a [.int g.on, .int g.dg, .int g.dn, u]) (hu : Dp K H u (frD g.s)) : Dp K H (.ref a) (grD g) := .tup h (.cons (.int _) (.cons (.int _) (.cons (.int _) (.cons hu .nil))))
theorem dpAll_at {α : Type} {f : α → PyData} {H : Hp} : ∀ {ts : List α} {xs : List V} {i : Nat} {t : α}, DpAll K H xs (ts.map f) → ts[i]? = some t → ∃ v, xs[i]? = some v ∧ Dp K H v (f t)
  | [], _, i, _, _, e => by simp at e
  | t :: ts, _, 0, _, h, e => by
    cases e
    cases h with
    | cons h1 h2 => exact ⟨_, rfl, h1⟩
  | t :: ts, _, i + 1, _, h, e => by
    cases h with
    | cons h1 h2 =>
      obtain ⟨v, e1, e2⟩ := dpAll_at (i := i) h2 (by simpa using e)
      exact ⟨v, by simpa using e1, e2⟩
theorem dpAll_at' {α : Type} {f : α → PyData} {H : Hp} : ∀ {ts : List α} {xs : List V} {i : Nat} {v : V}, DpAll K H xs (ts.map f) → xs[i]? = some v → ∃ t, ts[i]? = some t ∧ Dp K H v (f t)
  | [], _, i, _, h, e => by cases h; simp at e
  | t :: ts, _, 0, _, h, e => by
    cases h with
    | cons h1 h2 => cases e; exact ⟨_, rfl, h1⟩
  | t :: ts, _, i + 1, _, h, e => by
    cases h with
    | cons h1 h2 =>
      obtain ⟨v, e1, e2⟩ := dpAll_at' (i := i) h2 (by simpa using e)
      exact ⟨v, by simpa using e1, e2⟩
theorem dpAll_len {H : Hp} : ∀ {ds : List PyData} {xs : List V}, DpAll K H xs ds → xs.length = ds.length
  | [], _, h => by cases h; rfl
  | d :: ds, _, h => by
    cases h with
    | cons h1 h2 => rw [List.length_cons, List.length_cons, dpAll_len h2]
theorem dpAll_app {H : Hp} : ∀ {ds es : List PyData} {xs ys : List V}, DpAll K H xs ds → DpAll K H ys es → DpAll K H (xs ++ ys) (ds ++ es)
  | [], _, _, _, h, k => by cases h; exact k
  | d :: ds, _, _, _, h, k => by
    cases h with
    | cons h1 h2 => exact .cons h1 (dpAll_app h2 k)
def spFrac (K : PySem.W.Frag) : Sp := fun vs H Q _ => ∃ (v : V) (t : NG.Fr), vs = [v] ∧ Dp K H v (frD t) ∧ NG.FrOk t ∧ Q (.bl true) H
theorem ok_is_fraction (T : Txt K mg) : FnOk P w K mg base CX0 4 T.a_is_fraction T.fd_is_fraction ["value"] (spFrac K) := by
  refine T.F_is_fraction.ok sc_is_fraction (fun vs H Q E h => ?_) (fun cdv A outer s H vs Q E hr h => ?_)
  · obtain ⟨v, t, rfl, _⟩ := h; rfl
  · obtain ⟨v, t, rfl, hv, hk, k⟩ := h
    obtain ⟨a, rfl, hS⟩ := dp_fr hv
    obtain ⟨h1, h2, h3, h4⟩ := hk
    refine ⟨_, pss_cons (ps_if (PW.pt (pw_or (pt_not (pt_val (pe_callB call_isi (by rfl) T.n_isinstance (by decide +kernel) (pa_cons (pv 0) (pa_cons (pe_bltn (v := .ty "tuple") (u := .type "tuple") (by rfl) T.n_tuple (by decide +kernel) rfl) (pa_nil)))))) (pw_or1 (pt_cmpR op_ne (pe_callB call_len_seq (by rfl) T.n_len (by decide +kernel) (pa_cons (pv 0) (pa_nil))) (pe_int) (nomark _))))) (pss_one (ps_ret (pe_bl))) (pss_nil))
      (pss_one (ps_ret (pe_and (pe_call (ok_is_between T) (hr.mono (by decide)) rfl T.m_is_between T.F_is_between.kp (b_is_between T) .nil pass0 (pa_cons (pe_ix ix_tup (pv 0) (pe_int) (fun _ _ => rfl)) (pa_cons (pe_int) (pa_cons (pe_glob (v := .int 1000000) rfl T.m_MP T.r_MP) (pa_nil))))) (pe_one (pe_call (ok_is_between T) (hr.mono (by decide)) rfl T.m_is_between T.F_is_between.kp (b_is_between T) .nil pass0 (pa_cons (pe_ix ix_tup (pv 0) (pe_int) (fun _ _ => rfl)) (pa_cons (pe_int) (pa_cons (pe_glob (v := .int 1000000) rfl T.m_MP T.r_MP) (pa_nil))))))))), ?_⟩
    refine ⟨_, rfl, .ref a, .ty "tuple", .type "tuple", .type "tuple", true, rfl, (by constructor), tyT hS, kit_ty (by rfl), true, rfl, if_false_of rfl ?_⟩
    refine ⟨_, rfl, a, _, rfl, .inr hS, rfl, _, rfl, if_false_of (show (!decide (V.int 2 = V.int 2)) = false from by decide) ?_⟩
    refine ⟨_, rfl, a, _, 0, .int t.1, rfl, rfl, hS, rfl, t.1, 0, 1000000, rfl, h1, h2, true, rfl, iteT ?_⟩
    exact ⟨_, rfl, a, _, 1, .int t.2, rfl, rfl, hS, rfl, t.2, 1, 1000000, rfl, h3, h4, k⟩
def spLow (K : PySem.W.Frag) : Sp := fun vs H Q _ => ∃ (a b : Int), vs = [.int a, .int b] ∧ 0 < b ∧ b.natAbs < 2 ^ 200 ∧ ∀ (p : Addr) (H' : Hp), H p = Option.none → Same H H' → H' p = some (.tup [.int (NG.low a b).1, .int (NG.low a b).2]) → Q (.ref p) H'
theorem ok_least_terms (T : Txt K mg) : FnOk P w K mg base CX0 5 T.a_least_terms T.fd_least_terms ["top", "bottom"] (spLow K) := by
  refine T.F_least_terms.ok sc_least_terms (fun vs H Q E h => ?_) (fun cdv A outer s H vs Q E hr h => ?_)
  · obtain ⟨a, b, rfl, _⟩ := h; rfl
  · obtain ⟨a, b, rfl, hb, hb2, k⟩ := h
    refine ⟨_, pss_cons (ps_set (i := 2) sc_least_terms.nd rfl (Or.inl rfl) (pe_callR (ok_common T) (hr.mono (by decide)) T.F_common.kp rfl T.m_common pass0 (pa_cons (pv 0) (pa_cons (pv 1) (pa_nil)))))
      (pss_one (ps_ret (pe_tup (pa_cons (pe_op op_fdivW (pv 0) (pv 2)) (pa_cons (pe_op op_fdivW (pv 1) (pv 2)) (pa_nil)))))), ?_⟩
    refine ⟨_, rfl, _, rfl, (by show 2 ≤ sizeLine; decide), [a, b], rfl, fun H1 s1 => ?_⟩
    rw [NG.gcdL2]
    have g := NG.g2_pos (a := a) hb
    have gl := NG.g2_le (a := a) hb
    have c : ∀ i, CDivW i (NG.g2 a b) := fun i => wide_div (b := 200) g (by omega) (by decide) (by decide)
    refine ⟨_, rfl, _, rfl, rI_divW rfl (c _) ⟨_, rfl, _, rfl, rI_divW rfl (c _) ?_⟩⟩
    refine ⟨(by show 2 ≤ sizeLine; decide), fun p hp => k p _ (s1.free hp) (s1.trans (same_new hp)) upd_same⟩
def spIsGear (K : PySem.W.Frag) : Sp := fun vs H Q _ => ∃ (v : V) (g : NG.Gr) (i : Nat), vs = [v, .int ((i : Nat) + 1 : Int)] ∧ Dp K H v (grD g) ∧ NG.GrOk i g ∧ Q (.bl true) H
theorem ok_is_gear (T : Txt K mg) : FnOk P w K mg base CX0 6 T.a_is_gear T.fd_is_gear ["value", "ahead"] (spIsGear K) := by
  refine T.F_is_gear.ok sc_is_gear (fun vs H Q E h => ?_) (fun cdv A outer s H vs Q E hr h => ?_)
  · obtain ⟨v, g, i, rfl, _⟩ := h; rfl
  · obtain ⟨v, g, i, rfl, hv, hk, k⟩ := h
    obtain ⟨a, u, rfl, hS, hu⟩ := dp_gr hv
    obtain ⟨h1, h2, h3, h4, h5, h6, h7⟩ := hk
    refine ⟨_, pss_cons (ps_if (PW.pt (pw_or (pt_not (pt_val (pe_callB call_isi (by rfl) T.n_isinstance (by decide +kernel) (pa_cons (pv 0) (pa_cons (pe_bltn (v := .ty "tuple") (u := .type "tuple") (by rfl) T.n_tuple (by decide +kernel) rfl) (pa_nil)))))) (pw_or1 (pt_cmpR op_ne (pe_callB call_len_seq (by rfl) T.n_len (by decide +kernel) (pa_cons (pv 0) (pa_nil))) (pe_int) (nomark _))))) (pss_one (ps_ret (pe_bl))) (pss_nil))
      (pss_cons (ps_asg (pv 0) (pg_tup rfl (pgs_cons (pg_name (i := 2) sc_is_gear.nd rfl (Or.inl rfl)) (pgs_cons (pg_name (i := 3) sc_is_gear.nd rfl (Or.inl rfl)) (pgs_cons (pg_name (i := 4) sc_is_gear.nd rfl (Or.inl rfl)) (pgs_cons (pg_name (i := 5) sc_is_gear.nd rfl (Or.inl rfl)) (pgs_nil)))))))
      (pss_cons (ps_if (PW.pt (pw_or (pt_not (pt_val (pe_call (ok_is_between T) (hr.mono (by decide)) rfl T.m_is_between T.F_is_between.kp (b_is_between T) .nil pass0 (pa_cons (pv 2) (pa_cons (pe_int) (pa_cons (pe_op op_sub (pv 1) (pe_int)) (pa_nil))))))) (pw_or1 (pt_not (pt_val (pe_call (ok_is_fraction T) (hr.mono (by decide)) rfl T.m_is_fraction T.F_is_fraction.kp (b_is_fraction T) .nil pass0 (pa_cons (pv 5) (pa_nil)))))))) (pss_one (ps_ret (pe_bl))) (pss_nil))
      (pss_one (ps_ret (pe_and (pe_call (ok_is_between T) (hr.mono (by decide)) rfl T.m_is_between T.F_is_between.kp (b_is_between T) .nil pass0 (pa_cons (pv 3) (pa_cons (pe_int) (pa_cons (pe_glob (v := .int 1000) rfl T.m_MT T.r_MT) (pa_nil))))) (pe_one (pe_call (ok_is_between T) (hr.mono (by decide)) rfl T.m_is_between T.F_is_between.kp (b_is_between T) .nil pass0 (pa_cons (pv 4) (pa_cons (pe_int) (pa_cons (pe_glob (v := .int 1000) rfl T.m_MT T.r_MT) (pa_nil))))))))))), ?_⟩
    refine ⟨_, rfl, .ref a, .ty "tuple", .type "tuple", .type "tuple", true, rfl, (by constructor), tyT hS, kit_ty (by rfl), true, rfl, if_false_of rfl ?_⟩
    refine ⟨_, rfl, a, _, rfl, .inr hS, rfl, _, rfl, if_false_of (show (!decide (V.int 4 = V.int 4)) = false from by decide) ?_⟩
    refine ⟨_, rfl, a, _, rfl, hS, rfl, _, _, rfl, _, _, rfl, _, _, rfl, _, _, rfl, rfl, ?_⟩
    refine ⟨_, rfl, _, rfl, _, _, rfl, rfl, g.on, 0, _, rfl, h1, (by omega), true, rfl, if_false_of rfl ?_⟩
    refine ⟨_, rfl, u, g.s, rfl, hu, h7, true, rfl, if_false_of rfl ?_⟩
    refine ⟨_, rfl, g.dg, 1, 1000, rfl, h3, h4, true, rfl, iteT ?_⟩
    exact ⟨_, rfl, g.dn, 1, 1000, rfl, h5, h6, k⟩
/-- all gears, in order -/
def spNeed (K : PySem.W.Frag) : Sp := fun vs H Q _ => ∃ (a : Addr) (gs : List NG.Gr), vs = [.ref a] ∧ Dp K H (.ref a) (.tuple (gs.map grD)) ∧ NG.GsFrom 0 gs ∧ gs.length ≤ 6 ∧ ∀ H', Same H H' → Q .non H'
theorem ok_need_gears (T : Txt K mg) : FnOk P w K mg base CX0 7 T.a_need_gears T.fd_need_gears ["gears"] (spNeed K) := by
  refine T.F_need_gears.ok sc_need_gears (fun vs H Q E h => ?_) (fun cdv A outer s H vs Q E hr h => ?_)
  · obtain ⟨a, gs, rfl, _⟩ := h; rfl
  · obtain ⟨a, gs, rfl, hv, hk, hl, k⟩ := h
    obtain ⟨_, xs, e, hS, hA⟩ := dp_tup hv
    cases e
    have lx : xs.length = gs.length := by rw [dpAll_len hA, List.length_map]
    refine ⟨_, pss_cons (ps_if (pt_cmpR op_gt (pe_callB call_len_seq (by rfl) T.n_len (by decide +kernel) (pa_cons (pv 0) (pa_nil))) (pe_glob (v := .int 6) rfl T.m_MG T.r_MG) (nomark _)) (pss_one (ps_never)) (pss_nil))
      (pss_one (ps_for PassesOwn.never rfl (pi_enum2 (by rfl) T.n_enumerate (pa_cons (pv 0) pa_nil)) (pg_tup rfl (pgs_cons (pg_name (i := 1) sc_need_gears.nd rfl (Or.inl rfl)) (pgs_cons (pg_name (i := 2) sc_need_gears.nd rfl (Or.inl rfl)) (pgs_nil)))) (pss_one (ps_if (pt_not (pt_val (pe_call (ok_is_gear T) (hr.mono (by decide)) rfl T.m_is_gear T.F_is_gear.kp (b_is_gear T) .nil pass0 (pa_cons (pv 2) (pa_cons (pe_op op_add (pv 1) (pe_int)) (pa_nil)))))) (pss_one (ps_never)) (pss_nil))))), ?_⟩
    refine ⟨_, rfl, a, _, rfl, .inr hS, _, _, rfl, rfl, _, rfl, if_false_of (decide_eq_false (by omega)) ?_⟩
    refine ⟨_, rfl, a, xs, rfl, .inr ⟨hS, for_enumT (K := K) (a := a) (xs := xs) (fun i σ H' => Same H H' ∧ ∃ x1 x2 : Option V, σ = [some (.ref a), x1, x2]) ⟨fun _ _ z => z, _, _, rfl⟩ (fun i σ H' _ z => SqT.same z.1 hS) ?_ ?_⟩⟩
    · rintro i y σ H' c hy ⟨s1, x1, x2, rfl⟩ hc
      obtain ⟨g, hg, hgd⟩ := dpAll_at' hA hy
      have hgk := hk.at hg
      rw [Nat.zero_add] at hgk
      have s2 := s1.trans (same_new (o := .tup [.int (i : Nat), y]) hc)
      refine ⟨c, _, rfl, SqT.of upd_same, rfl, _, _, rfl, _, _, rfl, rfl, ?_⟩
      refine ⟨_, rfl, _, rfl, _, _, rfl, rfl, y, g, i, rfl, dp_same s2 _ _ hgd, hgk, true, rfl, iteF ?_⟩
      exact ⟨s2, _, _, rfl⟩
    · rintro σ H' ⟨s1, x1, x2, rfl⟩
      exact k _ s1
/-- all but lists stay -/
def Kp (H H' : Hp) : Prop := ∀ b o, (∀ xs, o ≠ .lst xs) → H b = some o → H' b = some o
theorem Kp.of {H H' : Hp} (s : Same H H') : Kp H H' := fun b o _ e => s b o e
theorem Kp.trans {H H1 H2 : Hp} (s : Kp H H1) (t : Kp H1 H2) : Kp H H2 := fun b o n e => t b o n (s b o n e)
theorem kp_but {p : Addr} {H H' : Hp} {xs : List V} (hp : H p = some (.lst xs)) (s : But p H H') : Kp H H' := fun b o n e => s b o (fun z => by rw [z, hp] at e; exact n xs (Option.some.inj e).symm) e
theorem kp_upd {p : Addr} {H : Hp} {xs : List V} {o : HO} (hp : H p = some (.lst xs)) : Kp H (upd H p o) := kp_but hp but_upd
theorem SqT.kp {H H' : Hp} {a : Addr} {xs : List V} (s : Kp H H') (h : SqT K H a xs) : SqT K H' a xs := by
  rcases h with (h | ⟨o, h⟩) | h
  · exact .inl (.inl (s _ _ (fun _ z => by cases z) h))
  · exact .inl (.inr ⟨o, s _ _ (fun _ z => by cases z) h⟩)
  · exact .inr h
mutual
def noLst : PyData → Bool
  | .list _ => false
  | .tuple ds => noLstAll ds
  | _ => true
def noLstAll : List PyData → Bool
  | [] => true
  | d :: ds => noLst d && noLstAll ds
end
mutual
theorem dp_kp {H H' : Hp} (s : Kp H H') : ∀ (d : PyData) (v : V), noLst d = true → Dp K H v d → Dp K H' v d
  | .none, _, _, h => by cases h; exact .non
  | .bool _, _, _, h => by cases h; exact .bl _
  | .int _, _, _, h => by cases h; exact .int _
  | .str _, _, _, h => by cases h; exact .str _
  | .list ds, _, n, h => by simp [noLst] at n
  | .tuple ds, _, n, h => by
    cases h with
    | tup h1 ha => exact .tup (SqT.kp s h1) (dp_kpAll s ds _ (by simpa [noLst] using n) ha)
  | .dict _, _, _, h => by cases h
theorem dp_kpAll {H H' : Hp} (s : Kp H H') : ∀ (ds : List PyData) (vs : List V), noLstAll ds = true → DpAll K H vs ds → DpAll K H' vs ds
  | [], _, _, h => by cases h; exact .nil
  | d :: ds, _, n, h => by
    have n : noLst d = true ∧ noLstAll ds = true := by simpa [noLstAll] using n
    cases h with
    | cons h1 h2 => exact .cons (dp_kp s d _ n.1 h1) (dp_kpAll s ds _ n.2 h2)
end
theorem nl_fr (t : NG.Fr) : noLst (frD t) = true := rfl
theorem nl_gr (g : NG.Gr) : noLst (grD g) = true := rfl
theorem nl_all {α : Type} {f : α → PyData} (h : ∀ t, noLst (f t) = true) : ∀ ts : List α, noLstAll (ts.map f) = true
  | [] => rfl
  | t :: ts => by
    rw [List.map_cons]
    unfold noLstAll
    rw [h t, nl_all h ts]
    rfl
theorem nl_frs (ts : List NG.Fr) : noLst (.tuple (ts.map frD)) = true := by unfold noLst; exact nl_all nl_fr ts
theorem nl_grs (ts : List NG.Gr) : noLst (.tuple (ts.map grD)) = true := by unfold noLst; exact nl_all nl_gr ts
def spPers (K : PySem.W.Frag) : Sp := fun vs H Q _ => ∃ (p : Int) (a : Addr) (gs : List NG.Gr), vs = [.int p, .ref a] ∧ Dp K H (.ref a) (.tuple (gs.map grD)) ∧ (1 ≤ p ∧ p ≤ 1000000) ∧ NG.GsFrom 0 gs ∧ gs.length ≤ 6 ∧
  ∀ (q : Addr) (H' : Hp), Same H H' → Dp K H' (.ref q) (.tuple ((NG.pers p gs).map frD)) → Q (.ref q) H'
/-- the products of a step, their bounds -/
theorem step_ok {p : Int} {gs : List NG.Gr} {i : Nat} {g : NG.Gr} (hp : 1 ≤ p ∧ p ≤ 1000000) (hk : NG.GsFrom 0 gs) (hl : gs.length ≤ 6) (hg : gs[i]? = some g) :
    ∃ t : NG.Fr, (NG.pers p (gs.take i))[g.on.toNat]? = some t ∧ NG.pers p (gs.take (i + 1)) = NG.pers p (gs.take i) ++ [NG.low (t.1 * g.dn) (t.2 * g.dg)] ∧ g.on = ((g.on.toNat : Nat) : Int) ∧
      CMulW t.1 g.dn ∧ CMulW t.2 g.dg ∧ 0 < t.1 * g.dn ∧ 0 < t.2 * g.dg ∧ (t.2 * g.dg).natAbs < 2 ^ 200 ∧ t.1 * g.dn < 10 ^ 100 ∧ t.2 * g.dg < 10 ^ 100 := by
  have hgk := hk.at hg
  rw [Nat.zero_add] at hgk
  have hi : i < gs.length := (List.getElem?_eq_some_iff.mp hg).1
  have hb := NG.pers_ok hp hk i (by omega)
  have hlen : (NG.pers p (gs.take i)).length = i + 1 := by
    rw [NG.pers_len, List.length_take]
    omega
  obtain ⟨o1, o2, d1, d2, e1, e2, _⟩ := hgk
  obtain ⟨q1, q2⟩ := NG.getD_ok (i := g.on.toNat) hb (by rw [hlen]; omega)
  obtain ⟨m1, m2, m3, m4⟩ := q2
  have b6 : NG.bnd i ≤ 1000000000000000000000000 := Int.le_trans (NG.bnd_mono (show i ≤ 6 by omega)) (by decide)
  have x1 := NG.mul_ok m1 m2 e1 e2
  have x2 := NG.mul_ok m3 m4 d1 d2
  refine ⟨_, q1, NG.pers_take hg, by omega, ?_, ?_, x1.1, x2.1, by omega, ?_, ?_⟩
  · exact wide_mul (a := 100) (b := 100) (by omega) (by omega) (by decide) (by decide) (by decide)
  · exact wide_mul (a := 100) (b := 100) (by omega) (by omega) (by decide) (by decide) (by decide)
  · refine Int.lt_of_le_of_lt x1.2 (Int.lt_of_le_of_lt (b := 1000000000000000000000000000) (by omega) (by decide))
  · refine Int.lt_of_le_of_lt x2.2 (Int.lt_of_le_of_lt (b := 1000000000000000000000000000) (by omega) (by decide))
theorem ok_periods_of (T : Txt K mg) : FnOk P w K mg base CX0 7 T.a_periods_of T.fd_periods_of ["period", "gears"] (spPers K) := by
  refine T.F_periods_of.ok sc_periods_of (fun vs H Q E h => ?_) (fun cdv A outer s H vs Q E hr h => ?_)
  · obtain ⟨p, a, gs, rfl, _⟩ := h; rfl
  · obtain ⟨p, a, gs, rfl, hv, hp, hk, hl, k⟩ := h
    obtain ⟨_, xs, e, hS, hA⟩ := dp_tup hv
    cases e
    have lx : xs.length = gs.length := by rw [dpAll_len hA, List.length_map]
    refine ⟨_, pss_cons (ps_set (i := 2) sc_periods_of.nd rfl (Or.inl rfl) (pe_lst (pa_cons (pe_tup (pa_cons (pv 0) (pa_cons (pe_int) (pa_nil)))) (pa_nil))))
      (pss_cons (ps_for PassesOwn.never rfl (pi_tup (pv 1)) (pg_tup rfl (pgs_cons (pg_name (i := 3) sc_periods_of.nd rfl (Or.inl rfl)) (pgs_cons (pg_name (i := 4) sc_periods_of.nd rfl (Or.inl rfl)) (pgs_cons (pg_name (i := 5) sc_periods_of.nd rfl (Or.inl rfl)) (pgs_cons (pg_name (i := 6) sc_periods_of.nd rfl (Or.inl rfl)) (pgs_nil)))))) (pss_cons (ps_asg (pe_ix ix_list (pv 2) (pv 3) (fun _ _ => rfl)) (pg_tup rfl (pgs_cons (pg_name (i := 7) sc_periods_of.nd rfl (Or.inl rfl)) (pgs_cons (pg_name (i := 8) sc_periods_of.nd rfl (Or.inl rfl)) (pgs_nil)))))
      (pss_one (ps_expr (pe_bm PySem.F.plainAttrs_list PySem.F.slot_list_append PySem.F.type_list_append mt_append (pv 2) (pa_cons (pe_call (ok_least_terms T) (hr.mono (by decide)) rfl T.m_least_terms T.F_least_terms.kp (b_least_terms T) .nil pass0 (pa_cons (pe_op op_mulW (pv 7) (pv 5)) (pa_cons (pe_op op_mulW (pv 8) (pv 4)) (pa_nil)))) (pa_nil)))))))
      (pss_one (ps_ret (pe_callTy call_tuple_of (by rfl) T.n_tuple (by decide +kernel) (pa_cons (pv 2) (pa_nil)))))), ?_⟩
    refine ⟨_, rfl, (by show 2 ≤ sizeLine; decide), fun p0 hp0 => ⟨(by show 1 ≤ sizeLine; decide), fun L hL => ?_⟩⟩
    have s0 : Same H (upd (upd H p0 (.tup [.int p, .int 1])) L (.lst [.ref p0])) := (same_new hp0).trans (same_new hL)
    have hL0 : H L = Option.none := (same_new hp0).free hL
    refine ⟨_, rfl, a, rfl, ⟨_, SqT.same s0 hS⟩, for_tup (K := K) (a := a) (xs := xs) (fun i σ H' => Same H H' ∧ (∃ ys, H' L = some (.lst ys) ∧ DpAll K H' ys ((NG.pers p (gs.take i)).map frD)) ∧ ∃ x3 x4 x5 x6 x7 x8 : Option V, σ = [some (.int p), some (.ref a), some (.ref L), x3, x4, x5, x6, x7, x8]) ⟨s0, ⟨_, upd_same, ?_⟩, _, _, _, _, _, _, rfl⟩ (fun i σ H' _ z => SqT.same z.1 hS) ?_ ?_⟩
    · have hp1 : upd (upd H p0 (.tup [.int p, .int 1])) L (.lst [.ref p0]) p0 = some (.tup [.int p, .int 1]) := by rw [upd_ne (ne_of_none upd_same hL), upd_same]
      exact .cons (fr_dp (t := (p, 1)) (SqT.of hp1)) .nil
    · rintro i y σ H' hy ⟨s1, ⟨ys, hys, hD⟩, x3, x4, x5, x6, x7, x8, rfl⟩
      obtain ⟨g, hg, hgd⟩ := dpAll_at' hA hy
      obtain ⟨t, ht, hnx, hon, c1, c2, b1, b2, b3, _⟩ := step_ok hp hk hl hg
      obtain ⟨ga, u, rfl, hG, hu⟩ := dp_gr (dp_same s1 _ _ hgd)
      obtain ⟨v, hv1, hv2⟩ := dpAll_at hD ht
      obtain ⟨va, rfl, hV⟩ := dp_fr hv2
      refine ⟨ga, _, rfl, hG, rfl, _, _, rfl, _, _, rfl, _, _, rfl, _, _, rfl, rfl, ?_⟩
      refine ⟨_, rfl, _, rfl, L, ys, g.on, _, rfl, rfl, SqL.of hys, (by rw [hon]; exact atI_nat hv1), va, _, rfl, hV, rfl, _, _, rfl, _, _, rfl, rfl, ?_⟩
      refine ⟨_, rfl, .inl ⟨rfl, _, SqL.of hys⟩, _, rfl, _, rfl, rI_mulW rfl c1 ⟨_, rfl, _, rfl, rI_mulW rfl c2 ?_⟩⟩
      refine ⟨_, _, rfl, b2, b3, fun q H2 hq s2 h2 => ?_⟩
      refine ⟨L, ys, _, rfl, rfl, s2 _ _ hys, ?_, ?_⟩
      · rw [dpAll_len hD, List.length_map, NG.pers_len, List.length_take, sizeLine_eq]
        omega
      · have h3 := s2 _ _ hys
        have nqL : q ≠ L := fun z => by rw [z, h3] at h2; cases h2
        have kp := kp_upd (o := .lst (ys ++ [.ref q])) h3
        refine ⟨fun b o e => ?_, ⟨_, upd_same, ?_⟩, _, _, _, _, _, _, rfl⟩
        · rw [upd_ne (ne_of_none e hL0)]
          exact s2 _ _ (s1 _ _ e)
        · rw [hnx, List.map_append]
          refine dpAll_app (dp_kpAll kp _ _ (nl_all nl_fr _) (dp_sameAll s2 _ _ hD)) (.cons (fr_dp (SqT.of ?_)) .nil)
          rw [upd_ne nqL]
          exact h2
    · rintro σ H' ⟨s1, ⟨ys, hys, hD⟩, x3, x4, x5, x6, x7, x8, rfl⟩
      refine ⟨_, rfl, L, ys, rfl, .inl ⟨SqL.of hys, fun q hq => ?_⟩⟩
      refine k q _ (s1.trans (same_new hq)) (.tup (SqT.of upd_same) ?_)
      rw [lx, List.take_length] at hD
      exact dp_sameAll (same_new hq) _ _ hD

def spGearW (K : PySem.W.Frag) : Sp := fun vs H Q _ => ∃ (v : V) (g : NG.Gr) (i : Nat), vs = [v] ∧ Dp K H v (grD g) ∧ NG.GrOk i g ∧ i ≤ 6 ∧ Q (.str (NG.txtG g)) H
theorem num_fmt (i : Int) (h0 : 0 ≤ i) (h1 : i ≤ 1000000) : i.natAbs.log2 < 1920 ∧ (Str.ofString (toString i)).length ≤ 13 := ⟨Nat.lt_trans (PySem.Flt.log2_lt_of (show 0 < 64 by decide) (show i.natAbs < 2 ^ 64 by omega)) (by decide), NX.len_num h0 (by omega)⟩
theorem slen (a b : Str) : (a ++ b).length = a.length + b.length := by
  rw [TL.len_tl, TL.tl_append, List.length_append, ← TL.len_tl, ← TL.len_tl]
theorem ok_gear_words (T : Txt K mg) : FnOk P w K mg base CX0 1 T.a_gear_words T.fd_gear_words ["gear"] (spGearW K) := by
  refine T.F_gear_words.ok sc_gear_words (fun vs H Q E h => ?_) (fun cdv A outer s H vs Q E hr h => ?_)
  · obtain ⟨v, g, i, rfl, _⟩ := h; rfl
  · obtain ⟨v, g, i, rfl, hv, hk, hi, k⟩ := h
    obtain ⟨ga, u, rfl, hG, hu⟩ := dp_gr hv
    obtain ⟨ua, rfl, hU⟩ := dp_fr hu
    obtain ⟨h1, h2, h3, h4, h5, h6, h7, h8, h9, h10⟩ := hk
    obtain ⟨a1, a2⟩ := num_fmt g.on h1 (by omega)
    obtain ⟨b1, b2⟩ := num_fmt g.dg (by omega) (by omega)
    obtain ⟨c1, c2⟩ := num_fmt g.dn (by omega) (by omega)
    obtain ⟨d1, d2⟩ := num_fmt g.s.1 h7 (by omega)
    obtain ⟨e1, e2⟩ := num_fmt g.s.2 (by omega) (by omega)
    refine ⟨_, pss_cons (ps_asg (pv 0) (pg_tup rfl (pgs_cons (pg_name (i := 1) sc_gear_words.nd rfl (Or.inl rfl)) (pgs_cons (pg_name (i := 2) sc_gear_words.nd rfl (Or.inl rfl)) (pgs_cons (pg_name (i := 3) sc_gear_words.nd rfl (Or.inl rfl)) (pgs_cons (pg_name (i := 4) sc_gear_words.nd rfl (Or.inl rfl)) (pgs_nil)))))))
      (pss_one (ps_ret (pe_joinedT (PJ.cons (pe_fmt (pv 1)) (PJ.cons (pe_str) (PJ.cons (pe_fmt (pv 2)) (PJ.cons (pe_str) (PJ.cons (pe_fmt (pv 3)) (PJ.cons (pe_str) (PJ.cons (pe_fmt (pe_ix ix_tup (pv 4) (pe_int) (fun _ _ => rfl))) (PJ.cons (pe_str) (PJ.cons (pe_fmt (pe_ix ix_tup (pv 4) (pe_int) (fun _ _ => rfl))) (PJ.nil))))))))))))), ?_⟩
    refine ⟨_, rfl, ga, _, rfl, hG, rfl, _, _, rfl, _, _, rfl, _, _, rfl, _, _, rfl, rfl, ?_⟩
    refine ⟨_, rfl, .inr ⟨g.on, rfl, a1, _, rfl, ?_, _, rfl, ?_, _, rfl, .inr ⟨g.dg, rfl, b1, _, rfl, ?_, _, rfl, ?_, _, rfl, .inr ⟨g.dn, rfl, c1, _, rfl, ?_, _, rfl, ?_, _, rfl, ua, _, 0, .int g.s.1, rfl, rfl, hU, rfl, .inr ⟨g.s.1, rfl, d1, _, rfl, ?_, _, rfl, ?_, _, rfl, ua, _, 1, .int g.s.2, rfl, rfl, hU, rfl, .inr ⟨g.s.2, rfl, e1, _, rfl, ?_, ?_⟩⟩⟩⟩⟩⟩
    case refine_10 =>
      show Q (.str (Str.empty ++ NX.num g.on ++ " " ++ NX.num g.dg ++ " " ++ NX.num g.dn ++ " " ++ NX.num g.s.1 ++ " " ++ NX.num g.s.2)) H
      have e0 : ∀ x : Str, Str.empty ++ x = x := fun x => TL.ext_tl (by rw [TL.tl_append]; rfl)
      rw [e0]
      exact k
    all_goals
      simp only [slen]
      have z2 : (" " : Str).length = 1 := by decide
      have z0 : (Str.empty : Str).length = 0 := by decide
      rw [sizeLine_eq]
      omega
/-! ### a train -/
/-- at x a train of these parts, all in least terms -/
def TrAt (T : Txt K mg) (H : Hp) (x : Addr) (p : Int) (t : NG.Fr) (gs : List NG.Gr) : Prop := ∃ dx ag ap as,
  H x = some (.ins T.a_Train dx [("_gears", .ref ag), ("periods", .ref ap), ("slips", .ref as), ("unit", .int (NG.unitT p t gs))]) ∧ Dp K H (.ref ag) (.tuple (gs.map grD)) ∧ Dp K H (.ref ap) (.tuple ((NG.pers p gs).map frD)) ∧ Dp K H (.ref as) (.tuple ((NG.slps t gs).map frD))
theorem TrAt.kp {T : Txt K mg} {H H' : Hp} {x : Addr} {p : Int} {t : NG.Fr} {gs : List NG.Gr} (s : Kp H H') (h : TrAt T H x p t gs) : TrAt T H' x p t gs := by
  obtain ⟨dx, ag, ap, as, h1, h2, h3, h4⟩ := h
  exact ⟨dx, ag, ap, as, s _ _ (fun _ z => by cases z) h1, dp_kp s _ _ (nl_grs _) h2, dp_kp s _ _ (nl_frs _) h3, dp_kp s _ _ (nl_frs _) h4⟩
theorem TrAt.same {T : Txt K mg} {H H' : Hp} {x : Addr} {p : Int} {t : NG.Fr} {gs : List NG.Gr} (s : Same H H') (h : TrAt T H x p t gs) : TrAt T H' x p t gs := h.kp (.of s)
/-- what its __init__ is told: the instance, the period, the slip, the gears -/
def spTI (T : Txt K mg) (x pv sl : V) (rest : List V) (H : Hp) (Q : VK) : Prop := ∃ (xa dx : Addr) (p : Int) (t : NG.Fr) (gs : List NG.Gr), x = .ref xa ∧ pv = .int p ∧ H xa = some (.ins T.a_Train dx []) ∧ Dp K H sl (frD t) ∧ DpAll K H rest (gs.map grD) ∧ NG.TrOk p t gs ∧
  ∀ H', But xa H H' → TrAt T H' xa p (NG.lowF t) (gs.map NG.Gr.nrm) → Q .non H'
/-- all but instances stay -/
def Kt (H H' : Hp) : Prop := ∀ b o, (∀ C dx fs, o ≠ .ins C dx fs) → H b = some o → H' b = some o
theorem kt_but {x C dx : Addr} {H H' : Hp} {fs : List (Str × V)} (hx : H x = some (.ins C dx fs)) (s : But x H H') : Kt H H' := fun b o n e => s b o (fun z => by rw [z, hx] at e; exact n C dx fs (Option.some.inj e).symm) e
theorem SqT.kt {H H' : Hp} {a : Addr} {xs : List V} (s : Kt H H') (h : SqT K H a xs) : SqT K H' a xs := by
  rcases h with (h | ⟨o, h⟩) | h
  · exact .inl (.inl (s _ _ (fun _ _ _ z => by cases z) h))
  · exact .inl (.inr ⟨o, s _ _ (fun _ _ _ z => by cases z) h⟩)
  · exact .inr h
theorem SqL.kt {H H' : Hp} {a : Addr} {xs : List V} (s : Kt H H') (h : SqL K H a xs) : SqL K H' a xs := by
  rcases h with (h | ⟨o, h⟩) | h
  · exact .inl (.inl (s _ _ (fun _ _ _ z => by cases z) h))
  · exact .inl (.inr ⟨o, s _ _ (fun _ _ _ z => by cases z) h⟩)
  · exact .inr h
mutual
theorem dp_kt {H H' : Hp} (s : Kt H H') : ∀ (d : PyData) (v : V), Dp K H v d → Dp K H' v d
  | .none, _, h => by cases h; exact .non
  | .bool _, _, h => by cases h; exact .bl _
  | .int _, _, h => by cases h; exact .int _
  | .str _, _, h => by cases h; exact .str _
  | .list ds, _, h => by
    cases h with
    | lst h1 ha => exact .lst (SqL.kt s h1) (dp_ktAll s ds _ ha)
  | .tuple ds, _, h => by
    cases h with
    | tup h1 ha => exact .tup (SqT.kt s h1) (dp_ktAll s ds _ ha)
  | .dict _, _, h => by cases h
theorem dp_ktAll {H H' : Hp} (s : Kt H H') : ∀ (ds : List PyData) (vs : List V), DpAll K H vs ds → DpAll K H' vs ds
  | [], _, h => by cases h; exact .nil
  | d :: ds, _, h => by
    cases h with
    | cons h1 h2 => exact .cons (dp_kt s d _ h1) (dp_ktAll s ds _ h2)
end
/-- [e for .. in xs], every item read as data, the old things as they were -/
theorem lc_dpT {α : Type} {f r : α → PyData} {ts : List α} {a : Addr} {xs : List V} {g : TG} {tt : TT} {te : TE} {vs : List Nat} {σ : L2.St} {H1 : Hp} {D : Addr} {Qd : Hp → Prop} (hD : H1 D = Option.none) (hl : ts.length ≤ 1000) (hS : SqT K H1 a xs) (hx : DpAll K H1 xs (ts.map f)) (nl : ∀ t, noLst (r t) = true)
    (hs : ∀ (i : Nat) (t : α) (x : V) (H : Hp) (Qy : VK) (Qn : Hp → Prop), Same H1 H → ts[i]? = some t → xs[i]? = some x → Dp K H x (f t) → (∀ y H4, Same H H4 → Dp K H4 y (r t) → Qy y H4) → g x (wipe σ vs) H fun σ2 H2 => wipe σ2 vs = wipe σ vs ∧ tt σ2 H2 fun b H3 => if b = true then te σ2 H3 Qy else Qn H3)
    (hd : ∀ H ys, Same H1 H → H D = some (.lst ys) → DpAll K H ys (ts.map r) → Qd H) :
    ∃ W : Nat → Nat → Hp → Prop, (∃ m, W 0 m (upd H1 D (.lst []))) ∧ ∀ i m H, W i m H →
      ((Itt K a).stop i H ∧ Qd H) ∨ ((Itt K a).go i H ∧ ∃ Nx : Hp → Prop, (∀ H', Nx H' → ∃ m', m' < m ∧ W (i + 1) m' H') ∧ ∀ x H', (Itt K a).yld i H x H' → g x (wipe σ vs) H' fun σ2 H2 => wipe σ2 vs = wipe σ vs ∧ tt σ2 H2 fun b H3 =>
        if b = true then te σ2 H3 fun y H4 => ∃ acc, H4 D = some (.lst acc) ∧ acc.length < sizeLine ∧ Nx (upd H4 D (.lst (acc ++ [y]))) else Nx H3) := by
  have lx : xs.length = ts.length := by rw [dpAll_len hx, List.length_map]
  refine lc_tup (K := K) (a := a) (xs := xs) (fun i H => Same H1 H ∧ ∃ ys, H D = some (.lst ys) ∧ DpAll K H ys ((ts.take i).map r)) ⟨same_new hD, _, upd_same, by rw [List.take_zero]; exact .nil⟩ (fun i H _ h => SqT.same h.1 hS) ?_ ?_
  · rintro i x H hi ⟨s1, ys, hys, hA⟩
    obtain ⟨t, ht, hxd⟩ := dpAll_at' hx hi
    refine hs i t x H _ _ s1 ht hi (dp_same s1 _ _ hxd) fun y H4 s4 hy => ?_
    have h4 := s4 _ _ hys
    have kp := kp_upd (o := .lst (ys ++ [y])) h4
    refine ⟨ys, h4, ?_, fun b o e => ?_, _, upd_same, ?_⟩
    · have hlt := (List.getElem?_eq_some_iff.mp ht).1
      rw [dpAll_len hA, List.length_map, List.length_take, sizeLine_eq]
      omega
    · rw [upd_ne (ne_of_none e hD)]
      exact s4 _ _ (s1 _ _ e)
    · rw [NM.take_snoc ht, List.map_append]
      exact dpAll_app (dp_kpAll kp _ _ (nl_all nl _) (dp_sameAll s4 _ _ hA)) (.cons (dp_kp kp _ _ (nl t) hy) .nil)
  · rintro H ⟨s1, ys, hys, hA⟩
    rw [lx, List.take_length] at hA
    exact hd H ys s1 hys hA
theorem lc_dpL {α : Type} {f r : α → PyData} {ts : List α} {a : Addr} {xs : List V} {g : TG} {tt : TT} {te : TE} {vs : List Nat} {σ : L2.St} {H1 : Hp} {D : Addr} {Qd : Hp → Prop} (hD : H1 D = Option.none) (hl : ts.length ≤ 1000) (hS : SqL K H1 a xs) (hx : DpAll K H1 xs (ts.map f)) (nl : ∀ t, noLst (r t) = true)
    (hs : ∀ (i : Nat) (t : α) (x : V) (H : Hp) (Qy : VK) (Qn : Hp → Prop), Same H1 H → ts[i]? = some t → xs[i]? = some x → Dp K H x (f t) → (∀ y H4, Same H H4 → Dp K H4 y (r t) → Qy y H4) → g x (wipe σ vs) H fun σ2 H2 => wipe σ2 vs = wipe σ vs ∧ tt σ2 H2 fun b H3 => if b = true then te σ2 H3 Qy else Qn H3)
    (hd : ∀ H ys, Same H1 H → H D = some (.lst ys) → DpAll K H ys (ts.map r) → Qd H) :
    ∃ W : Nat → Nat → Hp → Prop, (∃ m, W 0 m (upd H1 D (.lst []))) ∧ ∀ i m H, W i m H →
      ((Itl K a).stop i H ∧ Qd H) ∨ ((Itl K a).go i H ∧ ∃ Nx : Hp → Prop, (∀ H', Nx H' → ∃ m', m' < m ∧ W (i + 1) m' H') ∧ ∀ x H', (Itl K a).yld i H x H' → g x (wipe σ vs) H' fun σ2 H2 => wipe σ2 vs = wipe σ vs ∧ tt σ2 H2 fun b H3 =>
        if b = true then te σ2 H3 fun y H4 => ∃ acc, H4 D = some (.lst acc) ∧ acc.length < sizeLine ∧ Nx (upd H4 D (.lst (acc ++ [y]))) else Nx H3) := by
  have lx : xs.length = ts.length := by rw [dpAll_len hx, List.length_map]
  refine lc_list (K := K) (a := a) (xs := xs) (fun i H => Same H1 H ∧ ∃ ys, H D = some (.lst ys) ∧ DpAll K H ys ((ts.take i).map r)) ⟨same_new hD, _, upd_same, by rw [List.take_zero]; exact .nil⟩ (fun i H _ h => SqL.sameR h.1 hS) ?_ ?_
  · rintro i x H hi ⟨s1, ys, hys, hA⟩
    obtain ⟨t, ht, hxd⟩ := dpAll_at' hx hi
    refine hs i t x H _ _ s1 ht hi (dp_same s1 _ _ hxd) fun y H4 s4 hy => ?_
    have h4 := s4 _ _ hys
    have kp := kp_upd (o := .lst (ys ++ [y])) h4
    refine ⟨ys, h4, ?_, fun b o e => ?_, _, upd_same, ?_⟩
    · have hlt := (List.getElem?_eq_some_iff.mp ht).1
      rw [dpAll_len hA, List.length_map, List.length_take, sizeLine_eq]
      omega
    · rw [upd_ne (ne_of_none e hD)]
      exact s4 _ _ (s1 _ _ e)
    · rw [NM.take_snoc ht, List.map_append]
      exact dpAll_app (dp_kpAll kp _ _ (nl_all nl _) (dp_sameAll s4 _ _ hA)) (.cons (dp_kp kp _ _ (nl t) hy) .nil)
  · rintro H ⟨s1, ys, hys, hA⟩
    rw [lx, List.take_length] at hA
    exact hd H ys s1 hys hA
theorem dp_intsEq {α : Type} {f : α → Int} {H : Hp} : ∀ {ts : List α} {ys : List V}, DpAll K H ys (ts.map fun t => .int (f t)) → ys = (ts.map f).map V.int
  | [], _, h => by cases h; rfl
  | t :: ts, _, h => by
    cases h with
    | cons h1 h2 => rw [dp_int h1, dp_intsEq h2]; rfl
/-- what __init__ is told, behind the binding -/
def spTB (T : Txt K mg) : Sp := fun vs H Q _ => ∃ (x pv sl : V) (rest : List V) (q : Addr) (H0 : Hp), vs = [x, pv, sl, .ref q] ∧ H0 q = Option.none ∧ H = upd H0 q (.tup rest) ∧ spTI T x pv sl rest H0 Q
theorem train_body (T : Txt K mg) : ∀ (cdv : Value) (A : Around) (outer : List Env) (s : Shared) (H : Hp) (vs : List V) (Q : VK) (E : XK), Room 8 (A.deeper (envOfC "Train.__init__" (defScope s_Train_init) s.heap.objs.size T.a_Train_init cdv)) → spTB T vs H Q E →
      ∃ t, PSs (cxOf CX0 P w K mg base ["self", "period", "slip", "gears", "on", "driving", "driven", "part", "gear", "bottoms", "top", "bottom"] "Train.__init__" (defScope s_Train_init) T.a_Train_init cdv A outer s H E) (defBody s_Train_init) t ∧ t { nx := fun _ H' => Q .non H', rt := Q } (start ["self", "period", "slip", "gears", "on", "driving", "driven", "part", "gear", "bottoms", "top", "bottom"] vs) H := by
  intro cdv A outer s H vs Q E hr h
  obtain ⟨x, pv, sl, rest, q, H0, rfl, hq, eH, xa, dx, p, t, gs, rfl, rfl, hx, hsl, hA, hok, k⟩ := h
  have s0 : Same H0 H := eH ▸ same_new hq
  have hT : SqT K H q rest := by rw [eH]; exact SqT.of upd_same
  have hg : Dp K H (.ref q) (.tuple (gs.map grD)) := .tup hT (dp_sameAll s0 _ _ hA)
  have hx := s0 _ _ hx
  refine ⟨_, PSs.nox (pss_cons (ps_if (pt_not (pt_val (pe_call (ok_is_between T) (hr.mono (by decide)) rfl T.m_is_between T.F_is_between.kp (b_is_between T) .nil pass0 (pa_cons (pv 1) (pa_cons (pe_int) (pa_cons (pe_glob (v := .int 1000000) rfl T.m_MP T.r_MP) (pa_nil))))))) (pss_one (ps_never)) (pss_nil))
      (pss_cons (ps_if (pt_not (pt_val (pe_call (ok_is_fraction T) (hr.mono (by decide)) rfl T.m_is_fraction T.F_is_fraction.kp (b_is_fraction T) .nil pass0 (pa_cons (pv 2) (pa_nil))))) (pss_one (ps_never)) (pss_nil))
      (pss_cons (ps_expr (pe_call (ok_need_gears T) (hr.mono (by decide)) rfl T.m_need_gears T.F_need_gears.kp (b_need_gears T) .nil pass0 (pa_cons (pv 3) (pa_nil))))
      (pss_cons (ps_fld (pv 0) (pe_callTy call_tuple_of (by rfl) T.n_tuple (by decide +kernel) (pa_cons (pe_lc (own := [("on", 4), ("driving", 5), ("driven", 6), ("part", 7)]) (tt := tYes) rfl sc_Train_init.nd (pi_tup (pv 3)) (blkOk_by (own := [("on", 4), ("driving", 5), ("driven", 6), ("part", 7)]) (N := ["self", "period", "slip", "gears", "on", "driving", "driven", "part", "gear", "bottoms", "top", "bottom"]) (sc := defScope s_Train_init) (by decide +kernel)) (fun _ _ _ _ _ => pg_tup2 K 4 (by rfl) (by rfl) (pgs_cons (pg_name (i := 4) sc_Train_init.nd rfl (Or.inl rfl)) (pgs_cons (pg_name (i := 5) sc_Train_init.nd rfl (Or.inl rfl)) (pgs_cons (pg_name (i := 6) sc_Train_init.nd rfl (Or.inl rfl)) (pgs_cons (pg_name (i := 7) sc_Train_init.nd rfl (Or.inl rfl)) (pgs_nil)))))) (fun _ _ _ _ _ => pts_nil) (fun _ _ _ _ _ => pe_tup (pa_cons (pv 4) (pa_cons (pv 5) (pa_cons (pv 6) (pa_cons (pe_callS1F K (by rfl) (ok_least_terms T) (hr.mono (by decide)) rfl T.m_least_terms T.F_least_terms.kp (b_least_terms T) pass0 (pv 7)) (pa_nil))))))) (pa_nil))) rfl)
      (pss_cons (ps_fld (pv 0) (pe_call (ok_periods_of T) (hr.mono (by decide)) rfl T.m_periods_of T.F_periods_of.kp (b_periods_of T) .nil pass0 (pa_cons (pv 1) (pa_cons (pv 3) (pa_nil)))) rfl)
      (pss_cons (ps_fld (pv 0) (pe_tup (pa_cons (pe_callS1F K (by rfl) (ok_least_terms T) (hr.mono (by decide)) rfl T.m_least_terms T.F_least_terms.kp (b_least_terms T) pass0 (pv 2)) (StX.pa_star (pe_lc (own := [("gear", 8)]) (g := gName 8) (tt := tYes) rfl sc_Train_init.nd (pi_tup (pe_fld (pv 0) rfl)) (blkOk_by (own := [("gear", 8)]) (N := ["self", "period", "slip", "gears", "on", "driving", "driven", "part", "gear", "bottoms", "top", "bottom"]) (sc := defScope s_Train_init) (by decide +kernel)) (fun _ _ _ _ _ => pg_name (i := 8) sc_Train_init.nd rfl (Or.inl rfl)) (fun _ _ _ _ _ => pts_nil) (fun _ _ _ _ _ => pe_ix (ix_tup2 K (by rfl)) (pv 8) (pe_int) (fun _ _ => rfl))) (pa_nil)))) rfl)
      (pss_cons (ps_setLc (i := 9) (own := [("top", 10), ("bottom", 11)]) (tt := tYes) rfl sc_Train_init.nd rfl rfl (sw_true rfl rfl rfl (by decide +kernel)) (pi_tup (pe_op op_catT (pe_fld (pv 0) rfl) (pe_fld (pv 0) rfl))) (blkOk_by (own := [("top", 10), ("bottom", 11)]) (N := ["self", "period", "slip", "gears", "on", "driving", "driven", "part", "gear", "bottoms", "top", "bottom"]) (sc := defScope s_Train_init) (by decide +kernel)) (fun _ _ _ _ _ => pg_tup2 K 2 (by rfl) (by rfl) (pgs_cons (pg_name (i := 10) sc_Train_init.nd rfl (Or.inl rfl)) (pgs_cons (pg_name (i := 11) sc_Train_init.nd rfl (Or.inl rfl)) (pgs_nil)))) (fun _ _ _ _ _ => pts_nil) (fun _ _ _ _ _ => pv 11))
      (pss_one (ps_fld (pv 0) (pe_callS1 (ok_multiple T) (hr.mono (by decide)) T.F_multiple.kp rfl T.m_multiple pass0 (pv 9)) rfl))))))))), ?_⟩
  refine ⟨_, rfl, p, 1, 1000000, rfl, hok.p.1, hok.p.2, true, rfl, if_false_of rfl ?_⟩
  refine ⟨_, rfl, sl, t, rfl, dp_same s0 _ _ hsl, hok.s, true, rfl, if_false_of rfl ?_⟩
  refine ⟨_, rfl, q, gs, rfl, hg, hok.g, hok.l, fun H1 s1 => ?_⟩
  have s01 := s0.trans s1
  refine ⟨_, rfl, q, rfl, ⟨_, SqT.same s1 hT⟩, fun D hD => lc_dpT (ts := gs) (f := grD) (r := fun g => grD g.nrm) hD (by have := hok.l; omega) (SqT.same s1 hT) (dp_sameAll s01 _ _ hA) (fun _ => rfl) ?_ ?_⟩
  · rintro i g y G Qy Qn sG hg hy hgd kk
    obtain ⟨ga, u, rfl, hG, hu⟩ := dp_gr hgd
    obtain ⟨ua, rfl, hU⟩ := dp_fr hu
    have hgk := hok.g.at hg
    obtain ⟨_, _, _, _, _, _, f1, f2, f3, f4⟩ := hgk
    refine ⟨ga, _, rfl, hG, rfl, _, _, rfl, _, _, rfl, _, _, rfl, _, _, rfl, rfl, rfl, ?_⟩
    refine ⟨_, rfl, _, rfl, _, rfl, _, rfl, ua, _, rfl, .inl hU, g.s.1, g.s.2, rfl, by omega, by omega, fun r H2 hr2 s2 h2 => ⟨(by show 4 ≤ sizeLine; decide), fun z hz => ?_⟩⟩
    have sz := same_new (o := .tup [.int g.on, .int g.dg, .int g.dn, .ref r]) hz
    refine kk _ _ (s2.trans sz) (gr_dp (g := g.nrm) (SqT.of upd_same) (fr_dp (t := NG.lowF g.s) (SqT.of (sz _ _ h2))))
  · rintro G ys sG hys hD2
    refine ⟨D, ys, rfl, .inl ⟨SqL.of hys, fun z hz => ?_⟩⟩
    have sz := same_new (o := .tup ys) hz
    have hxG := sz _ _ (sG _ _ (s1 _ _ hx))
    refine ⟨_, rfl, xa, _, dx, _, rfl, hxG, T.tcls, T.t_na _ (by simp), (by show 0 < 1000; decide), ?_⟩
    have agG : Dp K (upd G z (.tup ys)) (.ref z) (.tuple (gs.map fun g => grD g.nrm)) := .tup (SqT.of upd_same) (dp_sameAll sz _ _ hD2)
    have agG : Dp K (upd G z (.tup ys)) (.ref z) (.tuple ((gs.map NG.Gr.nrm).map grD)) := by rw [List.map_map]; exact agG
    have hgG := dp_same ((s1.trans sG).trans sz) _ _ hg
    have hslG := dp_same (((s0.trans s1).trans sG).trans sz) _ _ hsl
    have bb : But xa H0 (upd G z (.tup ys)) := .of (((s0.trans s1).trans sG).trans sz)
    generalize upd G z (.tup ys) = G1 at hxG agG hgG hslG bb
    refine ⟨_, rfl, _, rfl, p, q, gs, rfl, dp_kt (kt_but hxG but_upd) _ _ hgG, hok.p, hok.g, hok.l, fun ap H2 s2 hap => ?_⟩
    have agG := dp_same s2 _ _ (dp_kt (kt_but hxG but_upd) _ _ agG)
    have hslG := dp_same s2 _ _ (dp_kt (kt_but hxG but_upd) _ _ hslG)
    have bb := (bb.trans but_upd).trans (.of s2)
    have hx2 := s2 _ _ upd_same
    refine ⟨_, rfl, xa, _, dx, _, rfl, hx2, T.tcls, T.t_na _ (by simp), (by show 1 < 1000; decide), ?_⟩
    have b2 : But xa H2 (upd H2 xa (.ins T.a_Train dx (putF "periods" (V.ref ap) (putF "_gears" (V.ref z) [])))) := but_upd
    have w2 := kt_but hx2 b2
    have agG := dp_kt w2 _ _ agG
    have hap := dp_kt w2 _ _ hap
    obtain ⟨sa, rfl, hSl⟩ := dp_fr (dp_kt w2 _ _ hslG)
    have bb := bb.trans b2
    obtain ⟨f1, f2, f3, f4⟩ := hok.s
    refine ⟨_, rfl, sa, _, rfl, .inl hSl, t.1, t.2, rfl, by omega, by omega, fun r H3 hr3 s3 h3 => ?_⟩
    have hx3 := s3 _ _ upd_same
    have agG := dp_same s3 _ _ agG
    have hap := dp_same s3 _ _ hap
    have bb := bb.trans (.of s3)
    obtain ⟨_, xs, e, hSz, hAz⟩ := dp_tup agG
    cases e
    refine ⟨_, rfl, xa, _, dx, _, _, rfl, hx3, T.tcls, T.t_na _ (by simp), rfl, z, rfl, ⟨_, hSz⟩, fun D2 hD2' => lc_dpT (ts := gs.map NG.Gr.nrm) (f := grD) (r := fun g => frD g.s) hD2' (by rw [List.length_map]; have := hok.l; omega) hSz hAz (fun _ => rfl) ?_ ?_⟩
    · rintro i g y G Qy Qn sG hg hy hgd kk
      obtain ⟨ga, u, rfl, hG, hu⟩ := dp_gr hgd
      refine ⟨rfl, _, rfl, ga, _, 3, u, rfl, rfl, hG, rfl, kk _ _ (fun _ _ e => e) hu⟩
    · rintro G ys2 sG2 hys2 hD3
      refine ⟨D2, ys2, rfl, .inr (SqL.of hys2), ?_⟩
      have l2 : ys2.length = gs.length := by rw [dpAll_len hD3, List.length_map, List.length_map]
      refine ⟨by rw [List.length_cons, List.length_append, l2, sizeLine_eq]; have := hok.l; simp; omega, fun asl has => ?_⟩
      rw [List.append_nil]
      have sa4 := same_new (o := .tup (V.ref r :: ys2)) has
      have hx4 := sa4 _ _ (sG2 _ _ hx3)
      have r4 := sa4 _ _ (sG2 _ _ h3)
      have agG := dp_same (sG2.trans sa4) _ _ agG
      have hap := dp_same (sG2.trans sa4) _ _ hap
      have bb := bb.trans (.of (sG2.trans sa4))
      have hsl4 : Dp K (upd G asl (.tup (V.ref r :: ys2))) (.ref asl) (.tuple ((NG.slps (NG.lowF t) (gs.map NG.Gr.nrm)).map frD)) := by
        refine .tup (SqT.of upd_same) (.cons (fr_dp (t := NG.lowF t) (SqT.of r4)) ?_)
        rw [List.map_map]
        exact dp_sameAll sa4 _ _ hD3
      generalize upd G asl (.tup (V.ref r :: ys2)) = G4 at hx4 agG hap bb hsl4
      refine ⟨_, rfl, xa, _, dx, _, rfl, hx4, T.tcls, T.t_na _ (by simp), (by show 2 < 1000; decide), ?_⟩
      have b5 : But xa G4 (upd G4 xa (.ins T.a_Train dx (putF "slips" (V.ref asl) (putF "periods" (V.ref ap) (putF "_gears" (V.ref z) []))))) := but_upd
      have w5 := kt_but hx4 b5
      have agG := dp_kt w5 _ _ agG
      have hap := dp_kt w5 _ _ hap
      have hsl4 := dp_kt w5 _ _ hsl4
      have bb := bb.trans b5
      have hx5 : upd G4 xa (.ins T.a_Train dx (putF "slips" (V.ref asl) (putF "periods" (V.ref ap) (putF "_gears" (V.ref z) [])))) xa = some (.ins T.a_Train dx (putF "slips" (V.ref asl) (putF "periods" (V.ref ap) (putF "_gears" (V.ref z) [])))) := upd_same
      generalize upd G4 xa (.ins T.a_Train dx (putF "slips" (V.ref asl) (putF "periods" (V.ref ap) (putF "_gears" (V.ref z) [])))) = G5 at agG hap hsl4 bb hx5
      obtain ⟨_, xsP, e, hSP, hAP⟩ := dp_tup hap
      cases e
      obtain ⟨_, xsS, e, hSS, hAS⟩ := dp_tup hsl4
      cases e
      have lP : xsP.length = gs.length + 1 := by rw [dpAll_len hAP, List.length_map, NG.pers_len]
      have lS : xsS.length = gs.length + 1 := by rw [dpAll_len hAS, List.length_map]; unfold NG.slps; rw [List.length_cons, List.length_map, List.length_map]
      have hl6 := hok.l
      refine ⟨_, rfl, xa, _, dx, _, _, rfl, hx5, T.tcls, T.t_na _ (by simp), rfl, _, rfl, xa, _, dx, _, _, rfl, hx5, T.tcls, T.t_na _ (by simp), rfl, ap, asl, xsP, xsS, rfl, rfl, hSP, hSS, (fun z => by rw [z] at lP; simp at lP), (by rw [sizeLine_eq]; omega), (fun z => by rw [z] at lS; simp at lS), fun _ cw hcw => ?_⟩
      have sc := same_new (o := .tup (xsP ++ xsS)) hcw
      have hAll : DpAll K (upd G5 cw (.tup (xsP ++ xsS))) (xsP ++ xsS) ((NG.pers p gs ++ NG.slps (NG.lowF t) (gs.map NG.Gr.nrm)).map frD) := by
        rw [List.map_append]
        exact dp_sameAll sc _ _ (dpAll_app hAP hAS)
      refine ⟨cw, rfl, ⟨_, SqT.of upd_same⟩, fun D3 hD3' => lc_dpT (ts := NG.pers p gs ++ NG.slps (NG.lowF t) (gs.map NG.Gr.nrm)) (f := frD) (r := fun t => .int t.2) hD3' (by rw [List.length_append, NG.pers_len]; unfold NG.slps; rw [List.length_cons, List.length_map, List.length_map]; omega) (SqT.of upd_same) hAll (fun _ => rfl) ?_ ?_⟩
      · rintro i u y G Qy Qn sG hg hy hgd kk
        obtain ⟨ua, rfl, hU⟩ := dp_fr hgd
        refine ⟨ua, _, rfl, hU, rfl, _, _, rfl, _, _, rfl, rfl, rfl, ?_⟩
        exact ⟨_, rfl, kk _ _ (fun _ _ e => e) (.int _)⟩
      · rintro G6 ys6 sG6 hys6 hD6
        have e6 := dp_intsEq hD6
        subst e6
        have bnds : ∀ n ∈ (NG.pers p gs ++ NG.slps (NG.lowF t) (gs.map NG.Gr.nrm)).map (fun u => u.2), 0 < n ∧ n.natAbs < 2 ^ 100 := by
          intro n hn
          obtain ⟨u, hu, rfl⟩ := List.mem_map.mp hn
          rcases List.mem_append.mp hu with hu | hu
          · obtain ⟨_, _, q1, q2⟩ := NG.pers_big hok.p hok.g hok.l u hu
            omega
          · obtain ⟨_, _, q1, q2⟩ := hok.nrm.slp u hu
            omega
        have ll : ((NG.pers p gs ++ NG.slps (NG.lowF t) (gs.map NG.Gr.nrm)).map (fun u => u.2)).length ≤ 60 := by
          rw [List.length_map, List.length_append, NG.pers_len]
          unfold NG.slps
          rw [List.length_cons, List.length_map, List.length_map]
          omega
        refine ⟨_, rfl, D3, _, rfl, .inr (SqL.of hys6), by rw [List.length_map, List.length_map, sizeLine_eq]; rw [List.length_map] at ll; omega, _, rfl, bnds, ll, fun G7 s7 => ?_⟩
        have s57 := (sc.trans sG6).trans s7
        have hx7 := s57 _ _ hx5
        have agG := dp_same s57 _ _ agG
        have hap := dp_same s57 _ _ hap
        have hsl4 := dp_same s57 _ _ hsl4
        refine ⟨_, rfl, xa, _, dx, _, rfl, hx7, T.tcls, T.t_na _ (by simp), (by show 3 < 1000; decide), ?_⟩
        have b8 : But xa G7 (upd G7 xa (.ins T.a_Train dx (putF "unit" (V.int (NM.lcmL ((NG.pers p gs ++ NG.slps (NG.lowF t) (gs.map NG.Gr.nrm)).map (fun u => u.2)))) (putF "slips" (V.ref asl) (putF "periods" (V.ref ap) (putF "_gears" (V.ref z) [])))))) := but_upd
        have w8 := kt_but hx7 b8
        refine k _ (fun b o n e => b8 b o n (s57 b o (bb b o n e))) ⟨dx, z, ap, asl, ?_, dp_kt w8 _ _ agG, ?_, dp_kt w8 _ _ hsl4⟩
        · unfold NG.unitT
          rw [NG.pers_nrm]
          exact upd_same
        · rw [NG.pers_nrm]
          exact dp_kt w8 _ _ hap
theorem bstar_eq {fd : FuncData} {args : Args} {ps : List Str} {vals rest : List Value} {pv : Str} (h : bindArgs fd args = (newTuple rest >>= fun t => pure (ps.zip vals ++ [(pv, t)]))) : BStar K fd args ps vals pv rest :=
  ⟨Unit, pure (), fun _ => newTuple rest >>= fun t => pure (ps.zip vals ++ [(pv, t)]), (), by rw [h]; rfl, fun _ _ _ => .of_pure rfl, rfl⟩
theorem ok_Train_initK (T : Txt K mg) : FnKw P w K mg base CX0 9 T.a_Train_init ["slip"] (fun vs zs H Q _ => ∃ x pv rest sl, vs = x :: pv :: rest ∧ zs = [sl] ∧ rest.length ≤ sizeLine ∧ spTI T x pv sl rest H Q) := by
  obtain ⟨oc, od, dV, kV, doc, pm, an, cdv, ct, osl, efd, lk, hcd, hD, hK⟩ := T.F_Train_init.ex
  rcases hD with ⟨_, rfl⟩ | ⟨e, _⟩
  case inr => exact absurd rfl e
  rw [efd] at lk
  intro A outer s H us ws vs zs Q E hr e0 r1 r2 h
  obtain ⟨x, pv, rest, sl, rfl, rfl, hz, hsp⟩ := h
  match us, ws, r1, r2 with
  | ux :: up :: ur, [uz], .cons q1 (.cons q2 q3), .cons q4 .nil =>
    refine run_starK (ps := ["self", "period", "slip"]) (pv := "gears") (us := [ux, up, uz]) (rest := ur) (ws := [x, pv, sl]) (vs := rest) (sp := spTB T) lk hcd sc_Train_init StX.cxUp_none hr e0 (bstar_eq ?_) (.cons q1 (.cons q2 (.cons q4 .nil))) rfl q3 hz (fun p hp => ⟨x, pv, sl, rest, p, H, rfl, hp, rfl, hsp⟩) (fun A outer s H vs Q E hr h => train_body T cdv A outer s H vs Q E hr h)
    cases ur <;> rfl
theorem ok_Train_initN (T : Txt K mg) : FnKw P w K mg base CX0 9 T.a_Train_init ["period", "slip"] (fun vs zs H Q _ => ∃ x pv sl, vs = [x] ∧ zs = [pv, sl] ∧ spTI T x pv sl [] H Q) := by
  obtain ⟨oc, od, dV, kV, doc, pm, an, cdv, ct, osl, efd, lk, hcd, hD, hK⟩ := T.F_Train_init.ex
  rcases hD with ⟨_, rfl⟩ | ⟨e, _⟩
  case inr => exact absurd rfl e
  rw [efd] at lk
  intro A outer s H us ws vs zs Q E hr e0 r1 r2 h
  obtain ⟨x, pv, sl, rfl, rfl, hsp⟩ := h
  match us, ws, r1, r2 with
  | [ux], [up, uz], .cons q1 .nil, .cons q2 (.cons q4 .nil) =>
    exact run_starK (ps := ["self", "period", "slip"]) (pv := "gears") (us := [ux, up, uz]) (rest := []) (ws := [x, pv, sl]) (vs := []) (sp := spTB T) lk hcd sc_Train_init StX.cxUp_none hr e0 (bstar_eq rfl) (.cons q1 (.cons q2 (.cons q4 .nil))) rfl .nil (by show 0 ≤ sizeLine; decide) (fun p hp => ⟨x, pv, sl, [], p, H, rfl, hp, rfl, hsp⟩) (fun A outer s H vs Q E hr h => train_body T cdv A outer s H vs Q E hr h)
theorem ok_Train_init0 (T : Txt K mg) : FnR P w K mg base CX0 9 T.a_Train_init (fun vs H Q _ => ∃ x pv rest, vs = x :: pv :: rest ∧ rest.length ≤ sizeLine ∧ spTI T x pv (.ref T.slD) rest H Q) := by
  obtain ⟨oc, od, dV, kV, doc, pm, an, cdv, ct, osl, efd, lk, hcd, hD, hK⟩ := T.F_Train_init.ex
  rcases hD with ⟨_, rfl⟩ | ⟨e, _⟩
  case inr => exact absurd rfl e
  rcases hK with e | ⟨D, rfl, hq⟩
  case inl => cases e
  obtain ⟨ud, hud, rud⟩ := hq _ List.mem_cons_self
  rw [efd] at lk
  intro A outer s H us vs Q E hr e0 r1 h
  obtain ⟨x, pv, rest, rfl, hz, hsp⟩ := h
  match us, r1 with
  | ux :: up :: ur, .cons q1 (.cons q2 q3) =>
    have bs : BStar K (PySem.W.fnOf "__init__" "Train.__init__" (defArgs s_Train_init) (defBody s_Train_init) (defScope s_Train_init) .none (.ref D) doc pm an cdv ct) ⟨ux :: up :: ur, []⟩ ["self", "period", "slip"] [ux, up, ud] "gears" ur := by
      have lkK : ∀ (M : Model) (h : Heap), K.In h → PySem.W.Looks M h (nsGet D "slip") (some ud) := fun M h XK => PySem.W.looks_nsIn XK hud
      have bq : ∃ (β γ : Type) (k1 : Option Value → Sem β) (k2 : β → Sem γ) (k3 : γ → Sem (List (Str × Value))) (a : β), bindArgs (PySem.W.fnOf "__init__" "Train.__init__" (defArgs s_Train_init) (defBody s_Train_init) (defScope s_Train_init) .none (.ref D) doc pm an cdv ct) ⟨ux :: up :: ur, []⟩ = ((nsGet D "slip" >>= k1) >>= k2) >>= k3 ∧ k1 (some ud) = pure a ∧
          (k2 a >>= k3) = (newTuple ur >>= fun t => pure ((["self", "period", "slip"] : List Str).zip [ux, up, ud] ++ [(("gears" : Str), t)])) := by
        cases ur <;> exact ⟨_, _, _, _, _, _, rfl, rfl, rfl⟩
      obtain ⟨β, γ, k1, k2, k3, a, e1, e2, e3⟩ := bq
      exact ⟨β, nsGet D "slip" >>= k1, fun b => k2 b >>= k3, a, by rw [e1, bind_assoc], fun M h XK => (lkK M h XK).andThen (PySem.W.Looks.of_pure e2), e3⟩
    exact run_starK (ps := ["self", "period", "slip"]) (pv := "gears") (us := [ux, up, ud]) (rest := ur) (ws := [x, pv, .ref T.slD]) (vs := rest) (sp := spTB T) lk hcd sc_Train_init StX.cxUp_none hr e0 bs (.cons q1 (.cons q2 (.cons rud .nil))) rfl q3 hz (fun p hp => ⟨x, pv, _, rest, p, H, rfl, hp, rfl, hsp⟩) (fun A outer s H vs Q E hr h => train_body T cdv A outer s H vs Q E hr h)

/-! ### what a train tells -/
theorem TrAt.fld {T : Txt K mg} {H : Hp} {x : Addr} {p : Int} {t : NG.Fr} {gs : List NG.Gr} (h : TrAt T H x p t gs) : ∃ dx ag ap as, H x = some (.ins T.a_Train dx [("_gears", .ref ag), ("periods", .ref ap), ("slips", .ref as), ("unit", .int (NG.unitT p t gs))]) ∧
    (∃ xs, SqT K H ag xs ∧ DpAll K H xs (gs.map grD)) ∧ (∃ xs, SqT K H ap xs ∧ DpAll K H xs ((NG.pers p gs).map frD)) ∧ (∃ xs, SqT K H as xs ∧ DpAll K H xs ((NG.slps t gs).map frD)) := by
  obtain ⟨dx, ag, ap, as, h1, h2, h3, h4⟩ := h
  obtain ⟨_, x2, e, a1, a2⟩ := dp_tup h2
  cases e
  obtain ⟨_, x3, e, b1, b2⟩ := dp_tup h3
  cases e
  obtain ⟨_, x4, e, c1, c2⟩ := dp_tup h4
  cases e
  exact ⟨dx, ag, ap, as, h1, ⟨x2, a1, a2⟩, ⟨x3, b1, b2⟩, ⟨x4, c1, c2⟩⟩
def spAgain (T : Txt K mg) : Sp := fun vs H Q _ => ∃ (x : Addr) (p : Int) (t : NG.Fr) (gs : List NG.Gr), vs = [.ref x] ∧ TrAt T H x p t gs ∧ NG.TrOk p t gs ∧ ∀ H', Same H H' → Q (.int (NG.againT p gs)) H'
theorem ok_Train_again (T : Txt K mg) : FnOk P w K mg base CX0 5 T.a_Train_again T.fd_Train_again ["self"] (spAgain T) := by
  refine T.F_Train_again.ok sc_Train_again (fun vs H Q E h => ?_) (fun cdv A outer s H vs Q E hr h => ?_)
  · obtain ⟨x, p, t, gs, rfl, _⟩ := h; rfl
  · obtain ⟨x, p, t, gs, rfl, hT, hok, k⟩ := h
    obtain ⟨dx, ag, ap, as, hx, _, ⟨xs, hS, hA⟩, _⟩ := hT.fld
    have hl6 := hok.l
    refine ⟨_, pss_cons (ps_setLc (i := 1) (own := [("top", 2), ("bottom", 3)]) (tt := tYes) rfl sc_Train_again.nd rfl rfl (sw_true rfl rfl rfl (by decide +kernel)) (pi_tup (pe_fld (pv 0) rfl)) (blkOk_by (own := [("top", 2), ("bottom", 3)]) (N := ["self", "tops", "top", "bottom"]) (sc := defScope s_Train_again) (by decide +kernel)) (fun _ _ _ _ _ => pg_tup2 K 2 (by rfl) (by rfl) (pgs_cons (pg_name (i := 2) sc_Train_again.nd rfl (Or.inl rfl)) (pgs_cons (pg_name (i := 3) sc_Train_again.nd rfl (Or.inl rfl)) (pgs_nil)))) (fun _ _ _ _ _ => pts_nil) (fun _ _ _ _ _ => pv 2))
      (pss_one (ps_ret (pe_callS1 (ok_multiple T) (hr.mono (by decide)) T.F_multiple.kp rfl T.m_multiple pass0 (pv 1)))), ?_⟩
    refine ⟨_, rfl, x, _, dx, _, _, rfl, hx, T.tcls, T.t_na _ (by simp), rfl, ap, rfl, ⟨_, hS⟩, fun D hD => lc_dpT (ts := NG.pers p gs) (f := frD) (r := fun u => .int u.1) hD (by rw [NG.pers_len]; omega) hS hA (fun _ => rfl) ?_ ?_⟩
    · rintro i u y G Qy Qn sG hg hy hgd kk
      obtain ⟨ua, rfl, hU⟩ := dp_fr hgd
      refine ⟨ua, _, rfl, hU, rfl, _, _, rfl, _, _, rfl, rfl, rfl, ?_⟩
      exact ⟨_, rfl, kk _ _ (fun _ _ e => e) (.int _)⟩
    · rintro G ys sG hys hD2
      have e6 := dp_intsEq hD2
      subst e6
      refine ⟨_, rfl, D, _, rfl, .inr (SqL.of hys), by rw [List.length_map, List.length_map, NG.pers_len, sizeLine_eq]; omega, _, rfl, fun n hn => ?_, by rw [List.length_map, NG.pers_len]; omega, fun H' s' => k H' (sG.trans s')⟩
      obtain ⟨u, hu, rfl⟩ := List.mem_map.mp hn
      obtain ⟨q1, q2, _, _⟩ := NG.pers_big hok.p hok.g hok.l u hu
      omega
def spTLen (T : Txt K mg) : Sp := fun vs H Q _ => ∃ (x : Addr) (p : Int) (t : NG.Fr) (gs : List NG.Gr), vs = [.ref x] ∧ TrAt T H x p t gs ∧ Q (.int ((gs.length + 1 : Nat) : Int)) H
theorem ok_Train_len (T : Txt K mg) : FnOk P w K mg base CX0 1 T.a_Train_len T.fd_Train_len ["self"] (spTLen T) := by
  refine T.F_Train_len.ok sc_Train_len (fun vs H Q E h => ?_) (fun cdv A outer s H vs Q E hr h => ?_)
  · obtain ⟨x, p, t, gs, rfl, _⟩ := h; rfl
  · obtain ⟨x, p, t, gs, rfl, hT, k⟩ := h
    obtain ⟨dx, ag, ap, as, hx, _, ⟨xs, hS, hA⟩, _⟩ := hT.fld
    refine ⟨_, pss_one (ps_ret (pe_callB call_len_seq (by rfl) T.n_len (by decide +kernel) (pa_cons (pe_fld (pv 0) rfl) (pa_nil)))), ?_⟩
    have e : xs.length = gs.length + 1 := by rw [dpAll_len hA, List.length_map, NG.pers_len]
    rw [← e] at k
    exact ⟨_, rfl, x, _, dx, _, _, rfl, hx, T.tcls, T.t_na _ (by simp), rfl, ap, _, rfl, .inr hS, k⟩
def spTIter (T : Txt K mg) (n : Nat) : Sp := fun vs H Q _ => ∃ (x : Addr) (p : Int) (t : NG.Fr) (gs : List NG.Gr) (ap : Addr) (xs : List V), vs = [.ref x] ∧ TrAt T H x p t gs ∧ (∃ dx ag as u, H x = some (.ins T.a_Train dx [("_gears", .ref ag), ("periods", .ref ap), ("slips", .ref as), ("unit", u)])) ∧ SqT K H ap xs ∧ ∀ it, H it = Option.none → n ≤ it → Q (.ref it) (upd H it (ItTO ap it))
theorem ok_Train_iter (T : Txt K mg) : FnN P w K mg base CX0 1 T.a_Train_iter (spTIter T) := by
  refine FnN.mk0 T.F_Train_iter sc_Train_iter (b_Train_iter T) (fun n vs H Q E h => ?_) (fun cdv A outer s H vs Q E hr h => ?_)
  · obtain ⟨x, p, t, gs, ap, xs, rfl, _⟩ := h; rfl
  · obtain ⟨x, p, t, gs, ap, xs, rfl, hT, ⟨dx, ag, as, u, hx⟩, hS, k⟩ := h
    refine ⟨_, pss_one (ps_ret (pe_callB call_iterT (by rfl) T.n_iter (by decide +kernel) (pa_cons (pe_fld (pv 0) rfl) (pa_nil)))), ?_⟩
    exact ⟨_, rfl, x, T.a_Train, dx, _, _, rfl, hx, T.tcls, T.t_na _ (by simp), rfl, ap, xs, rfl, hS, k⟩
def spTGet (T : Txt K mg) : Sp := fun vs H Q _ => ∃ (x : Addr) (i : Nat) (p : Int) (t : NG.Fr) (gs : List NG.Gr) (u : NG.Fr), vs = [.ref x, .int (i : Nat)] ∧ TrAt T H x p t gs ∧ (NG.pers p gs)[i]? = some u ∧ ∀ v, Dp K H v (frD u) → Q v H
theorem ok_Train_getitem (T : Txt K mg) : FnOk P w K mg base CX0 3 T.a_Train_getitem T.fd_Train_getitem ["self", "at"] (spTGet T) := by
  refine T.F_Train_getitem.ok sc_Train_getitem (fun vs H Q E h => ?_) (fun cdv A outer s H vs Q E hr h => ?_)
  · obtain ⟨x, i, p, t, gs, u, rfl, _⟩ := h; rfl
  · obtain ⟨x, i, p, t, gs, u, rfl, hT, hu, k⟩ := h
    obtain ⟨dx, ag, ap, as, hx, _, ⟨xs, hS, hA⟩, _⟩ := hT.fld
    obtain ⟨v, hv1, hv2⟩ := dpAll_at hA hu
    have hlt := (List.getElem?_eq_some_iff.mp hv1).1
    refine ⟨_, pss_cons (ps_if (pt_not (pt_val (pe_call (ok_is_between T) (hr.mono (by decide)) rfl T.m_is_between T.F_is_between.kp (b_is_between T) .nil pass0 (pa_cons (pv 1) (pa_cons (pe_int) (pa_cons (pe_op op_sub (pe_callB call_len_seq (by rfl) T.n_len (by decide +kernel) (pa_cons (pe_fld (pv 0) rfl) (pa_nil))) (pe_int)) (pa_nil))))))) (pss_one (ps_never)) (pss_nil))
      (pss_one (ps_ret (pe_ix ix_tup (pe_fld (pv 0) rfl) (pv 1) (fun _ _ => rfl)))), ?_⟩
    refine ⟨_, rfl, _, rfl, x, _, dx, _, _, rfl, hx, T.tcls, T.t_na _ (by simp), rfl, ap, _, rfl, .inr hS, _, _, rfl, rfl, (i : Int), 0, _, rfl, (by omega), (by omega), true, rfl, if_false_of rfl ?_⟩
    exact ⟨_, rfl, x, _, dx, _, _, rfl, hx, T.tcls, T.t_na _ (by simp), rfl, _, rfl, ap, _, _, _, rfl, rfl, hS, atI_nat hv1, k v hv2⟩
/-! ### data and its texts -/
theorem eqv_fr (a b : NG.Fr) : PyData.eqv (frD a) (frD b) = decide (a = b) := by
  obtain ⟨a1, a2⟩ := a
  obtain ⟨b1, b2⟩ := b
  show PyData.eqv (.tuple [.int a1, .int a2]) (.tuple [.int b1, .int b2]) = _
  rw [Bool.eq_iff_iff]
  simp [PyData.eqv, PyData.eqvAll]
theorem eqvAll_frs : ∀ (xs ys : List NG.Fr), PyData.eqvAll (xs.map frD) (ys.map frD) = decide (xs = ys)
  | [], [] => by simp [PyData.eqvAll]
  | [], b :: ys => by simp [PyData.eqvAll]
  | a :: xs, [] => by simp [PyData.eqvAll]
  | a :: xs, b :: ys => by
    rw [List.map_cons, List.map_cons, PyData.eqvAll, eqv_fr, eqvAll_frs xs ys, Bool.eq_iff_iff]
    simp
theorem eqv_frs (xs ys : List NG.Fr) : PyData.eqv (.tuple (xs.map frD)) (.tuple (ys.map frD)) = decide (xs = ys) := by
  rw [PyData.eqv, eqvAll_frs]
theorem lay_frs : ∀ xs : List NG.Fr, PyData.canLayAll0 (xs.map frD) = true
  | [] => rfl
  | a :: xs => by
    rw [List.map_cons, PyData.canLayAll0, lay_frs xs]
    rfl
theorem dep_frs : ∀ xs : List NG.Fr, PyData.depthAll (xs.map frD) ≤ 1
  | [] => by simp [PyData.depthAll]
  | a :: xs => by
    have := dep_frs xs
    have e : (frD a).depth = 1 := by simp [frD, PyData.depth, PyData.depthAll]
    rw [List.map_cons, PyData.depthAll, e]
    omega
theorem sh_frs (xs : List NG.Fr) : SeqAt.shaped (.tuple (xs.map frD)) = true := by
  have := dep_frs xs
  unfold SeqAt.shaped
  rw [PyData.canLay0, lay_frs, PyData.depth, decide_eq_true (by omega)]
  rfl
def spTEq (T : Txt K mg) : Sp := fun vs H Q _ => ∃ (x : Addr) (y : V) (p : Int) (t : NG.Fr) (gs : List NG.Gr), vs = [.ref x, y] ∧ TrAt T H x p t gs ∧
  ((∃ z, y = .str z ∧ Q (.bl false) H) ∨ ∃ (b : Addr) (p' : Int) (t' : NG.Fr) (gs' : List NG.Gr), y = .ref b ∧ TrAt T H b p' t' gs' ∧ Q (.bl (decide (NG.pers p gs = NG.pers p' gs' ∧ NG.slps t gs = NG.slps t' gs'))) H)
theorem ok_Train_eq (T : Txt K mg) : FnOk P w K mg base CX0 1 T.a_Train_eq T.fd_Train_eq ["self", "other"] (spTEq T) := by
  refine T.F_Train_eq.ok sc_Train_eq (fun vs H Q E h => ?_) (fun cdv A outer s H vs Q E hr h => ?_)
  · obtain ⟨x, y, p, t, gs, rfl, _⟩ := h; rfl
  · obtain ⟨x, y, p, t, gs, rfl, hT, k⟩ := h
    refine ⟨_, pss_one (ps_ret (pe_and (pe_callB call_isi (by rfl) T.n_isinstance (by decide +kernel) (pa_cons (pv 1) (pa_cons (pe_glob (v := .ref T.a_Train) rfl T.m_Train rfl) (pa_nil)))) (pe_and (pe_cmpR (op_eqD hr.units) (pe_fld (pv 0) rfl) (pe_fld (pv 1) rfl) (nomark _)) (pe_one (pe_cmpR (op_eqD hr.units) (pe_fld (pv 0) rfl) (pe_fld (pv 1) rfl) (nomark _)))))), ?_⟩
    obtain ⟨dx, ag, ap, as, hx, _, ⟨xs, hS, hA⟩, ⟨us, hS2, hA2⟩⟩ := hT.fld
    rcases k with ⟨z, rfl, k⟩ | ⟨b, p', t', gs', rfl, hT', k⟩
    · refine ⟨_, rfl, .str z, .ref T.a_Train, .type "str", .ref T.a_Train, false, rfl, (by constructor), (NT.str z).ty, T.kSt, false, rfl, ?_⟩
      exact iteF k
    · obtain ⟨dy, ag', ap', as', hy, _, ⟨xs', hS', hA'⟩, ⟨us', hS2', hA2'⟩⟩ := hT'.fld
      refine ⟨_, rfl, .ref b, .ref T.a_Train, .ref T.a_Train, .ref T.a_Train, true, rfl, (by constructor), T.kiT _ b dy _ hy, T.kTT, true, rfl, ?_⟩
      refine iteT ⟨_, rfl, x, T.a_Train, dx, _, _, rfl, hx, T.tcls, T.t_na _ (by simp), rfl, _, rfl, b, T.a_Train, dy, _, _, rfl, hy, T.tcls, T.t_na _ (by simp), rfl, _, _, .tup hS hA, .tup hS' hA', sh_frs _, sh_frs _, ?_⟩
      refine ⟨_, rfl, ?_⟩
      rw [eqv_frs]
      by_cases h1 : NG.pers p gs = NG.pers p' gs'
      · rw [decide_eq_true h1]
        refine iteT ⟨_, rfl, x, T.a_Train, dx, _, _, rfl, hx, T.tcls, T.t_na _ (by simp), rfl, _, rfl, b, T.a_Train, dy, _, _, rfl, hy, T.tcls, T.t_na _ (by simp), rfl, _, _, .tup hS2 hA2, .tup hS2' hA2', sh_frs _, sh_frs _, ?_⟩
        rw [eqv_frs]
        have e : decide (NG.pers p gs = NG.pers p' gs' ∧ NG.slps t gs = NG.slps t' gs') = decide (NG.slps t gs = NG.slps t' gs') := by
          rw [decide_eq_decide]
          exact ⟨fun z => z.2, fun z => ⟨h1, z⟩⟩
        rw [e] at k
        exact k
      · rw [decide_eq_false h1]
        rw [decide_eq_false (fun z => h1 z.1)] at k
        exact iteF k
def spTAdd (T : Txt K mg) : Sp := fun vs H Q _ => ∃ (x : Addr) (v : V) (p : Int) (t : NG.Fr) (gs : List NG.Gr) (g : NG.Gr), vs = [.ref x, v] ∧ TrAt T H x p t gs ∧ NG.TrOk p t gs ∧ NG.lowF t = t ∧ gs.map NG.Gr.nrm = gs ∧ Dp K H v (grD g) ∧ NG.GrOk gs.length g ∧ gs.length < 6 ∧
  ∀ (y : Addr) (H' : Hp), Same H H' → TrAt T H' y p t (gs ++ [g.nrm]) → Q (.ref y) H'
theorem ok_Train_add (T : Txt K mg) : FnOk P w K mg base CX0 12 T.a_Train_add T.fd_Train_add ["self", "other"] (spTAdd T) := by
  refine T.F_Train_add.ok sc_Train_add (fun vs H Q E h => ?_) (fun cdv A outer s H vs Q E hr h => ?_)
  · obtain ⟨x, v, p, t, gs, g, rfl, _⟩ := h; rfl
  · obtain ⟨x, v, p, t, gs, g, rfl, hT, hok, ht, hgs, hv, hg, hl, k⟩ := h
    obtain ⟨dx, ag, ap, as, hx, ⟨xg, hSg, hAg⟩, ⟨xs, hS, hA⟩, ⟨us, hS2, hA2⟩⟩ := hT.fld
    refine ⟨_, pss_cons (ps_par3 (i := 2) (j := 3) (l := 4) (by rfl) sc_Train_add.nd rfl rfl rfl (by decide) (by decide) (by decide) rfl rfl rfl (pa_cons (pe_ix ix_tup (pe_ix ix_tup (pe_fld (pv 0) rfl) (pe_int) (fun _ _ => rfl)) (pe_int) (fun _ _ => rfl)) (pa_cons (pe_tup (StX.pa_star (pe_fld (pv 0) rfl) (pa_cons (pv 1) (pa_nil)))) (pa_cons (pe_ix ix_tup (pe_fld (pv 0) rfl) (pe_int) (fun _ _ => rfl)) (pa_nil)))) (by rfl))
      (pss_one (ps_ret (pe_mkKS T.tmk (ok_Train_initK T) (hr.mono (by decide)) rfl T.m_Train pass0 (pa_cons (pv 2) (StX.pa_star (pv 3) (pa_nil))) (pk_cons (pv 4) (pk_nil))))), ?_⟩
    obtain ⟨v0, hv0, hd0⟩ := dpAll_at hA (NG.pers_head p gs)
    obtain ⟨a0, rfl, hP0⟩ := dp_fr hd0
    obtain ⟨v1, hv1, hd1⟩ := dpAll_at (i := 0) (t := t) hA2 rfl
    have lg : xg.length = gs.length := by rw [dpAll_len hAg, List.length_map]
    refine ⟨_, rfl, x, _, dx, _, _, rfl, hx, T.tcls, T.t_na _ (by simp), rfl, ap, _, 0, _, rfl, rfl, hS, atI_nat (j := 0) hv0, a0, _, 0, _, rfl, rfl, hP0, rfl, ?_⟩
    refine ⟨_, rfl, x, _, dx, _, _, rfl, hx, T.tcls, T.t_na _ (by simp), rfl, ag, xg, rfl, .inl hSg, _, rfl, (by rw [List.length_append, List.length_singleton, lg, sizeLine_eq]; omega), fun z hz => ?_⟩
    have sz := same_new (o := .tup (xg ++ [v])) hz
    refine ⟨_, rfl, x, _, dx, _, _, rfl, sz _ _ hx, T.tcls, T.t_na _ (by simp), rfl, as, _, 0, v1, rfl, rfl, SqT.same sz hS2, atI_nat (j := 0) hv1, ?_⟩
    refine tNil_to ?_
    refine ⟨_, _, _, rfl, _, rfl, _, rfl, z, _, rfl, .inl (SqT.of upd_same), tNil_to ?_⟩
    refine ⟨_, rfl, tNil_to ?_⟩
    intro y dy hy hdy ne
    have hH : H y = Option.none := sz.free hy
    have sy : Same H (upd (upd (upd H z (.tup (xg ++ [v]))) dy (.own y)) y (.ins T.a_Train dy [])) := fun b o e => by
      have e2 := sz _ _ e
      rw [upd_ne (ne_of_none e2 hy), upd_ne (ne_of_none e2 hdy)]
      exact e2
    refine ⟨_, _, _, _, rfl, rfl, (by rw [List.append_nil, List.length_append, List.length_singleton, lg, sizeLine_eq]; omega), y, dy, p, t, gs ++ [g], rfl, rfl, upd_same, dp_same sy _ _ hd1, ?_, ⟨hok.p, hok.s, NG.GsFrom.snoc hok.g (by rw [Nat.zero_add]; exact hg), by rw [List.length_append, List.length_singleton]; omega⟩, ?_⟩
    · rw [List.append_nil, List.map_append]
      exact dpAll_app (dp_sameAll sy _ _ hAg) (.cons (dp_same sy _ _ hv) .nil)
    · intro H' b tr
      refine ⟨rfl, k y H' (fun c o e => b c o (ne_of_none e hH) (sy _ _ e)) ?_⟩
      rw [ht, List.map_append, hgs] at tr
      exact tr
theorem dp_str {H : Hp} {v : V} {z : Str} (h : Dp K H v (.str z)) : v = .str z := by cases h; rfl
theorem dp_strsEq {α : Type} {f : α → Str} {H : Hp} : ∀ {ts : List α} {ys : List V}, DpAll K H ys (ts.map fun t => .str (f t)) → ys = (ts.map f).map V.str
  | [], _, h => by cases h; rfl
  | t :: ts, _, h => by
    cases h with
    | cons h1 h2 => rw [dp_str h1, dp_strsEq h2]; rfl
theorem sum_len : ∀ (gs : List NG.Gr) (i : Nat), NG.GsFrom i gs → i + gs.length ≤ 7 → ((gs.map NG.txtG).map (fun z => z.length)).sum ≤ 69 * gs.length
  | [], _, _, _ => by simp
  | g :: gs, i, h, hl => by
    rw [List.length_cons] at hl
    have ih := sum_len gs (i + 1) h.2 (by omega)
    obtain ⟨h1, h2, h3, h4, h5, h6, h7, h8, h9, h10⟩ := h.1
    have a := NX.len_num (n := g.on) h1 (by omega)
    have b := NX.len_num (n := g.dg) (by omega) (by omega)
    have c := NX.len_num (n := g.dn) (by omega) (by omega)
    have d := NX.len_num (n := g.s.1) h7 (by omega)
    have e := NX.len_num (n := g.s.2) (by omega) (by omega)
    have l : (NG.txtG g).length ≤ 69 := by
      unfold NG.txtG
      simp only [slen]
      have z2 : (" " : Str).length = 1 := by decide
      omega
    rw [List.map_cons, List.map_cons, List.sum_cons, List.length_cons]
    omega
def spTStr (T : Txt K mg) : Sp := fun vs H Q _ => ∃ (x : Addr) (p : Int) (t : NG.Fr) (gs : List NG.Gr), vs = [.ref x] ∧ TrAt T H x p t gs ∧ NG.TrOk p t gs ∧ ∀ H', Same H H' → Q (.str (NG.txtT p t gs)) H'
theorem ok_Train_str (T : Txt K mg) : FnOk P w K mg base CX0 3 T.a_Train_str T.fd_Train_str ["self"] (spTStr T) := by
  refine T.F_Train_str.ok sc_Train_str (fun vs H Q E h => ?_) (fun cdv A outer s H vs Q E hr h => ?_)
  · obtain ⟨x, p, t, gs, rfl, _⟩ := h; rfl
  · obtain ⟨x, p, t, gs, rfl, hT, hok, k⟩ := h
    obtain ⟨dx, ag, ap, as, hx, ⟨xg, hSg, hAg⟩, ⟨xs, hS, hA⟩, ⟨us, hS2, hA2⟩⟩ := hT.fld
    refine ⟨_, pss_cons (ps_asg (pe_ix ix_tup (pe_fld (pv 0) rfl) (pe_int) (fun _ _ => rfl)) (pg_tup rfl (pgs_cons (pg_name (i := 1) sc_Train_str.nd rfl (Or.inl rfl)) (pgs_cons (pg_name (i := 2) sc_Train_str.nd rfl (Or.inl rfl)) (pgs_nil)))))
      (pss_cons (ps_setLc (i := 3) (own := [("gear", 4)]) (g := gName 4) (tt := tYes) rfl sc_Train_str.nd rfl rfl (sw_true rfl rfl rfl (by decide +kernel)) (pi_tup (pe_fld (pv 0) rfl)) (blkOk_by (own := [("gear", 4)]) (N := ["self", "top", "bottom", "rows", "gear"]) (sc := defScope s_Train_str) (by decide +kernel)) (fun _ _ _ _ _ => pg_name (i := 4) sc_Train_str.nd rfl (Or.inl rfl)) (fun _ _ _ _ _ => pts_nil) (fun _ _ _ _ _ => pe_call (ok_gear_words T) (hr.mono (by decide)) rfl T.m_gear_words T.F_gear_words.kp (b_gear_words T) .nil pass0 (pa_cons (pv 4) (pa_nil))))
      (pss_one (ps_ret (pe_join (pe_str) (pe_lst (pa_cons (pe_joinedT (PJ.cons (pe_str) (PJ.cons (pe_fmt (pe_ix ix_tup (pe_ix ix_tup (pe_fld (pv 0) rfl) (pe_int) (fun _ _ => rfl)) (pe_int) (fun _ _ => rfl))) (PJ.cons (pe_str) (PJ.cons (pe_fmt (pv 1)) (PJ.cons (pe_str) (PJ.cons (pe_fmt (pv 2)) (PJ.nil)))))))) (StX.pa_star (pv 3) (pa_nil)))))))), ?_⟩
    obtain ⟨v0, hv0, hd0⟩ := dpAll_at hA (NG.pers_head p gs)
    obtain ⟨a0, rfl, hP0⟩ := dp_fr hd0
    obtain ⟨v1, hv1, hd1⟩ := dpAll_at (i := 0) (t := t) hA2 rfl
    obtain ⟨a1, rfl, hP1⟩ := dp_fr hd1
    have hl6 := hok.l
    refine ⟨_, rfl, x, _, dx, _, _, rfl, hx, T.tcls, T.t_na _ (by simp), rfl, as, _, 0, _, rfl, rfl, hS2, atI_nat (j := 0) hv1, ?_⟩
    refine ⟨a1, _, rfl, hP1, rfl, _, _, rfl, _, _, rfl, rfl, ?_⟩
    refine ⟨_, rfl, x, _, dx, _, _, rfl, hx, T.tcls, T.t_na _ (by simp), rfl, ag, rfl, ⟨_, hSg⟩, fun D hD => lc_dpT (ts := gs) (f := grD) (r := fun g => .str (NG.txtG g)) hD (by omega) hSg hAg (fun _ => rfl) ?_ ?_⟩
    · rintro i g y G Qy Qn sG hg hy hgd kk
      refine ⟨rfl, _, rfl, y, g, i, rfl, hgd, ?_, ?_, kk _ _ (fun _ _ e => e) (.str _)⟩
      · have := hok.g.at hg
        rw [Nat.zero_add] at this
        exact this
      · have := (List.getElem?_eq_some_iff.mp hg).1
        omega
    · rintro G ys sG hys hD2
      have hxG := sG _ _ hx
      obtain ⟨pa1, pa2⟩ := num_fmt p (by have := hok.p; omega) hok.p.2
      obtain ⟨d1, d2⟩ := num_fmt t.1 hok.s.1 hok.s.2.1
      obtain ⟨e1, e2⟩ := num_fmt t.2 (by have := hok.s.2.2.1; omega) hok.s.2.2.2
      refine ⟨⟨_, rfl⟩, _, rfl, (by decide), _, rfl, x, _, dx, _, _, rfl, hxG, T.tcls, T.t_na _ (by simp), rfl, ap, _, 0, _, rfl, rfl, SqT.same sG hS, atI_nat (j := 0) hv0, a0, _, 0, .int p, rfl, rfl, SqT.same sG hP0, rfl, .inr ⟨p, rfl, pa1, _, rfl, ?_, _, rfl, ?_, _, rfl, .inr ⟨t.1, rfl, d1, _, rfl, ?_, _, rfl, ?_, _, rfl, .inr ⟨t.2, rfl, e1, _, rfl, ?_, ?_⟩⟩⟩⟩
      case refine_6 =>
        have ey := dp_strsEq hD2
        subst ey
        refine ⟨_, rfl, D, _, rfl, .inr (SqL.of hys), tNil_to ⟨(by rw [List.append_nil, List.length_cons, List.length_map, List.length_map, sizeLine_eq]; omega), fun L hL => ?_⟩⟩
        rw [show (Str.empty ++ ("train " : Str)) = "train " by decide, List.append_nil]
        have sL := same_new (o := .lst (V.str (NG.txtH p t) :: (gs.map NG.txtG).map V.str)) hL
        refine ⟨" ; ", L, NG.txtH p t :: gs.map NG.txtG, rfl, rfl, .inl (SqL.of upd_same), ?_, ?_⟩
        · have := sum_len gs 0 hok.g (by omega)
          have hh : (NG.txtH p t).length ≤ 60 := by
            unfold NG.txtH
            simp only [slen]
            have z1 : ("train " : Str).length = 6 := by decide
            have z2 : (" " : Str).length = 1 := by decide
            have l1 := NX.len_num (n := p) (by have := hok.p; omega) (by have := hok.p; omega)
            have l2 := NX.len_num (n := t.1) hok.s.1 (by have := hok.s; unfold NG.FrOk at this; omega)
            have l3 := NX.len_num (n := t.2) (by have := hok.s; unfold NG.FrOk at this; omega) (by have := hok.s; unfold NG.FrOk at this; omega)
            omega
          have z3 : (" ; " : Str).length = 3 := by decide
          rw [List.map_cons, List.sum_cons, List.length_cons, List.length_map, z3]
          omega
        · rw [NG.text_eq]
          exact k _ (sG.trans sL)
      all_goals
        simp only [slen]
        have z1 : ("train " : Str).length = 6 := by decide
        have z2 : (" " : Str).length = 1 := by decide
        have z0 : (Str.empty : Str).length = 0 := by decide
        rw [sizeLine_eq]
        omega
def spTStand (T : Txt K mg) : Sp := fun vs H Q _ => ∃ (x : Addr) (v : Int) (p : Int) (t : NG.Fr) (gs : List NG.Gr), vs = [.ref x, .int v] ∧ TrAt T H x p t gs ∧ NG.TrOk p t gs ∧ v.natAbs < 2 ^ 1500 ∧
  ∀ (q : Addr) (H' : Hp), Same H H' → Dp K H' (.ref q) (.tuple (((NG.pers p gs).map fun u => NG.low ((v * u.2).fmod u.1) u.2).map frD)) → Q (.ref q) H'
theorem ok_Train_stands (T : Txt K mg) : FnOk P w K mg base CX0 7 T.a_Train_stands T.fd_Train_stands ["self", "value"] (spTStand T) := by
  refine T.F_Train_stands.ok sc_Train_stands (fun vs H Q E h => ?_) (fun cdv A outer s H vs Q E hr h => ?_)
  · obtain ⟨x, v, p, t, gs, rfl, _⟩ := h; rfl
  · obtain ⟨x, v, p, t, gs, rfl, hT, hok, hv, k⟩ := h
    obtain ⟨dx, ag, ap, as, hx, _, ⟨xs, hS, hA⟩, _⟩ := hT.fld
    have hl6 := hok.l
    refine ⟨_, pss_cons (ps_if (pt_not (pt_val (pe_call (ok_is_whole T) (hr.mono (by decide)) rfl T.m_is_whole T.F_is_whole.kp (b_is_whole T) .nil pass0 (pa_cons (pv 1) (pa_nil))))) (pss_one (ps_never)) (pss_nil))
      (pss_one (ps_ret (pe_callTy call_tuple_of (by rfl) T.n_tuple (by decide +kernel) (pa_cons (pe_lc (own := [("top", 2), ("bottom", 3)]) (tt := tYes) rfl sc_Train_stands.nd (pi_tup (pe_fld (pv 0) rfl)) (blkOk_by (own := [("top", 2), ("bottom", 3)]) (N := ["self", "value", "top", "bottom"]) (sc := defScope s_Train_stands) (by decide +kernel)) (fun _ _ _ _ _ => pg_tup2 K 2 (by rfl) (by rfl) (pgs_cons (pg_name (i := 2) sc_Train_stands.nd rfl (Or.inl rfl)) (pgs_cons (pg_name (i := 3) sc_Train_stands.nd rfl (Or.inl rfl)) (pgs_nil)))) (fun _ _ _ _ _ => pts_nil) (fun _ _ _ _ _ => pe_call (ok_least_terms T) (hr.mono (by decide)) rfl T.m_least_terms T.F_least_terms.kp (b_least_terms T) .nil pass0 (pa_cons (pe_op op_modN (pe_op op_mulW (pv 1) (pv 3)) (pv 2)) (pa_cons (pv 3) (pa_nil))))) (pa_nil))))), ?_⟩
    refine ⟨_, rfl, .int v, "int", rfl, .int v, true, rfl, if_false_of rfl ?_⟩
    refine ⟨_, rfl, x, _, dx, _, _, rfl, hx, T.tcls, T.t_na _ (by simp), rfl, ap, rfl, ⟨_, hS⟩, fun D hD => lc_dpT (ts := NG.pers p gs) (f := frD) (r := fun u => frD (NG.low ((v * u.2).fmod u.1) u.2)) hD (by rw [NG.pers_len]; omega) hS hA (fun _ => rfl) ?_ ?_⟩
    · rintro i u y G Qy Qn sG hg hy hgd kk
      obtain ⟨ua, rfl, hU⟩ := dp_fr hgd
      obtain ⟨q1, q2, q3, q4⟩ := NG.pers_big hok.p hok.g hok.l u (List.mem_of_getElem? hg)
      refine ⟨ua, _, rfl, hU, rfl, _, _, rfl, _, _, rfl, rfl, rfl, ?_⟩
      refine ⟨_, rfl, _, rfl, rI_mulW rfl (wide_mul (a := 1500) (b := 100) hv (by omega) (by decide) (by decide) (by decide)) ⟨_, rfl, _, _, rfl, rfl, by omega, _, rfl, _, _, rfl, q3, by omega, fun z H2 hz s2 h2 => kk _ _ s2 (fr_dp (t := NG.low ((v * u.2).fmod u.1) u.2) (SqT.of h2))⟩⟩
    · rintro G ys sG hys hD2
      refine ⟨D, ys, rfl, .inl ⟨SqL.of hys, fun z hz => ?_⟩⟩
      refine k z _ (sG.trans (same_new hz)) (.tup (SqT.of upd_same) ?_)
      rw [List.map_map]
      exact dp_sameAll (same_new hz) _ _ hD2

/-! ### a train read -/
def spTakeFr (T : Txt K mg) : Sp := fun vs H Q _ => ∃ (x L : Addr) (ws : List Str) (i : Nat) (t : NG.Fr), vs = [.ref x] ∧ WdAt T H x L ws i ∧ ws[i]? = some (NX.num t.1) ∧ ws[i + 1]? = some (NX.num t.2) ∧ NG.FrOk t ∧ NG.g2 t.1 t.2 = 1 ∧
  ∀ (q : Addr) (H' : Hp), But x H H' → WdAt T H' x L ws (i + 2) → Dp K H' (.ref q) (frD t) → Q (.ref q) H'
theorem ok_take_fraction (T : Txt K mg) : FnOk P w K mg base CX0 5 T.a_take_fraction T.fd_take_fraction ["words"] (spTakeFr T) := by
  refine T.F_take_fraction.ok sc_take_fraction (fun vs H Q E h => ?_) (fun cdv A outer s H vs Q E hr h => ?_)
  · obtain ⟨x, L, ws, i, t, rfl, _⟩ := h; rfl
  · obtain ⟨x, L, ws, i, t, rfl, hW, w1, w2, ⟨f1, f2, f3, f4⟩, hg, k⟩ := h
    have wdx : ∀ {G : Hp} {n : Nat}, WdAt T G x L ws n → ∃ d, G x = some (.ins T.a_Words d [("words", .ref L), ("line", .int 0), ("at", .int (n : Nat))]) := fun h => h.elim fun d h => ⟨d, h.1⟩
    refine ⟨_, pss_cons (ps_set (i := 1) sc_take_fraction.nd rfl (Or.inl rfl) (pe_meth (pv 0) T.wcls T.w_take_number (ok_Words_take_number T) (hr.mono (by decide)) (b_Words_take_number T) .nil pass0 (pa_cons (pe_int) (pa_cons (pe_glob (v := .int 1000000) rfl T.m_MP T.r_MP) (pa_nil)))))
      (pss_cons (ps_set (i := 2) sc_take_fraction.nd rfl (Or.inl rfl) (pe_meth (pv 0) T.wcls T.w_take_number (ok_Words_take_number T) (hr.mono (by decide)) (b_Words_take_number T) .nil pass0 (pa_cons (pe_int) (pa_cons (pe_glob (v := .int 1000000) rfl T.m_MP T.r_MP) (pa_nil)))))
      (pss_cons (ps_if (pt_cmpR op_ne (pe_callR (ok_common T) (hr.mono (by decide)) T.F_common.kp rfl T.m_common pass0 (pa_cons (pv 1) (pa_cons (pv 2) (pa_nil)))) (pe_int) (nomark _)) (pss_one (ps_never)) (pss_nil))
      (pss_one (ps_ret (pe_tup (pa_cons (pv 1) (pa_cons (pv 2) (pa_nil)))))))), ?_⟩
    obtain ⟨d0, x0⟩ := wdx hW
    refine ⟨_, rfl, x, d0, _, rfl, x0, rfl, x, L, ws, i, 0, 1000000, t.1, rfl, hW, w1, f1, f2, f1, f2, fun H1 b1 W1 => ?_⟩
    obtain ⟨d1, x1⟩ := wdx W1
    refine ⟨_, rfl, x, d1, _, rfl, x1, rfl, x, L, ws, i + 1, 1, 1000000, t.2, rfl, W1, w2, by omega, f4, f3, f4, fun H2 b2 W2 => ?_⟩
    refine ⟨_, rfl, _, rfl, (by show 2 ≤ sizeLine; decide), [t.1, t.2], rfl, fun H3 s3 => ?_⟩
    rw [NG.gcdL2, hg]
    refine ⟨rfl, _, rfl, if_false_of (by decide) ?_⟩
    refine ⟨_, rfl, _, rfl, (by show 2 ≤ sizeLine; decide), fun q hq => ?_⟩
    have sq := same_new (o := .tup [.int t.1, .int t.2]) hq
    exact k q _ ((b1.trans b2).trans (.of (s3.trans sq))) ((W2.same s3).same sq) (fr_dp (SqT.of upd_same))
def spTakeGr (T : Txt K mg) : Sp := fun vs H Q _ => ∃ (x L : Addr) (ws : List Str) (i last : Nat) (g : NG.Gr), vs = [.ref x, .int (last : Nat)] ∧ WdAt T H x L ws i ∧ (∀ j w, (NG.wdsG g)[j]? = some w → ws[i + j]? = some w) ∧ NG.GrOk last g ∧ last ≤ 6 ∧ NG.g2 g.s.1 g.s.2 = 1 ∧
  ∀ (q : Addr) (H' : Hp), But x H H' → WdAt T H' x L ws (i + 5) → Dp K H' (.ref q) (grD g) → Q (.ref q) H'
theorem ok_take_gear (T : Txt K mg) : FnOk P w K mg base CX0 6 T.a_take_gear T.fd_take_gear ["words", "last"] (spTakeGr T) := by
  refine T.F_take_gear.ok sc_take_gear (fun vs H Q E h => ?_) (fun cdv A outer s H vs Q E hr h => ?_)
  · obtain ⟨x, L, ws, i, last, g, rfl, _⟩ := h; rfl
  · obtain ⟨x, L, ws, i, last, g, rfl, hW, hw, ⟨g1, g2, g3, g4, g5, g6, hfr⟩, hl, hg, k⟩ := h
    have wdx : ∀ {G : Hp} {n : Nat}, WdAt T G x L ws n → ∃ d, G x = some (.ins T.a_Words d [("words", .ref L), ("line", .int 0), ("at", .int (n : Nat))]) := fun h => h.elim fun d h => ⟨d, h.1⟩
    refine ⟨_, pss_cons (ps_set (i := 2) sc_take_gear.nd rfl (Or.inl rfl) (pe_meth (pv 0) T.wcls T.w_take_number (ok_Words_take_number T) (hr.mono (by decide)) (b_Words_take_number T) .nil pass0 (pa_cons (pe_int) (pa_cons (pv 1) (pa_nil)))))
      (pss_cons (ps_set (i := 3) sc_take_gear.nd rfl (Or.inl rfl) (pe_meth (pv 0) T.wcls T.w_take_number (ok_Words_take_number T) (hr.mono (by decide)) (b_Words_take_number T) .nil pass0 (pa_cons (pe_int) (pa_cons (pe_glob (v := .int 1000) rfl T.m_MT T.r_MT) (pa_nil)))))
      (pss_cons (ps_set (i := 4) sc_take_gear.nd rfl (Or.inl rfl) (pe_meth (pv 0) T.wcls T.w_take_number (ok_Words_take_number T) (hr.mono (by decide)) (b_Words_take_number T) .nil pass0 (pa_cons (pe_int) (pa_cons (pe_glob (v := .int 1000) rfl T.m_MT T.r_MT) (pa_nil)))))
      (pss_one (ps_ret (pe_tup (pa_cons (pv 2) (pa_cons (pv 3) (pa_cons (pv 4) (pa_cons (pe_call (ok_take_fraction T) (hr.mono (by decide)) rfl T.m_take_fraction T.F_take_fraction.kp (b_take_fraction T) .nil pass0 (pa_cons (pv 0) (pa_nil))) (pa_nil)))))))))), ?_⟩
    obtain ⟨d0, x0⟩ := wdx hW
    refine ⟨_, rfl, x, d0, _, rfl, x0, rfl, _, rfl, x, L, ws, i, 0, (last : Int), g.on, rfl, hW, hw 0 _ rfl, g1, by omega, g1, g2, fun H1 b1 W1 => ?_⟩
    obtain ⟨d1, x1⟩ := wdx W1
    refine ⟨_, rfl, x, d1, _, rfl, x1, rfl, x, L, ws, i + 1, 1, 1000, g.dg, rfl, W1, hw 1 _ rfl, by omega, by omega, g3, g4, fun H2 b2 W2 => ?_⟩
    obtain ⟨d2, x2⟩ := wdx W2
    refine ⟨_, rfl, x, d2, _, rfl, x2, rfl, x, L, ws, i + 2, 1, 1000, g.dn, rfl, W2, hw 2 _ rfl, by omega, by omega, g5, g6, fun H3 b3 W3 => ?_⟩
    refine ⟨_, rfl, _, rfl, _, rfl, _, rfl, x, L, ws, i + 3, g.s, rfl, W3, hw 3 _ rfl, hw 4 _ rfl, hfr, hg, fun u H4 b4 W4 hu => ⟨(by show 4 ≤ sizeLine; decide), fun q hq => ?_⟩⟩
    have sq := same_new (o := .tup [.int g.on, .int g.dg, .int g.dn, .ref u]) hq
    exact k q _ (((b1.trans b2).trans (b3.trans b4)).trans (.of sq)) (W4.same sq) (gr_dp (SqT.of upd_same) (dp_same sq _ _ hu))
/-- the words of a train, from the first on -/
def spTakeTr (T : Txt K mg) : Sp := fun vs H Q _ => ∃ (x L : Addr) (p : Int) (t : NG.Fr) (gs : List NG.Gr), vs = [.ref x] ∧ WdAt T H x L (NG.wdsT p t gs) 0 ∧ NG.TrOk p t gs ∧ NG.lowF t = t ∧ gs.map NG.Gr.nrm = gs ∧
  ∀ (y : Addr) (H' : Hp), But x H H' → WdAt T H' x L (NG.wdsT p t gs) (4 + 6 * gs.length) → TrAt T H' y p t gs → Q (.ref y) H'
theorem low_g2 {t : NG.Fr} (h : NG.FrOk t) (e : NG.lowF t = t) : NG.g2 t.1 t.2 = 1 := by
  have := NG.low_one h.1 (show 0 < t.2 by have := h.2.2.1; omega)
  have e2 : NG.low t.1 t.2 = t := e
  rw [e2] at this
  exact this
theorem ok_take_train (T : Txt K mg) : FnOk P w K mg base CX0 12 T.a_take_train T.fd_take_train ["words"] (spTakeTr T) := by
  refine T.F_take_train.ok sc_take_train (fun vs H Q E h => ?_) (fun cdv A outer s H vs Q E hr h => ?_)
  · obtain ⟨x, L, p, t, gs, rfl, _⟩ := h; rfl
  · obtain ⟨x, L, p, t, gs, rfl, hW, hok, ht, hgs, k⟩ := h
    have wdx : ∀ {G : Hp} {n : Nat}, WdAt T G x L (NG.wdsT p t gs) n → ∃ d, G x = some (.ins T.a_Words d [("words", .ref L), ("line", .int 0), ("at", .int (n : Nat))]) := fun h => h.elim fun d h => ⟨d, h.1⟩
    refine ⟨_, pss_cons (ps_expr (pe_methR (pv 0) T.wcls T.w_take (ok_Words_take T) (hr.mono (by decide)) pass0 (pa_cons (pe_str) (pa_nil))))
      (pss_cons (ps_set (i := 1) sc_take_train.nd rfl (Or.inl rfl) (pe_meth (pv 0) T.wcls T.w_take_number (ok_Words_take_number T) (hr.mono (by decide)) (b_Words_take_number T) .nil pass0 (pa_cons (pe_int) (pa_cons (pe_glob (v := .int 1000000) rfl T.m_MP T.r_MP) (pa_nil)))))
      (pss_cons (ps_set (i := 2) sc_take_train.nd rfl (Or.inl rfl) (pe_call (ok_take_fraction T) (hr.mono (by decide)) rfl T.m_take_fraction T.F_take_fraction.kp (b_take_fraction T) .nil pass0 (pa_cons (pv 0) (pa_nil))))
      (pss_cons (ps_set (i := 3) sc_take_train.nd rfl (Or.inl rfl) (pe_lst (pa_nil)))
      (pss_cons (ps_while PassesOwn.never (PW.pt (pw_and (pt_cmpR op_lt (pe_callB call_len_seq (by rfl) T.n_len (by decide +kernel) (pa_cons (pv 3) (pa_nil))) (pe_glob (v := .int 6) rfl T.m_MG T.r_MG) (nomark _)) (pw_and1 (pt_cmpR op_notN (pe_meth0 (pv 0) T.wcls T.w_upcoming (ok_Words_upcoming T) (hr.mono (by decide)) (b_Words_upcoming T) .nil pass0) (pe_non) (nomark _))))) (pss_cons (ps_expr (pe_methR (pv 0) T.wcls T.w_take (ok_Words_take T) (hr.mono (by decide)) pass0 (pa_cons (pe_str) (pa_nil))))
      (pss_one (ps_expr (pe_bm PySem.F.plainAttrs_list PySem.F.slot_list_append PySem.F.type_list_append mt_append (pv 3) (pa_cons (pe_call (ok_take_gear T) (hr.mono (by decide)) rfl T.m_take_gear T.F_take_gear.kp (b_take_gear T) .nil pass0 (pa_cons (pv 0) (pa_cons (pe_callB call_len_seq (by rfl) T.n_len (by decide +kernel) (pa_cons (pv 3) (pa_nil))) (pa_nil)))) (pa_nil)))))))
      (pss_one (ps_ret (pe_mkKS T.tmk (ok_Train_initK T) (hr.mono (by decide)) rfl T.m_Train pass0 (pa_cons (pv 1) (StX.pa_star (pv 3) (pa_nil))) (pk_cons (pv 2) (pk_nil))))))))), ?_⟩
    have w0 : (NG.wdsT p t gs)[0]? = some ("train" : Str) := rfl
    have w1 : (NG.wdsT p t gs)[1]? = some (NX.num p) := rfl
    have w2 : (NG.wdsT p t gs)[2]? = some (NX.num t.1) := rfl
    have w3 : (NG.wdsT p t gs)[3]? = some (NX.num t.2) := rfl
    have hp := hok.p
    obtain ⟨d0, x0⟩ := wdx hW
    refine ⟨_, rfl, x, d0, _, rfl, x0, rfl, x, L, _, 0, "train", rfl, hW, w0, fun H1 b1 W1 => ?_⟩
    obtain ⟨d1, x1⟩ := wdx W1
    refine ⟨_, rfl, x, d1, _, rfl, x1, rfl, x, L, _, 1, 1, 1000000, p, rfl, W1, w1, by omega, by omega, hp.1, hp.2, fun H2 b2 W2 => ?_⟩
    refine ⟨_, rfl, x, L, _, 2, t, rfl, W2, w2, w3, hok.s, low_g2 hok.s ht, fun sl H3 b3 W3 hsl => ?_⟩
    refine ⟨(by show 0 ≤ sizeLine; decide), fun Lg hLg => ?_⟩
    have hLgx : Lg ≠ x := fun z => by
      obtain ⟨d3, x3⟩ := wdx W3
      rw [z, x3] at hLg; cases hLg
    have hLgH : ∀ b o, b ≠ x → H b = some o → b ≠ Lg := fun b o n e => ne_of_none (((b1.trans b2).trans b3) b o n e) hLg
    have s4 := same_new (o := .lst []) hLg
    have nxl : ∀ (k : Nat) (g : NG.Gr), gs[k]? = some g → NG.g2 g.s.1 g.s.2 = 1 := fun k g hk => by
      have hm := List.mem_of_getElem? hk
      rw [← hgs] at hm
      obtain ⟨g', hg', e⟩ := List.mem_map.mp hm
      have fr := hok.g.frs g' hg'
      have := NG.low_one fr.1 (show 0 < g'.s.2 by have := fr.2.2.1; omega)
      rw [← e]
      exact this
    refine ⟨fun m σ' H' => ∃ (k : Nat) (ys : List V), m = gs.length - k ∧ k ≤ gs.length ∧ σ' = [some (.ref x), some (.int p), some (.ref sl), some (.ref Lg)] ∧ But x H H' ∧ WdAt T H' x L (NG.wdsT p t gs) (4 + 6 * k) ∧ H' Lg = some (.lst ys) ∧ DpAll K H' ys ((gs.take k).map grD) ∧ Dp K H' (.ref sl) (frD t),
      ⟨_, 0, [], rfl, Nat.zero_le _, rfl, (b1.trans b2).trans (b3.trans (.of s4)), W3.same s4, upd_same, by rw [List.take_zero]; exact .nil, dp_same s4 _ _ hsl⟩, ?_⟩
    rintro m σ' H' ⟨j, ys, rfl, hj, rfl, bH, Wj, hys, hD, hslj⟩
    obtain ⟨dj, xj⟩ := wdx Wj
    have hl6 := hok.l
    have ly : ys.length = j := by rw [dpAll_len hD, List.length_map, List.length_take]; omega
    refine ⟨_, rfl, Lg, ys, rfl, .inl (SqL.of hys), _, _, rfl, rfl, _, rfl, ?_⟩
    by_cases hlt : j < gs.length
    · have hgj : gs[j]? = some gs[j] := List.getElem?_eq_getElem hlt
      have hgk := hok.g.at hgj
      rw [Nat.zero_add] at hgk
      have wj : ∀ i w, ((";" : Str) :: NG.wdsG gs[j])[i]? = some w → (NG.wdsT p t gs)[4 + 6 * j + i]? = some w := fun i w e => NG.wds_at hgj e rfl
      refine if_true_of (decide_eq_true (by omega)) ?_
      refine ⟨_, rfl, x, dj, _, rfl, xj, rfl, x, L, _, 4 + 6 * j, rfl, Wj, ?_⟩
      rw [show (NG.wdsT p t gs)[4 + 6 * j]? = some ";" from wj 0 _ rfl]
      refine ⟨rfl, _, rfl, if_true_of (by decide) ?_⟩
      refine ⟨fun σ' H' => ∃ (ys : List V), σ' = [some (.ref x), some (.int p), some (.ref sl), some (.ref Lg)] ∧ But x H H' ∧ WdAt T H' x L (NG.wdsT p t gs) (4 + 6 * (j + 1)) ∧ H' Lg = some (.lst ys) ∧ DpAll K H' ys ((gs.take (j + 1)).map grD) ∧ Dp K H' (.ref sl) (frD t), fun σ' H' h => ?_, ?_⟩
      · obtain ⟨ys, h1, h2⟩ := h
        exact ⟨gs.length - (j + 1), by omega, j + 1, ys, rfl, hlt, h1, h2⟩
      · refine ⟨_, rfl, x, dj, _, rfl, xj, rfl, x, L, _, 4 + 6 * j, ";", rfl, Wj, wj 0 _ rfl, fun H5 b5 W5 => ?_⟩
        have h5 := b5 _ _ hLgx hys
        obtain ⟨d5, x5⟩ := wdx W5
        refine ⟨_, rfl, .inl ⟨rfl, _, SqL.of h5⟩, _, rfl, _, rfl, Lg, ys, rfl, .inl (SqL.of h5), x, L, _, 4 + 6 * j + 1, j, gs[j], ?_, W5, fun i w e => ?_, hgk, by omega, nxl j _ hgj, fun q H6 b6 W6 hq => ?_⟩
        · rw [ly]
          rfl
        · have := wj (i + 1) w (by simpa using e)
          rw [show 4 + 6 * j + 1 + i = 4 + 6 * j + (i + 1) by omega]
          exact this
        · have h6 := b6 _ _ hLgx h5
          obtain ⟨d6, x6, l6, nxL⟩ := id W6
          have nLg : L ≠ Lg := by
            obtain ⟨_, _, l3, _⟩ := id W3
            exact ne_of_none l3 hLg
          have b7 : But x H' H6 := b5.trans b6
          have kt6 := kt_but xj b7
          have kp7 : Kp H6 (upd H6 Lg (.lst (ys ++ [.ref q]))) := kp_upd h6
          refine ⟨Lg, ys, _, rfl, rfl, h6, (by rw [ly, sizeLine_eq]; omega), ?_⟩
          refine ⟨_, rfl, fun b o n e => ?_, ?_, upd_same, ?_, dp_kp kp7 _ _ (nl_fr t) (dp_kt kt6 _ _ hslj)⟩
          · rw [upd_ne (hLgH b o n e)]
            exact b7 b o n (bH b o n e)
          · refine ⟨d6, ?_, ?_, nxL⟩
            · rw [upd_ne (Ne.symm hLgx), show 4 + 6 * (j + 1) = 4 + 6 * j + 1 + 5 by omega]
              exact x6
            · rw [upd_ne nLg]
              exact l6
          · rw [NM.take_snoc hgj, List.map_append]
            exact dpAll_app (dp_kpAll kp7 _ _ (nl_all nl_gr _) (dp_ktAll kt6 _ _ hD)) (.cons (dp_kp kp7 _ _ (nl_gr _) hq) .nil)
    · have ej : j = gs.length := by omega
      subst ej
      rw [List.take_length] at hD
      have wn : (NG.wdsT p t gs)[4 + 6 * gs.length]? = Option.none := List.getElem?_eq_none (by rw [NG.wdsT_len]; omega)
      have hmk : ∀ yy dy, H' yy = Option.none → H' dy = Option.none → spTI T (.ref yy) (.int p) (.ref sl) ys (upd (upd H' dy (.own yy)) yy (.ins T.a_Train dy [])) (fun v H3 => v = .non ∧ Q (.ref yy) H3) := fun yy dy hy hdy => by
        have sy : Same H' (upd (upd H' dy (.own yy)) yy (.ins T.a_Train dy [])) := fun b o e => by
          rw [upd_ne (ne_of_none e hy), upd_ne (ne_of_none e hdy)]
          exact e
        refine ⟨yy, dy, p, t, gs, rfl, rfl, upd_same, dp_same sy _ _ hslj, dp_sameAll sy _ _ hD, hok, fun H4 b4 tr => ⟨rfl, ?_⟩⟩
        have sH : Same H' H4 := fun b o e => b4 b o (ne_of_none e hy) (sy _ _ e)
        rw [ht, hgs] at tr
        exact k yy H4 (bH.trans (.of sH)) (Wj.same sH) tr
      refine ite2 (fun h1 => ?_) (fun h1 => ?_)
      · refine ⟨_, rfl, x, dj, _, rfl, xj, rfl, x, L, _, 4 + 6 * gs.length, rfl, Wj, ?_⟩
        rw [wn]
        refine ⟨rfl, _, rfl, if_false_of (by decide) ?_⟩
        exact ⟨_, rfl, _, rfl, Lg, ys, rfl, .inr (SqL.of hys), tNil_to ⟨_, rfl, tNil_to fun yy dy hy hdy ne => ⟨_, _, _, _, rfl, rfl, by rw [List.append_nil, ly, sizeLine_eq]; omega, by rw [List.append_nil]; exact hmk yy dy hy hdy⟩⟩⟩
      · exact ⟨_, rfl, _, rfl, Lg, ys, rfl, .inr (SqL.of hys), tNil_to ⟨_, rfl, tNil_to fun yy dy hy hdy ne => ⟨_, _, _, _, rfl, rfl, by rw [List.append_nil, ly, sizeLine_eq]; omega, by rw [List.append_nil]; exact hmk yy dy hy hdy⟩⟩⟩
theorem b_Words_init (T : Txt K mg) : ∃ ds, Vals (([V.int 0] : List V).drop 0) ds ∧ Binds K T.fd_Words_init ["self", "text", "line"] ds := by
  refine T.F_Words_init.binds1 2 0 (by simp) rfl fun TT kV doc pm an cdv ct us its h1 h2 => ?_
  match us, its, h1, h2 with
  | [u1, u2], [i1], _, _ => exact ⟨_, rfl, rfl⟩
def spRead (T : Txt K mg) : Sp := fun vs H Q _ => ∃ (p : Int) (t : NG.Fr) (gs : List NG.Gr), vs = [.str (NG.txtT p t gs)] ∧ NG.TrOk p t gs ∧ NG.lowF t = t ∧ gs.map NG.Gr.nrm = gs ∧ (NG.txtT p t gs).length + 2 ≤ sizeLine ∧
  ∀ (y : Addr) (H' : Hp), Same H H' → TrAt T H' y p t gs → Q (.ref y) H'
theorem ok_Train_read (T : Txt K mg) : FnOk P w K mg base CX0 14 T.a_Train_read T.fd_Train_read ["text"] (spRead T) := by
  obtain ⟨ds, vd, bd⟩ := b_Words_init T
  have DW := (ok_Words_init (P := P) (w := w) (base := base) T).raw bd vd
  refine T.F_Train_read.ok sc_Train_read (fun vs H Q E h => ?_) (fun cdv A outer s H vs Q E hr h => ?_)
  · obtain ⟨p, t, gs, rfl, _⟩ := h; rfl
  · obtain ⟨p, t, gs, rfl, hok, ht, hgs, hz, k⟩ := h
    refine ⟨_, pss_cons (ps_set (i := 1) sc_Train_read.nd rfl (Or.inl rfl) (pe_mkR T.wmk DW (hr.mono (by decide)) pass0 rfl T.m_Words (pa_cons (pv 0) pa_nil)))
      (pss_cons (ps_set (i := 2) sc_Train_read.nd rfl (Or.inl rfl) (pe_call (ok_take_train T) (hr.mono (by decide)) rfl T.m_take_train T.F_take_train.kp (b_take_train T) .nil pass0 (pa_cons (pv 1) (pa_nil))))
      (pss_cons (ps_expr (pe_meth0 (pv 1) T.wcls T.w_finish (ok_Words_finish T) (hr.mono (by decide)) (b_Words_finish T) .nil pass0))
      (pss_one (ps_ret (pv 2))))), ?_⟩
    refine ⟨_, rfl, fun x dx hx hdx ne => ?_⟩
    have sx : Same H (upd (upd H dx (.own x)) x (.ins T.a_Words dx [])) := fun c o e => by
      rw [upd_ne (ne_of_none e hx), upd_ne (ne_of_none e hdx)]
      exact e
    have xx : (upd (upd H dx (.own x)) x (.ins T.a_Words dx [])) x = some (.ins T.a_Words dx []) := upd_same
    refine ⟨x, dx, _, rfl, xx, hz, fun L hL => ⟨rfl, ?_⟩⟩
    rw [NG.split_txt hok]
    have xL : x ≠ L := ne_of_none xx hL
    have bx : But x H (upd (upd (upd (upd H dx (.own x)) x (.ins T.a_Words dx [])) L (.lst ((NG.wdsT p t gs).map V.str))) x (.ins T.a_Words dx [("words", .ref L), ("line", .int 0), ("at", .int 0)])) := fun c o n e => by
      rw [upd_ne n, upd_ne (ne_of_none (sx _ _ e) hL)]
      exact sx _ _ e
    have W0 : WdAt T (upd (upd (upd (upd H dx (.own x)) x (.ins T.a_Words dx [])) L (.lst ((NG.wdsT p t gs).map V.str))) x (.ins T.a_Words dx [("words", .ref L), ("line", .int 0), ("at", .int 0)])) x L (NG.wdsT p t gs) 0 := ⟨dx, upd_same, by rw [upd_ne (Ne.symm xL), upd_same], xL⟩
    generalize upd (upd (upd (upd H dx (.own x)) x (.ins T.a_Words dx [])) L (.lst ((NG.wdsT p t gs).map V.str))) x (.ins T.a_Words dx [("words", .ref L), ("line", .int 0), ("at", .int 0)]) = G at bx W0 ⊢
    have toS : ∀ {G2 : Hp}, But x H G2 → Same H G2 := fun h c o e => h c o (ne_of_none e hx) e
    refine ⟨_, rfl, x, L, p, t, gs, rfl, W0, hok, ht, hgs, fun y H3 b3 W3 tr => ?_⟩
    obtain ⟨d3, x3, l3, _⟩ := id W3
    refine ⟨_, rfl, x, d3, _, rfl, x3, rfl, x, L, _, _, rfl, W3, by rw [NG.wdsT_len]; exact Nat.le_refl _, ?_⟩
    exact ⟨_, rfl, k y H3 (toS (bx.trans b3)) tr⟩

/-! ### the law's own numbers -/
def spShared : Sp := fun vs H Q _ => ∃ a b : Int, vs = [.int a, .int b] ∧ 0 ≤ a ∧ 0 ≤ b ∧ Q (.int (NG.g2 a b)) H
theorem g2_step {a b : Int} (ha : 0 ≤ a) (hb : 0 < b) : NG.g2 b (a.fmod b) = NG.g2 a b := by
  rw [Int.fmod_eq_emod_of_nonneg a (Int.le_of_lt hb)]
  obtain ⟨x, rfl⟩ := Int.eq_ofNat_of_zero_le ha
  obtain ⟨y, rfl⟩ := Int.eq_ofNat_of_zero_le (Int.le_of_lt hb)
  unfold NG.g2
  rw [← Int.natCast_emod]
  simp only [Int.natAbs_natCast]
  rw [Nat.gcd_comm y (x % y), ← Nat.gcd_rec, Nat.gcd_comm]
theorem g2_zero {a : Int} (ha : 0 ≤ a) : NG.g2 a 0 = a := by
  unfold NG.g2
  simp
  omega
theorem ok_shared (T : Txt K mg) : FnOk P w K mg base CX0 1 T.a_shared T.fd_shared ["_law_one", "_law_other"] spShared := by
  refine T.F_shared.ok sc_shared (fun vs H Q E h => ?_) (fun cdv A outer s H vs Q E hr h => ?_)
  · obtain ⟨a, b, rfl, _⟩ := h; rfl
  · obtain ⟨a, b, rfl, ha, hb, k⟩ := h
    refine ⟨_, pss_cons (ps_par (i := 2) (j := 3) (by rfl) sc_shared.nd rfl rfl (by decide) rfl rfl (pa_cons (pv 0) (pa_cons (pv 1) (pa_nil))) (by rfl))
      (pss_cons (ps_while PassesOwn.never (pt_cmpR op_gt (pv 3) (pe_int) (nomark _)) (pss_one (ps_par (i := 2) (j := 3) (by rfl) sc_shared.nd rfl rfl (by decide) rfl rfl (pa_cons (pv 3) (pa_cons (pe_op op_modN (pe_callTy call_int1 (by rfl) T.n_int (by decide +kernel) (pa_cons (pv 2) (pa_nil))) (pv 3)) (pa_nil))) (by rfl))))
      (pss_one (ps_ret (pv 2)))), ?_⟩
    refine ⟨_, rfl, _, rfl, _, _, rfl, ?_⟩
    refine ⟨fun m σ H' => H' = H ∧ ∃ f l : Int, σ = [some (.int a), some (.int b), some (.int f), some (.int l)] ∧ m = l.toNat ∧ 0 ≤ f ∧ 0 ≤ l ∧ NG.g2 f l = NG.g2 a b, ⟨_, rfl, a, b, rfl, rfl, ha, hb, rfl⟩, ?_⟩
    rintro m σ H' ⟨rfl, f, l, rfl, rfl, hf, hl, hg⟩
    refine ⟨_, rfl, _, _, rfl, rfl, _, rfl, ?_⟩
    by_cases h0 : 0 < l
    · refine if_true_of (decide_eq_true h0) ⟨fun σ H2 => H2 = H' ∧ σ = [some (.int a), some (.int b), some (.int l), some (.int (f.fmod l))], ?_, ?_⟩
      · rintro σ' H2 ⟨rfl, rfl⟩
        have fm := fmod_pos (x := f) h0
        exact ⟨(f.fmod l).toNat, by omega, rfl, l, f.fmod l, rfl, rfl, by omega, fm.1, by rw [g2_step hf h0]; exact hg⟩
      · refine ⟨_, rfl, _, rfl, .inl ⟨_, rfl, ?_⟩⟩
        refine ⟨_, rfl, _, _, rfl, rfl, by omega, _, _, rfl, rfl, rfl⟩
    · have e : l = 0 := by omega
      subst e
      refine if_false_of (decide_eq_false h0) ⟨_, rfl, ?_⟩
      rw [← hg, g2_zero hf] at k
      exact k
def spLowest (K : PySem.W.Frag) : Sp := fun vs H Q _ => ∃ (a b : Int), vs = [.int a, .int b] ∧ 0 ≤ a ∧ 0 < b ∧ b.natAbs < 2 ^ 200 ∧ ∀ (p : Addr) (H' : Hp), H p = Option.none → Same H H' → H' p = some (.tup [.int (NG.low a b).1, .int (NG.low a b).2]) → Q (.ref p) H'
theorem ok_lowest (T : Txt K mg) : FnOk P w K mg base CX0 2 T.a_lowest T.fd_lowest ["_law_top", "_law_bottom"] (spLowest K) := by
  refine T.F_lowest.ok sc_lowest (fun vs H Q E h => ?_) (fun cdv A outer s H vs Q E hr h => ?_)
  · obtain ⟨a, b, rfl, _⟩ := h; rfl
  · obtain ⟨a, b, rfl, ha, hb, hb2, k⟩ := h
    refine ⟨_, pss_cons (ps_set (i := 2) sc_lowest.nd rfl (Or.inl rfl) (pe_call (ok_shared T) (hr.mono (by decide)) rfl T.m_shared T.F_shared.kp (b_shared T) .nil pass0 (pa_cons (pv 0) (pa_cons (pv 1) (pa_nil)))))
      (pss_one (ps_ret (pe_tup (pa_cons (pe_op op_fdivW (pv 0) (pv 2)) (pa_cons (pe_op op_fdivW (pv 1) (pv 2)) (pa_nil)))))), ?_⟩
    refine ⟨_, rfl, _, rfl, a, b, rfl, ha, by omega, ?_⟩
    have g := NG.g2_pos (a := a) hb
    have gl := NG.g2_le (a := a) hb
    have c : ∀ i, CDivW i (NG.g2 a b) := fun i => wide_div (b := 200) g (by omega) (by decide) (by decide)
    refine ⟨_, rfl, _, rfl, rI_divW rfl (c _) ⟨_, rfl, _, rfl, rI_divW rfl (c _) ?_⟩⟩
    exact ⟨(by show 2 ≤ sizeLine; decide), fun p hp => k p _ hp (same_new hp) upd_same⟩
def spByMul (K : PySem.W.Frag) : Sp := fun vs H Q _ => ∃ (L : Addr) (ns : List Int), vs = [.ref L] ∧ SqL K H L (ns.map V.int) ∧ (∀ z ∈ ns, 0 < z ∧ z.natAbs < 2 ^ 100) ∧ ns.length ≤ 60 ∧ Q (.int (NM.lcmL ns)) H
theorem ok_by_multiple (T : Txt K mg) : FnOk P w K mg base CX0 2 T.a_by_multiple T.fd_by_multiple ["_law_numbers"] (spByMul K) := by
  refine T.F_by_multiple.ok sc_by_multiple (fun vs H Q E h => ?_) (fun cdv A outer s H vs Q E hr h => ?_)
  · obtain ⟨L, ns, rfl, _⟩ := h; rfl
  · obtain ⟨L, ns, rfl, hS, hns, hlen, k⟩ := h
    refine ⟨_, pss_cons (ps_set (i := 1) sc_by_multiple.nd rfl (Or.inl rfl) (pe_int))
      (pss_cons (ps_for PassesOwn.never rfl (pi_list (pv 0)) (pg_name (i := 2) sc_by_multiple.nd rfl (Or.inl rfl)) (pss_one (ps_set (i := 1) sc_by_multiple.nd rfl (Or.inl rfl) (pe_op op_mulW (pe_op op_fdivW (pv 1) (pe_call (ok_shared T) (hr.mono (by decide)) rfl T.m_shared T.F_shared.kp (b_shared T) .nil pass0 (pa_cons (pv 1) (pa_cons (pv 2) (pa_nil))))) (pv 2)))))
      (pss_one (ps_ret (pv 1)))), ?_⟩
    refine ⟨_, rfl, L, rfl, ⟨_, hS⟩, for_list (K := K) (a := L) (xs := ns.map V.int) (fun i σ H2 => H2 = H ∧ ∃ v, σ = [some (.ref L), some (.int (NM.lcmL (ns.take i))), v]) ⟨rfl, _, rfl⟩ (fun _ _ _ _ h => h.1 ▸ hS) ?_ ?_⟩
    · rintro i y σ H2 hi ⟨rfl, v, rfl⟩
      obtain ⟨z, hz, rfl⟩ := map_get hi
      obtain ⟨c1, c2, e, hp⟩ := lcm_next hns hlen hz
      have hz0 := (hns z (List.mem_of_getElem? hz)).1
      refine ⟨_, rfl, _, rfl, _, rfl, _, z, rfl, by omega, by omega, rI_divW rfl c1 ⟨_, rfl, rI_mulW e c2 ?_⟩⟩
      exact ⟨rfl, some (.int z), rfl⟩
    · rintro σ H2 ⟨rfl, v, rfl⟩
      rw [List.length_map, List.take_length]
      exact ⟨_, rfl, k⟩
def spPeriods (K : PySem.W.Frag) : Sp := fun vs H Q _ => ∃ (p : Int) (a : Addr) (xs : List V) (gs : List NG.Gr), vs = [.int p, .ref a] ∧ H a = some (.lst xs) ∧ DpAll K H xs (gs.map grD) ∧ (1 ≤ p ∧ p ≤ 1000000) ∧ NG.GsFrom 0 gs ∧ gs.length ≤ 6 ∧
  ∀ (q : Addr) (ys : List V) (H' : Hp), H q = Option.none → Same H H' → H' q = some (.lst ys) → DpAll K H' ys ((NG.pers p gs).map frD) → Q (.ref q) H'
theorem ok_periods (T : Txt K mg) : FnOk P w K mg base CX0 4 T.a_periods T.fd_periods ["_law_period_here", "_law_gears_here"] (spPeriods K) := by
  refine T.F_periods.ok sc_periods (fun vs H Q E h => ?_) (fun cdv A outer s H vs Q E hr h => ?_)
  · obtain ⟨p, a, xs, gs, rfl, _⟩ := h; rfl
  · obtain ⟨p, a, xs, gs, rfl, hS, hA, hp, hk, hl, k⟩ := h
    have lx : xs.length = gs.length := by rw [dpAll_len hA, List.length_map]
    refine ⟨_, pss_cons (ps_set (i := 2) sc_periods.nd rfl (Or.inl rfl) (pe_lst (pa_cons (pe_tup (pa_cons (pv 0) (pa_cons (pe_int) (pa_nil)))) (pa_nil))))
      (pss_cons (ps_for PassesOwn.never rfl (pi_list (pv 1)) (pg_tup rfl (pgs_cons (pg_name (i := 3) sc_periods.nd rfl (Or.inl rfl)) (pgs_cons (pg_name (i := 4) sc_periods.nd rfl (Or.inl rfl)) (pgs_cons (pg_name (i := 5) sc_periods.nd rfl (Or.inl rfl)) (pgs_cons (pg_name (i := 6) sc_periods.nd rfl (Or.inl rfl)) (pgs_nil)))))) (pss_one (ps_expr (pe_bm PySem.F.plainAttrs_list PySem.F.slot_list_append PySem.F.type_list_append mt_append (pv 2) (pa_cons (pe_call (ok_lowest T) (hr.mono (by decide)) rfl T.m_lowest T.F_lowest.kp (b_lowest T) .nil pass0 (pa_cons (pe_op op_mulW (pe_ix ix_tup (pe_ix ix_list (pv 2) (pv 3) (fun _ _ => rfl)) (pe_int) (fun _ _ => rfl)) (pv 5)) (pa_cons (pe_op op_mulW (pe_ix ix_tup (pe_ix ix_list (pv 2) (pv 3) (fun _ _ => rfl)) (pe_int) (fun _ _ => rfl)) (pv 4)) (pa_nil)))) (pa_nil))))))
      (pss_one (ps_ret (pv 2)))), ?_⟩
    refine ⟨_, rfl, (by show 2 ≤ sizeLine; decide), fun p0 hp0 => ⟨(by show 1 ≤ sizeLine; decide), fun L hL => ?_⟩⟩
    have s0 : Same H (upd (upd H p0 (.tup [.int p, .int 1])) L (.lst [.ref p0])) := (same_new hp0).trans (same_new hL)
    have hL0 : H L = Option.none := (same_new hp0).free hL
    refine ⟨_, rfl, a, rfl, ⟨_, SqL.of (s0 _ _ hS)⟩, for_list (K := K) (a := a) (xs := xs) (fun i σ H' => Same H H' ∧ (∃ ys, H' L = some (.lst ys) ∧ DpAll K H' ys ((NG.pers p (gs.take i)).map frD)) ∧ ∃ x3 x4 x5 x6 : Option V, σ = [some (.int p), some (.ref a), some (.ref L), x3, x4, x5, x6]) ⟨s0, ⟨_, upd_same, ?_⟩, _, _, _, _, rfl⟩ (fun i σ H' _ z => SqL.of (z.1 _ _ hS)) ?_ ?_⟩
    · have hp1 : upd (upd H p0 (.tup [.int p, .int 1])) L (.lst [.ref p0]) p0 = some (.tup [.int p, .int 1]) := by rw [upd_ne (ne_of_none upd_same hL), upd_same]
      exact .cons (fr_dp (t := (p, 1)) (SqT.of hp1)) .nil
    · rintro i y σ H' hy ⟨s1, ⟨ys, hys, hD⟩, x3, x4, x5, x6, rfl⟩
      obtain ⟨g, hg, hgd⟩ := dpAll_at' hA hy
      obtain ⟨t, ht, hnx, hon, c1, c2, b1, b2, b3, _⟩ := step_ok hp hk hl hg
      obtain ⟨ga, u, rfl, hG, hu⟩ := dp_gr (dp_same s1 _ _ hgd)
      obtain ⟨v, hv1, hv2⟩ := dpAll_at hD ht
      obtain ⟨va, rfl, hV⟩ := dp_fr hv2
      refine ⟨ga, _, rfl, hG, rfl, _, _, rfl, _, _, rfl, _, _, rfl, _, _, rfl, rfl, ?_⟩
      refine ⟨_, rfl, .inl ⟨rfl, _, SqL.of hys⟩, ?_⟩
      refine ⟨_, rfl, _, rfl, L, ys, g.on, _, rfl, rfl, SqL.of hys, (by rw [hon]; exact atI_nat hv1), va, _, 0, .int t.1, rfl, rfl, hV, rfl, _, rfl, rI_mulW rfl c1 ⟨_, rfl, _, rfl, L, ys, g.on, _, rfl, rfl, SqL.of hys, (by rw [hon]; exact atI_nat hv1), va, _, 1, .int t.2, rfl, rfl, hV, rfl, _, rfl, rI_mulW rfl c2 ?_⟩⟩
      refine ⟨_, _, rfl, by omega, b2, b3, fun q H2 hq s2 h2 => ?_⟩
      refine ⟨L, ys, _, rfl, rfl, s2 _ _ hys, ?_, ?_⟩
      · rw [dpAll_len hD, List.length_map, NG.pers_len, List.length_take, sizeLine_eq]
        omega
      · have h3 := s2 _ _ hys
        have nqL : q ≠ L := fun z => by rw [z, h3] at h2; cases h2
        have kp := kp_upd (o := .lst (ys ++ [.ref q])) h3
        refine ⟨fun b o e => ?_, ⟨_, upd_same, ?_⟩, _, _, _, _, rfl⟩
        · rw [upd_ne (ne_of_none e hL0)]
          exact s2 _ _ (s1 _ _ e)
        · rw [hnx, List.map_append]
          refine dpAll_app (dp_kpAll kp _ _ (nl_all nl_fr _) (dp_sameAll s2 _ _ hD)) (.cons (fr_dp (SqT.of ?_)) .nil)
          rw [upd_ne nqL]
          exact h2
    · rintro σ H' ⟨s1, ⟨ys, hys, hD⟩, x3, x4, x5, x6, rfl⟩
      rw [lx, List.take_length] at hD
      exact ⟨_, rfl, k L ys _ hL0 s1 hys hD⟩
def spTrain (T : Txt K mg) : Sp := fun vs H Q _ => ∃ (p : Int) (sv : V) (t : NG.Fr) (a : Addr) (xs : List V) (gs : List NG.Gr), vs = [.int p, sv, .ref a] ∧ Dp K H sv (frD t) ∧ H a = some (.lst xs) ∧ DpAll K H xs (gs.map grD) ∧ NG.TrOk p t gs ∧
  ∀ (y : Addr) (H' : Hp), Same H H' → TrAt T H' y p (NG.lowF t) (gs.map NG.Gr.nrm) → Q (.ref y) H'
theorem TrOk.take {p : Int} {t : NG.Fr} {gs : List NG.Gr} (h : NG.TrOk p t gs) (i : Nat) : NG.TrOk p t (gs.take i) := ⟨h.p, h.s, h.g.take i, by rw [List.length_take]; have := h.l; omega⟩
theorem ok_train (T : Txt K mg) : FnOk P w K mg base CX0 14 T.a_train T.fd_train ["_law_period_here", "_law_slip", "_law_gears_here"] (spTrain T) := by
  refine T.F_train.ok sc_train (fun vs H Q E h => ?_) (fun cdv A outer s H vs Q E hr h => ?_)
  · obtain ⟨p, sv, t, a, xs, gs, rfl, _⟩ := h; rfl
  · obtain ⟨p, sv, t, a, xs, gs, rfl, hsv, hS, hA, hok, k⟩ := h
    have lx : xs.length = gs.length := by rw [dpAll_len hA, List.length_map]
    refine ⟨_, pss_cons (ps_set (i := 3) sc_train.nd rfl (Or.inl rfl) (pe_mkK T.tmk (ok_Train_initK T) (hr.mono (by decide)) rfl T.m_Train pass0 (pa_cons (pv 0) (pa_nil)) (pk_cons (pv 1) (pk_nil))))
      (pss_cons (ps_for PassesOwn.never rfl (pi_list (pv 2)) (pg_name (i := 4) sc_train.nd rfl (Or.inl rfl)) (pss_one (ps_set (i := 3) sc_train.nd rfl (Or.inl rfl) (pe_op ((op_binW K (by rfl) (ok_Train_add T) (hr.mono (by decide)) (b_Train_add T) pass0)) (pv 3) (pv 4)))))
      (pss_one (ps_ret (pv 3)))), ?_⟩
    refine ⟨_, rfl, tNil_to ⟨_, rfl, tNil_to ?_⟩⟩
    intro y dy hy hdy ne
    have sy : Same H (upd (upd H dy (.own y)) y (.ins T.a_Train dy [])) := fun b o e => by
      rw [upd_ne (ne_of_none e hy), upd_ne (ne_of_none e hdy)]
      exact e
    refine ⟨_, _, _, _, rfl, rfl, (by show 0 ≤ sizeLine; decide), y, dy, p, t, [], rfl, rfl, upd_same, dp_same sy _ _ hsv, .nil, ⟨hok.p, hok.s, trivial, by decide⟩, fun H1 b1 tr => ⟨rfl, ?_⟩⟩
    have s1 : Same H H1 := fun b o e => b1 b o (ne_of_none e hy) (sy _ _ e)
    refine ⟨_, rfl, a, rfl, ⟨_, SqL.of (s1 _ _ hS)⟩, for_list (K := K) (a := a) (xs := xs) (fun i σ H' => Same H H' ∧ ∃ (y : Addr) (x4 : Option V), σ = [some (.int p), some sv, some (.ref a), some (.ref y), x4] ∧ TrAt T H' y p (NG.lowF t) ((gs.take i).map NG.Gr.nrm)) ⟨s1, y, _, rfl, tr⟩ (fun i σ H' _ z => SqL.of (z.1 _ _ hS)) ?_ ?_⟩
    · rintro i v H2 H' hv ⟨s2, y, x4, rfl, tr⟩
      obtain ⟨g, hg, hgd⟩ := dpAll_at' hA hv
      have hgd := dp_same s2 _ _ hgd
      obtain ⟨ga, u, rfl, hG, _⟩ := dp_gr hgd
      have hgk := hok.g.at hg
      rw [Nat.zero_add] at hgk
      have hi : i < gs.length := (List.getElem?_eq_some_iff.mp hg).1
      have hl6 := hok.l
      have lt : ((gs.take i).map NG.Gr.nrm).length = i := by rw [List.length_map, List.length_take]; omega
      obtain ⟨dx, ag, ap, as, hx, _⟩ := id tr
      refine ⟨_, rfl, _, rfl, y, T.a_Train, dx, _, "tuple", rfl, hx, tyT hG, T.addO, ?_⟩
      refine ⟨y, .ref ga, p, NG.lowF t, (gs.take i).map NG.Gr.nrm, g, rfl, tr, (TrOk.take hok i).nrm, NG.lowF_low hok.s, ((hok.g.take i).nn), hgd, by rw [lt]; exact hgk, by rw [lt]; omega, fun y2 H3 s3 tr2 => ⟨_, rfl, s2.trans s3, y2, _, rfl, ?_⟩⟩
      rw [NM.take_snoc hg, List.map_append]
      exact tr2
    · rintro σ H' ⟨s2, y, x4, rfl, tr⟩
      rw [lx, List.take_length] at tr
      exact ⟨_, rfl, k y H' s2 tr⟩
def spStands (K : PySem.W.Frag) : Sp := fun vs H Q _ => ∃ (a : Addr) (xs : List V) (v : Int) (ps : List NG.Fr), vs = [.ref a, .int v] ∧ H a = some (.lst xs) ∧ DpAll K H xs (ps.map frD) ∧ ps.length ≤ 7 ∧ (∀ u ∈ ps, NG.PfOk 1000000000000000000000000 u) ∧ v.natAbs < 2 ^ 1500 ∧
  ∀ (q : Addr) (H' : Hp), Same H H' → Dp K H' (.ref q) (.tuple ((ps.map fun u => NG.low ((v * u.2).fmod u.1) u.2).map frD)) → Q (.ref q) H'
theorem ok_stands (T : Txt K mg) : FnOk P w K mg base CX0 4 T.a_stands T.fd_stands ["_law_periods_here", "_law_value"] (spStands K) := by
  refine T.F_stands.ok sc_stands (fun vs H Q E h => ?_) (fun cdv A outer s H vs Q E hr h => ?_)
  · obtain ⟨a, xs, v, ps, rfl, _⟩ := h; rfl
  · obtain ⟨a, xs, v, ps, rfl, hS, hA, hl, hps, hv, k⟩ := h
    refine ⟨_, pss_one (ps_ret (pe_callTy call_tuple_of (by rfl) T.n_tuple (by decide +kernel) (pa_cons (pe_lc (own := [("_law_top", 2), ("_law_bottom", 3)]) (tt := tYes) rfl sc_stands.nd (pi_list (pv 0)) (blkOk_by (own := [("_law_top", 2), ("_law_bottom", 3)]) (N := ["_law_periods_here", "_law_value", "_law_top", "_law_bottom"]) (sc := defScope s_stands) (by decide +kernel)) (fun _ _ _ _ _ => pg_tup2 K 2 (by rfl) (by rfl) (pgs_cons (pg_name (i := 2) sc_stands.nd rfl (Or.inl rfl)) (pgs_cons (pg_name (i := 3) sc_stands.nd rfl (Or.inl rfl)) (pgs_nil)))) (fun _ _ _ _ _ => pts_nil) (fun _ _ _ _ _ => pe_call (ok_lowest T) (hr.mono (by decide)) rfl T.m_lowest T.F_lowest.kp (b_lowest T) .nil pass0 (pa_cons (pe_op op_modN (pe_callTy call_int1 (by rfl) T.n_int (by decide +kernel) (pa_cons (pe_op op_mulW (pv 1) (pv 3)) (pa_nil))) (pv 2)) (pa_cons (pv 3) (pa_nil))))) (pa_nil)))), ?_⟩
    refine ⟨_, rfl, a, rfl, ⟨_, SqL.of hS⟩, fun D hD => lc_dpL (ts := ps) (f := frD) (r := fun u => frD (NG.low ((v * u.2).fmod u.1) u.2)) hD (by omega) (SqL.of hS) hA (fun _ => rfl) ?_ ?_⟩
    · rintro i u y G Qy Qn sG hg hy hgd kk
      obtain ⟨ua, rfl, hU⟩ := dp_fr hgd
      obtain ⟨q1, q2, q3, q4⟩ := hps u (List.mem_of_getElem? hg)
      have fm := fmod_pos (x := v * u.2) q1
      refine ⟨ua, _, rfl, hU, rfl, _, _, rfl, _, _, rfl, rfl, rfl, ?_⟩
      refine ⟨_, rfl, _, rfl, rI_mulW rfl (wide_mul (a := 1500) (b := 100) hv (by omega) (by decide) (by decide) (by decide)) (.inl ⟨_, rfl, _, rfl, _, _, rfl, rfl, by omega, _, rfl, _, _, rfl, fm.1, q3, by omega, fun z H2 hz s2 h2 => kk _ _ s2 (fr_dp (t := NG.low ((v * u.2).fmod u.1) u.2) (SqT.of h2))⟩)⟩
    · rintro G ys sG hys hD2
      refine ⟨D, ys, rfl, .inl ⟨SqL.of hys, fun z hz => ?_⟩⟩
      refine k z _ (sG.trans (same_new hz)) (.tup (SqT.of upd_same) ?_)
      rw [List.map_map]
      exact dp_sameAll (same_new hz) _ _ hD2

/-! ### what the law draws -/
/-- the drawn things: the pen is as it stands, all but the pen stays -/
def Fine4 (K : PySem.W.Frag) (H : Hp) (v : V) : Prop := ∃ t, Dp K H v (frD t) ∧ NG.FrOk t
theorem Fine4.kp {H H' : Hp} {v : V} (s : Kp H H') (h : Fine4 K H v) : Fine4 K H' v := by
  obtain ⟨t, h1, h2⟩ := h
  exact ⟨t, dp_kp s _ _ (nl_fr t) h1, h2⟩
theorem kp_fr {p : Addr} {H H' : Hp} {n : Nat} (h : Pen H p n) (f : Fr p H H') : Kp H H' := by
  obtain ⟨xs, e⟩ := h.at
  exact kp_but e (fun b o ne z => f b o ne z)
theorem pen_updL {H1 H2 : Hp} {q L : Addr} {n m : Nat} {o : HO} (h1 : Pen H1 q n) (hL : H1 L = Option.none) (f : Fr q H1 H2) (h2 : Pen H2 q m) : Pen (upd H2 L o) q m := by
  have nL : L ≠ q := h1.neq hL
  obtain ⟨cc, ns, i, g, p1, p2, _⟩ := h1
  obtain ⟨ys, hy⟩ := f.head _ _ p1
  obtain ⟨c', ns', i', g', q1, q2, q3⟩ := h2
  have e : c' = cc := by
    have z := Option.some.inj (hy.symm.trans q1)
    injection z with z
    injection z with z _
    injection z with z
    exact z.symm
  have nc : c' ≠ L := by rw [e]; exact ne_of_none p2 hL
  exact ⟨c', ns', i', g', by rw [upd_ne (Ne.symm nL)]; exact q1, by rw [upd_ne nc]; exact q2, q3⟩
theorem fr_updL {H1 H2 : Hp} {q L : Addr} {o : HO} (nL : L ≠ q) (hL : H1 L = Option.none) (f : Fr q H1 H2) : Fr q H1 (upd H2 L o) := ⟨fun b u n e => by rw [upd_ne (ne_of_none e hL)]; exact f b u n e, fun v xs e => by
  obtain ⟨ys, h⟩ := f.head v xs e
  exact ⟨ys, by rw [upd_ne (Ne.symm nL)]; exact h⟩⟩
def spFraction (K : PySem.W.Frag) : Sp := fun vs H Q _ => ∃ (p : Addr) (n : Nat), vs = [.ref p] ∧ Pen H p n ∧ n + 10 < 100000 ∧ ∀ (v : V) (t : NG.Fr) (H' : Hp), Dp K H' v (frD t) → NG.FrOk t → Fr p H H' → Pen H' p (n + 5) → Q v H'
theorem ok_fraction (T : Txt K mg) : FnOk P w K mg base CX0 4 T.a_fraction T.fd_fraction ["_law_pen_here"] (spFraction K) := by
  refine T.F_fraction.ok sc_fraction (fun vs H Q E h => ?_) (fun cdv A outer s H vs Q E hr h => ?_)
  · obtain ⟨p, n, rfl, _⟩ := h; rfl
  · obtain ⟨p, n, rfl, hP, hn, k⟩ := h
    refine ⟨_, pss_cons (ps_set (i := 1) sc_fraction.nd rfl (Or.inl rfl) (pe_lst (pa_cons (pe_tup (pa_cons (pe_int) (pa_cons (pe_int) (pa_nil)))) (pa_cons (pe_tup (pa_cons (pe_int) (pa_cons (pe_int) (pa_nil)))) (pa_cons (pe_tup (pa_cons (pe_int) (pa_cons (pe_int) (pa_nil)))) (pa_cons (pe_tup (pa_cons (pe_int) (pa_cons (pe_int) (pa_nil)))) (pa_cons (pe_tup (pa_cons (pe_int) (pa_cons (pe_int) (pa_nil)))) (pa_cons (pe_tup (pa_cons (pe_op op_pow (pe_int) (pe_int)) (pa_cons (pe_op op_pow (pe_int) (pe_int)) (pa_nil)))) (pa_cons (pe_tup (pa_cons (pe_op op_pow (pe_int) (pe_int)) (pa_cons (pe_int) (pa_nil)))) (pa_nil))))))))))
      (pss_cons (ps_set (i := 2) sc_fraction.nd rfl (Or.inl rfl) (pe_tup (pa_cons (pe_call (ok_draw T) (hr.mono (by decide)) rfl T.m_draw T.F_draw.kp (b_draw T) .nil pass0 (pa_cons (pv 0) (pa_cons (pe_op op_add (pe_op op_pow (pe_int) (pe_int)) (pe_int)) (pa_nil)))) (pa_cons (pe_op op_add (pe_int) (pe_call (ok_draw T) (hr.mono (by decide)) rfl T.m_draw T.F_draw.kp (b_draw T) .nil pass0 (pa_cons (pv 0) (pa_cons (pe_op op_pow (pe_int) (pe_int)) (pa_nil))))) (pa_nil)))))
      (pss_one (ps_ret (pe_call (ok_pick T) (hr.mono (by decide)) rfl T.m_pick T.F_pick.kp (b_pick T) .nil pass0 (pa_cons (pv 0) (pa_cons (pe_op op_cat (pv 1) (pe_lst (pa_cons (pv 2) (pa_cons (pv 2) (pa_cons (pe_tup (pa_cons (pe_call (ok_draw T) (hr.mono (by decide)) rfl T.m_draw T.F_draw.kp (b_draw T) .nil pass0 (pa_cons (pv 0) (pa_cons (pe_int) (pa_nil)))) (pa_cons (pe_op op_add (pe_int) (pe_call (ok_draw T) (hr.mono (by decide)) rfl T.m_draw T.F_draw.kp (b_draw T) .nil pass0 (pa_cons (pv 0) (pa_cons (pe_int) (pa_nil))))) (pa_nil)))) (pa_nil)))))) (pa_nil))))))), ?_⟩
    have l2 : 2 ≤ sizeLine := by decide
    have pw : CPow 10 6 := ⟨by decide, by decide, by decide⟩
    have sA : Same H H := fun _ _ e => e
    refine ⟨l2, fun a0 h0 => ?_⟩
    have s0 := same_new (o := .tup [.int 0, .int 1]) h0
    have e0 : upd H a0 (.tup [.int 0, .int 1]) a0 = some (.tup [.int 0, .int 1]) := upd_same
    generalize upd H a0 (.tup [.int 0, .int 1]) = G0 at s0 e0 ⊢
    have sA := sA.trans s0
    refine ⟨l2, fun a1 h1 => ?_⟩
    have s1 := same_new (o := .tup [.int 0, .int 6]) h1
    have e1 : upd G0 a1 (.tup [.int 0, .int 6]) a1 = some (.tup [.int 0, .int 6]) := upd_same
    generalize upd G0 a1 (.tup [.int 0, .int 6]) = G1 at s1 e1 ⊢
    have e0 := s1 _ _ e0
    have sA := sA.trans s1
    refine ⟨l2, fun a2 h2 => ?_⟩
    have s2 := same_new (o := .tup [.int 1, .int 2]) h2
    have e2 : upd G1 a2 (.tup [.int 1, .int 2]) a2 = some (.tup [.int 1, .int 2]) := upd_same
    generalize upd G1 a2 (.tup [.int 1, .int 2]) = G2 at s2 e2 ⊢
    have e0 := s2 _ _ e0
    have e1 := s2 _ _ e1
    have sA := sA.trans s2
    refine ⟨l2, fun a3 h3 => ?_⟩
    have s3 := same_new (o := .tup [.int 2, .int 4]) h3
    have e3 : upd G2 a3 (.tup [.int 2, .int 4]) a3 = some (.tup [.int 2, .int 4]) := upd_same
    generalize upd G2 a3 (.tup [.int 2, .int 4]) = G3 at s3 e3 ⊢
    have e0 := s3 _ _ e0
    have e1 := s3 _ _ e1
    have e2 := s3 _ _ e2
    have sA := sA.trans s3
    refine ⟨l2, fun a4 h4 => ?_⟩
    have s4 := same_new (o := .tup [.int 3, .int 1]) h4
    have e4 : upd G3 a4 (.tup [.int 3, .int 1]) a4 = some (.tup [.int 3, .int 1]) := upd_same
    generalize upd G3 a4 (.tup [.int 3, .int 1]) = G4 at s4 e4 ⊢
    have e0 := s4 _ _ e0
    have e1 := s4 _ _ e1
    have e2 := s4 _ _ e2
    have e3 := s4 _ _ e3
    have sA := sA.trans s4
    refine ⟨_, _, rfl, rfl, pw, _, _, rfl, rfl, pw, ⟨l2, fun a5 h5 => ?_⟩⟩
    have s5 := same_new (o := .tup [.int (10 ^ (6 : Int).toNat), .int (10 ^ (6 : Int).toNat)]) h5
    have e5 : upd G4 a5 (.tup [.int (10 ^ (6 : Int).toNat), .int (10 ^ (6 : Int).toNat)]) a5 = some (.tup [.int (10 ^ (6 : Int).toNat), .int (10 ^ (6 : Int).toNat)]) := upd_same
    generalize upd G4 a5 (.tup [.int (10 ^ (6 : Int).toNat), .int (10 ^ (6 : Int).toNat)]) = G5 at s5 e5 ⊢
    have e0 := s5 _ _ e0
    have e1 := s5 _ _ e1
    have e2 := s5 _ _ e2
    have e3 := s5 _ _ e3
    have e4 := s5 _ _ e4
    have sA := sA.trans s5
    refine ⟨_, _, rfl, rfl, pw, ⟨l2, fun a6 h6 => ?_⟩⟩
    have s6 := same_new (o := .tup [.int (10 ^ (6 : Int).toNat), .int 999999]) h6
    have e6 : upd G5 a6 (.tup [.int (10 ^ (6 : Int).toNat), .int 999999]) a6 = some (.tup [.int (10 ^ (6 : Int).toNat), .int 999999]) := upd_same
    generalize upd G5 a6 (.tup [.int (10 ^ (6 : Int).toNat), .int 999999]) = G6 at s6 e6 ⊢
    have e0 := s6 _ _ e0
    have e1 := s6 _ _ e1
    have e2 := s6 _ _ e2
    have e3 := s6 _ _ e3
    have e4 := s6 _ _ e4
    have e5 := s6 _ _ e5
    have sA := sA.trans s6
    refine ⟨(by show 7 ≤ sizeLine; decide), fun l hl => ?_⟩
    have hPl := hP.same sA
    have sl := same_new (o := .lst [.ref a0, .ref a1, .ref a2, .ref a3, .ref a4, .ref a5, .ref a6]) hl
    have el : upd G6 l (.lst [.ref a0, .ref a1, .ref a2, .ref a3, .ref a4, .ref a5, .ref a6]) l = some (.lst [.ref a0, .ref a1, .ref a2, .ref a3, .ref a4, .ref a5, .ref a6]) := upd_same
    generalize upd G6 l (.lst [.ref a0, .ref a1, .ref a2, .ref a3, .ref a4, .ref a5, .ref a6]) = G at sl el ⊢
    have sA := sA.trans sl
    have all7 : ∀ v ∈ ([.ref a0, .ref a1, .ref a2, .ref a3, .ref a4, .ref a5, .ref a6] : List V), Fine4 K G v := by
      intro v hv
      simp only [List.mem_cons, List.not_mem_nil, or_false] at hv
      rcases hv with rfl | rfl | rfl | rfl | rfl | rfl | rfl
      · exact ⟨(0, 1), fr_dp (SqT.of (sl _ _ e0)), by unfold NG.FrOk; decide⟩
      · exact ⟨(0, 6), fr_dp (SqT.of (sl _ _ e1)), by unfold NG.FrOk; decide⟩
      · exact ⟨(1, 2), fr_dp (SqT.of (sl _ _ e2)), by unfold NG.FrOk; decide⟩
      · exact ⟨(2, 4), fr_dp (SqT.of (sl _ _ e3)), by unfold NG.FrOk; decide⟩
      · exact ⟨(3, 1), fr_dp (SqT.of (sl _ _ e4)), by unfold NG.FrOk; decide⟩
      · exact ⟨(10 ^ (6 : Int).toNat, 10 ^ (6 : Int).toNat), fr_dp (SqT.of (sl _ _ e5)), by unfold NG.FrOk; decide⟩
      · exact ⟨(10 ^ (6 : Int).toNat, 999999), fr_dp (SqT.of (sl _ _ e6)), by unfold NG.FrOk; decide⟩
    have l7 : ([.ref a0, .ref a1, .ref a2, .ref a3, .ref a4, .ref a5, .ref a6] : List V).length = 7 := rfl
    generalize ([.ref a0, .ref a1, .ref a2, .ref a3, .ref a4, .ref a5, .ref a6] : List V) = xs7 at el all7 l7
    have hP := hP.same sA
    have nl : l ≠ p := hPl.neq hl
    refine ⟨_, rfl, _, _, rfl, rfl, pw, _, _, rfl, rfl, p, _, n, rfl, by decide, by decide, hP, by omega, fun r1 H1 r10 r11 hP1 f1 => ?_⟩
    refine ⟨_, rfl, _, _, rfl, rfl, pw, p, _, n + 1, rfl, by decide, by decide, hP1, by omega, fun r2 H2 r20 r21 hP2 f2 => ⟨_, _, rfl, rfl, l2, fun d hd => ?_⟩⟩
    have fA : Fr p G H2 := f1.trans f2
    have hdd : upd H2 d (.tup [.int r1, .int (1 + r2)]) d = some (.tup [.int r1, .int (1 + r2)]) := upd_same
    have sd := same_new (o := .tup [.int r1, .int (1 + r2)]) hd
    have hP2 := hP2.same sd
    have fA := fA.trans (same_fr sd)
    generalize upd H2 d (.tup [.int r1, .int (1 + r2)]) = G2 at hdd fA hP2 ⊢
    refine ⟨_, rfl, _, rfl, _, rfl, _, rfl, _, rfl, p, _, n + 2, rfl, by decide, by decide, hP2, by omega, fun r3 H3 r30 r31 hP3 f3 => ⟨_, rfl, p, _, n + 3, rfl, by decide, by decide, hP3, by omega, fun r4 H4 r40 r41 hP4 f4 => ⟨_, _, rfl, rfl, l2, fun d2 hd2 => ⟨(by show 3 ≤ sizeLine; decide), fun l3 hl3 => ?_⟩⟩⟩⟩
    have s2 := same_new (o := .tup [.int r3, .int (1 + r4)]) hd2
    have e2 : upd H4 d2 (.tup [.int r3, .int (1 + r4)]) d2 = some (.tup [.int r3, .int (1 + r4)]) := upd_same
    have fB := (f3.trans f4).trans (same_fr s2)
    have hP4 := hP4.same s2
    generalize upd H4 d2 (.tup [.int r3, .int (1 + r4)]) = G4 at e2 fB hP4 hl3 ⊢
    have s3 := same_new (o := .lst [.ref d, .ref d, .ref d2]) hl3
    have kpA : Kp G G4 := (kp_fr hP fA).trans (kp_fr hP2 fB)
    have dG4 := fB d _ (fun z => by obtain ⟨ys, hy⟩ := hP2.at; rw [z, hy] at hdd; cases hdd) hdd
    have elG := s3 _ _ (fB l _ nl (fA l _ nl el))
    refine ⟨l, l3, xs7, _, rfl, rfl, elG, upd_same, (by rw [l7, sizeLine_eq]; show 7 + 3 ≤ 16777216; decide), fun l4 hl4 => ?_⟩
    have s4 := same_new (o := .lst (xs7 ++ [.ref d, .ref d, .ref d2])) hl4
    have hP5 := (hP4.same s3).same s4
    refine ⟨p, l4, _, n + 4, rfl, SqL.of upd_same, (hP4.same s3).neq hl4, by simp, (by rw [List.length_append, l7]; show 7 + 3 < 1000000; decide), hP5, by omega, fun x H' hx hP' f' => ?_⟩
    have kp4 : Kp G4 H' := (Kp.of (s3.trans s4)).trans (kp_fr hP5 f')
    have ep : (10 : Int) ^ (6 : Int).toNat = 1000000 := by decide
    rw [ep] at r11 r21
    have fin : Fine4 K H' x := by
      rcases List.mem_append.mp hx with h | h
      · exact (all7 x h).kp (kpA.trans kp4)
      · simp only [List.mem_cons, List.not_mem_nil, or_false] at h
        rcases h with rfl | rfl | rfl
        · exact Fine4.kp kp4 ⟨(r1, 1 + r2), fr_dp (SqT.of dG4), by unfold NG.FrOk; simp only; omega⟩
        · exact Fine4.kp kp4 ⟨(r1, 1 + r2), fr_dp (SqT.of dG4), by unfold NG.FrOk; simp only; omega⟩
        · exact Fine4.kp kp4 ⟨(r3, 1 + r4), fr_dp (SqT.of e2), by unfold NG.FrOk; simp only; omega⟩
    obtain ⟨t, h1, h2⟩ := fin
    exact k x t H' h1 h2 ((((same_fr sA).trans fA).trans fB).trans ((same_fr (s3.trans s4)).trans f')) hP'
def spPeriod : Sp := fun vs H Q _ => ∃ (p : Addr) (n : Nat), vs = [.ref p] ∧ Pen H p n ∧ n + 10 < 100000 ∧ ∀ (i : Int) (H' : Hp), 1 ≤ i → i ≤ 1000000 → Fr p H H' → Pen H' p (n + 3) → Q (.int i) H'
theorem ok_period (T : Txt K mg) : FnOk P w K mg base CX0 4 T.a_period T.fd_period ["_law_pen_here"] spPeriod := by
  refine T.F_period.ok sc_period (fun vs H Q E h => ?_) (fun cdv A outer s H vs Q E hr h => ?_)
  · obtain ⟨p, n, rfl, _⟩ := h; rfl
  · obtain ⟨p, n, rfl, hP, hn, k⟩ := h
    refine ⟨_, pss_one (ps_ret (pe_call (ok_pick T) (hr.mono (by decide)) rfl T.m_pick T.F_pick.kp (b_pick T) .nil pass0 (pa_cons (pv 0) (pa_cons (pe_lst (pa_cons (pe_op op_add (pe_int) (pe_call (ok_draw T) (hr.mono (by decide)) rfl T.m_draw T.F_draw.kp (b_draw T) .nil pass0 (pa_cons (pv 0) (pa_cons (pe_int) (pa_nil))))) (pa_cons (pe_op op_add (pe_int) (pe_call (ok_draw T) (hr.mono (by decide)) rfl T.m_draw T.F_draw.kp (b_draw T) .nil pass0 (pa_cons (pv 0) (pa_cons (pe_op op_pow (pe_int) (pe_int)) (pa_nil))))) (pa_cons (pe_op op_pow (pe_int) (pe_int)) (pa_cons (pe_int) (pa_cons (pe_int) (pa_nil))))))) (pa_nil))))), ?_⟩
    have pw : CPow 10 6 := ⟨by decide, by decide, by decide⟩
    refine ⟨_, rfl, _, rfl, p, _, n, rfl, by decide, by decide, hP, by omega, fun r1 H1 r10 r11 hP1 f1 => ⟨_, _, rfl, rfl, _, rfl, _, _, rfl, rfl, pw, p, _, n + 1, rfl, by decide, by decide, hP1, by omega, fun r2 H2 r20 r21 hP2 f2 => ⟨_, _, rfl, rfl, _, _, rfl, rfl, pw, (by show 5 ≤ sizeLine; decide), fun l hl => ?_⟩⟩⟩
    have sl := same_new (o := .lst [.int (1 + r1), .int (1 + r2), .int (10 ^ (6 : Int).toNat), .int 1, .int 360]) hl
    refine ⟨p, l, _, n + 2, rfl, SqL.of upd_same, hP2.neq hl, by simp, (by show 5 < 1000000; decide), hP2.same sl, by omega, fun x H' hx hP' f' => ?_⟩
    have fA := ((f1.trans f2).trans (same_fr sl)).trans f'
    have ep : (10 : Int) ^ (6 : Int).toNat = 1000000 := by decide
    rw [ep] at r21
    have hx : x ∈ ([.int (1 + r1), .int (1 + r2), .int (10 ^ (6 : Int).toNat), .int 1, .int 360] : List V) := hx
    rw [ep] at hx
    simp only [List.mem_cons, List.not_mem_nil, or_false] at hx
    rcases hx with rfl | rfl | rfl | rfl | rfl <;> exact k _ H' (by omega) (by omega) fA hP'
/-- gears in order, the j-th one on one of the first j + 1 -/
def spGears (K : PySem.W.Frag) : Sp := fun vs H Q _ => ∃ (p : Addr) (n : Nat) (m : Nat), vs = [.ref p, .int (m : Nat)] ∧ m ≤ 6 ∧ Pen H p n ∧ n + 100 < 100000 ∧
  ∀ (L : Addr) (xs : List V) (gs : List NG.Gr) (n' : Nat) (H' : Hp), H L = Option.none → L ≠ p → H' L = some (.lst xs) → DpAll K H' xs (gs.map grD) → gs.length = m → NG.GsFrom 0 gs → Fr p H H' → Pen H' p n' → n' ≤ n + 60 → Q (.ref L) H'
theorem ok_gears (T : Txt K mg) : FnOk P w K mg base CX0 6 T.a_gears T.fd_gears ["_law_pen_here", "_law_many"] (spGears K) := by
  refine T.F_gears.ok sc_gears (fun vs H Q E h => ?_) (fun cdv A outer s H vs Q E hr h => ?_)
  · obtain ⟨p, n, m, rfl, _⟩ := h; rfl
  · obtain ⟨p, n, m, rfl, hm, hP, hn, k⟩ := h
    refine ⟨_, pss_cons (ps_set (i := 2) sc_gears.nd rfl (Or.inl rfl) (pe_lst (pa_nil)))
      (pss_cons (ps_for PassesOwn.never rfl (pi_range1 (by rfl) T.n_range (pa_cons (pv 1) (pa_nil))) (pg_name (i := 3) sc_gears.nd rfl (Or.inl rfl)) (pss_cons (ps_set (i := 4) sc_gears.nd rfl (Or.inl rfl) (pe_call (ok_pick T) (hr.mono (by decide)) rfl T.m_pick T.F_pick.kp (b_pick T) .nil pass0 (pa_cons (pv 0) (pa_cons (pe_lst (pa_cons (pe_int) (pa_cons (pe_int) (pa_cons (pe_int) (pa_nil))))) (pa_nil)))))
      (pss_one (ps_expr (pe_bm PySem.F.plainAttrs_list PySem.F.slot_list_append PySem.F.type_list_append mt_append (pv 2) (pa_cons (pe_tup (pa_cons (pe_call (ok_draw T) (hr.mono (by decide)) rfl T.m_draw T.F_draw.kp (b_draw T) .nil pass0 (pa_cons (pv 0) (pa_cons (pe_op op_add (pv 3) (pe_int)) (pa_nil)))) (pa_cons (pe_op op_add (pe_int) (pe_call (ok_draw T) (hr.mono (by decide)) rfl T.m_draw T.F_draw.kp (b_draw T) .nil pass0 (pa_cons (pv 0) (pa_cons (pv 4) (pa_nil))))) (pa_cons (pe_op op_add (pe_int) (pe_call (ok_draw T) (hr.mono (by decide)) rfl T.m_draw T.F_draw.kp (b_draw T) .nil pass0 (pa_cons (pv 0) (pa_cons (pv 4) (pa_nil))))) (pa_cons (pe_call (ok_fraction T) (hr.mono (by decide)) rfl T.m_fraction T.F_fraction.kp (b_fraction T) .nil pass0 (pa_cons (pv 0) (pa_nil))) (pa_nil)))))) (pa_nil)))))))
      (pss_one (ps_ret (pv 2)))), ?_⟩
    refine ⟨(by show 0 ≤ sizeLine; decide), fun L hL => ?_⟩
    have sL := same_new (o := .lst []) hL
    have nLp := hP.neq hL
    refine ⟨_, rfl, (m : Int), rfl, by omega, by omega, ?_⟩
    refine for_range (lo := 0) (n := ((m : Nat) : Int).toNat) (fun i σ H' => ∃ (xs : List V) (gs : List NG.Gr) (x3 x4 : Option V), σ = [some (.ref p), some (.int (m : Nat)), some (.ref L), x3, x4] ∧ H' L = some (.lst xs) ∧ DpAll K H' xs (gs.map grD) ∧ gs.length = i ∧ NG.GsFrom 0 gs ∧ Fr p H H' ∧ Pen H' p (n + 9 * i)) ⟨[], [], _, _, rfl, upd_same, .nil, rfl, trivial, same_fr sL, hP.same sL⟩ ?_ ?_
    · rintro i σ H' hi ⟨xs, gs, x3, x4, rfl, hxs, hD, hlen, hG, f, hP'⟩
      rw [Int.toNat_natCast] at hi
      refine ⟨_, rfl, (by show 3 ≤ sizeLine; decide), fun l hl => ⟨p, l, _, n + 9 * i, rfl, SqL.of upd_same, hP'.neq hl, by simp, (by show 3 < 1000000; decide), hP'.same (same_new hl), by omega, fun x H1 hx hP1 f1 => ?_⟩⟩
      have fl := same_fr (p := p) (same_new (o := .lst [.int 6, .int 30, .int 1000]) hl)
      obtain ⟨mo, rfl, mo1, mo2⟩ : ∃ mo : Int, x = .int mo ∧ 1 ≤ mo ∧ mo ≤ 1000 := by
        simp only [List.mem_cons, List.not_mem_nil, or_false] at hx
        rcases hx with rfl | rfl | rfl <;> exact ⟨_, rfl, by decide, by decide⟩
      have e1 := f1 L _ nLp (fl L _ nLp hxs)
      refine ⟨_, rfl, .inl ⟨rfl, _, SqL.of e1⟩, _, rfl, _, rfl, _, _, rfl, rfl, p, _, _, rfl, by omega, by omega, hP1, by omega, fun r1 H2 r10 r11 hP2 f2 => ?_⟩
      refine ⟨_, rfl, _, rfl, p, mo, _, rfl, by omega, by omega, hP2, by omega, fun r2 H3 r20 r21 hP3 f3 => ⟨_, _, rfl, rfl, ?_⟩⟩
      refine ⟨_, rfl, _, rfl, p, mo, _, rfl, by omega, by omega, hP3, by omega, fun r3 H4 r30 r31 hP4 f4 => ⟨_, _, rfl, rfl, ?_⟩⟩
      refine ⟨_, rfl, p, _, rfl, hP4, by omega, fun v t H5 hv ht f5 hP5 => ⟨(by show 4 ≤ sizeLine; decide), fun gq hgq => ?_⟩⟩
      have sq := same_new (o := .tup [.int r1, .int (1 + r2), .int (1 + r3), v]) hgq
      have eq : upd H5 gq (.tup [.int r1, .int (1 + r2), .int (1 + r3), v]) gq = some (.tup [.int r1, .int (1 + r2), .int (1 + r3), v]) := upd_same
      have fAll := (((fl.trans f1).trans f2).trans (f3.trans f4)).trans (f5.trans (same_fr sq))
      have kp := kp_fr hP' fAll
      have hP6 := hP5.same sq
      have hv6 := dp_same sq _ _ hv
      generalize upd H5 gq (.tup [.int r1, .int (1 + r2), .int (1 + r3), v]) = G at eq fAll kp hP6 hv6 ⊢
      have eL := fAll L _ nLp hxs
      refine ⟨L, xs, _, rfl, rfl, eL, (by rw [dpAll_len hD, List.length_map, hlen, sizeLine_eq]; omega), ?_⟩
      have kp2 := kp_upd (o := .lst (xs ++ [.ref gq])) eL
      refine ⟨_, gs ++ [⟨r1, 1 + r2, 1 + r3, t⟩], _, _, rfl, upd_same, ?_, by rw [List.length_append, hlen]; rfl, NG.GsFrom.snoc hG ?_, fr_updL nLp hL (f.trans fAll), (pen_updL hP hL (f.trans fAll) hP6).mono (by omega)⟩
      · rw [List.map_append]
        exact dpAll_app (dp_kpAll (kp.trans kp2) _ _ (nl_all nl_gr _) hD) (.cons (dp_kp kp2 _ _ (nl_gr _) (gr_dp (g := ⟨r1, 1 + r2, 1 + r3, t⟩) (SqT.of eq) hv6)) .nil)
      · rw [hlen, Nat.zero_add]
        exact ⟨r10, by simp only; omega, by simp only; omega, by simp only; omega, by simp only; omega, by simp only; omega, ht⟩
    · rintro σ H' ⟨xs, gs, x3, x4, rfl, hxs, hD, hlen, hG, f, hP'⟩
      rw [Int.toNat_natCast] at hlen hP'
      exact ⟨_, rfl, k L xs gs _ H' hL nLp hxs hD hlen hG f hP' (by omega)⟩

/-! ### the law's text -/
theorem wds_snoc (p : Int) (t : NG.Fr) (gs : List NG.Gr) (g : NG.Gr) : NG.wdsT p t (gs ++ [g]) = NG.wdsT p t gs ++ ((";" : Str) :: NG.wdsG g) := by
  unfold NG.wdsT
  rw [List.flatMap_append, List.append_assoc]
  simp
theorem sum_words : ∀ (ws : List Str), (∀ z ∈ ws, z.length ≤ 13) → (ws.map (fun z => z.length)).sum ≤ 13 * ws.length
  | [], _ => by simp
  | z :: ws, h => by
    have ih := sum_words ws fun y hy => h y (List.mem_cons_of_mem _ hy)
    have h1 := h z List.mem_cons_self
    rw [List.map_cons, List.sum_cons, List.length_cons]
    omega
theorem wds_short {p : Int} {t : NG.Fr} {gs : List NG.Gr} (h : NG.TrOk p t gs) : ∀ z ∈ NG.wdsT p t gs, z.length ≤ 13 := by
  have flat : ∀ (gs : List NG.Gr) (i : Nat), i + gs.length ≤ 7 → NG.GsFrom i gs → ∀ z ∈ gs.flatMap (fun g => (";" : Str) :: NG.wdsG g), z.length ≤ 13 := by
    intro gs
    induction gs with
    | nil => intro i _ _ z hz; cases hz
    | cons g gs ih =>
      intro i hl hg z hz
      rw [List.length_cons] at hl
      rw [List.flatMap_cons] at hz
      rcases List.mem_append.mp hz with q | q
      · obtain ⟨h1, h2, h3, h4, h5, h6, h7, h8, h9, h10⟩ := hg.1
        simp only [NG.wdsG, List.mem_cons, List.not_mem_nil, or_false] at q
        rcases q with rfl | rfl | rfl | rfl | rfl | rfl
        · decide
        · exact NX.len_num h1 (by omega)
        · exact NX.len_num (by omega) (by omega)
        · exact NX.len_num (by omega) (by omega)
        · exact NX.len_num h7 (by omega)
        · exact NX.len_num (by omega) (by omega)
      · exact ih (i + 1) (by omega) hg.2 z q
  intro z hz
  unfold NG.wdsT at hz
  rcases List.mem_append.mp hz with q | q
  · have hp := h.p
    obtain ⟨f1, f2, f3, f4⟩ := h.s
    simp only [List.mem_cons, List.not_mem_nil, or_false] at q
    rcases q with rfl | rfl | rfl | rfl
    · decide
    · exact NX.len_num (by omega) (by omega)
    · exact NX.len_num f1 (by omega)
    · exact NX.len_num (by omega) (by omega)
  · exact flat gs 0 (by have := h.l; omega) h.g z q
def spText (K : PySem.W.Frag) : Sp := fun vs H Q _ => ∃ (p : Int) (sv : V) (t : NG.Fr) (a : Addr) (xs : List V) (gs : List NG.Gr), vs = [.int p, sv, .ref a] ∧ Dp K H sv (frD t) ∧ H a = some (.lst xs) ∧ DpAll K H xs (gs.map grD) ∧ NG.TrOk p t gs ∧
  ∀ H', Same H H' → Q (.str (NG.txtT p (NG.lowF t) (gs.map NG.Gr.nrm))) H'
theorem ok_text (T : Txt K mg) : FnOk P w K mg base CX0 3 T.a_text T.fd_text ["_law_period_here", "_law_slip", "_law_gears_here"] (spText K) := by
  refine T.F_text.ok sc_text (fun vs H Q E h => ?_) (fun cdv A outer s H vs Q E hr h => ?_)
  · obtain ⟨p, sv, t, a, xs, gs, rfl, _⟩ := h; rfl
  · obtain ⟨p, sv, t, a, xs, gs, rfl, hsv, hS, hA, hok, k⟩ := h
    have lx : xs.length = gs.length := by rw [dpAll_len hA, List.length_map]
    have hl6 := hok.l
    obtain ⟨sa, rfl, hSl⟩ := dp_fr hsv
    obtain ⟨f1, f2, f3, f4⟩ := hok.s
    obtain ⟨pa1, pa2⟩ := num_fmt p (by have := hok.p; omega) hok.p.2
    refine ⟨_, pss_cons (ps_set (i := 3) sc_text.nd rfl (Or.inl rfl) (pe_op op_cat (pe_lst (pa_cons (pe_str) (pa_cons (pe_callTy call_str_int (by rfl) T.n_str (by decide +kernel) (pa_cons (pv 0) (pa_nil))) (pa_nil)))) (pe_lc (own := [("_law_part", 4)]) (g := gName 4) (tt := tYes) rfl sc_text.nd (pi_tup (pe_call (ok_lowest T) (hr.mono (by decide)) rfl T.m_lowest T.F_lowest.kp (b_lowest T) .nil pass0 (pa_cons (pe_ix ix_tup (pv 1) (pe_int) (fun _ _ => rfl)) (pa_cons (pe_ix ix_tup (pv 1) (pe_int) (fun _ _ => rfl)) (pa_nil))))) (blkOk_by (own := [("_law_part", 4)]) (N := ["_law_period_here", "_law_slip", "_law_gears_here", "_law_words", "_law_part", "_law_on", "_law_driving", "_law_driven", "_law_own"]) (sc := defScope s_text) (by decide +kernel)) (fun _ _ _ _ _ => pg_name (i := 4) sc_text.nd rfl (Or.inl rfl)) (fun _ _ _ _ _ => pts_nil) (fun _ _ _ _ _ => pe_callTy call_str_int (by rfl) T.n_str (by decide +kernel) (pa_cons (pv 4) (pa_nil))))))
      (pss_cons (ps_for PassesOwn.never rfl (pi_list (pv 2)) (pg_tup rfl (pgs_cons (pg_name (i := 5) sc_text.nd rfl (Or.inl rfl)) (pgs_cons (pg_name (i := 6) sc_text.nd rfl (Or.inl rfl)) (pgs_cons (pg_name (i := 7) sc_text.nd rfl (Or.inl rfl)) (pgs_cons (pg_name (i := 8) sc_text.nd rfl (Or.inl rfl)) (pgs_nil)))))) (pss_cons (ps_set (i := 3) sc_text.nd rfl (Or.inl rfl) (pe_op op_cat (pv 3) (pe_lst (pa_cons (pe_str) (pa_cons (pe_callTy call_str_int (by rfl) T.n_str (by decide +kernel) (pa_cons (pv 5) (pa_nil))) (pa_cons (pe_callTy call_str_int (by rfl) T.n_str (by decide +kernel) (pa_cons (pv 6) (pa_nil))) (pa_cons (pe_callTy call_str_int (by rfl) T.n_str (by decide +kernel) (pa_cons (pv 7) (pa_nil))) (pa_nil))))))))
      (pss_one (ps_set (i := 3) sc_text.nd rfl (Or.inl rfl) (pe_op op_cat (pv 3) (pe_lc (own := [("_law_part", 4)]) (g := gName 4) (tt := tYes) rfl sc_text.nd (pi_tup (pe_call (ok_lowest T) (hr.mono (by decide)) rfl T.m_lowest T.F_lowest.kp (b_lowest T) .nil pass0 (pa_cons (pe_ix ix_tup (pv 8) (pe_int) (fun _ _ => rfl)) (pa_cons (pe_ix ix_tup (pv 8) (pe_int) (fun _ _ => rfl)) (pa_nil))))) (blkOk_by (own := [("_law_part", 4)]) (N := ["_law_period_here", "_law_slip", "_law_gears_here", "_law_words", "_law_part", "_law_on", "_law_driving", "_law_driven", "_law_own"]) (sc := defScope s_text) (by decide +kernel)) (fun _ _ _ _ _ => pg_name (i := 4) sc_text.nd rfl (Or.inl rfl)) (fun _ _ _ _ _ => pts_nil) (fun _ _ _ _ _ => pe_callTy call_str_int (by rfl) T.n_str (by decide +kernel) (pa_cons (pv 4) (pa_nil)))))))))
      (pss_one (ps_ret (pe_join (pe_str) (pv 3))))), ?_⟩
    refine ⟨_, rfl, p, rfl, pa1, tNil_to ⟨(by show 2 ≤ sizeLine; decide), fun w0 hw0 => ?_⟩⟩
    have s0 := same_new (o := .lst [.str "train", .str (NX.num p)]) hw0
    have e0 : upd H w0 (.lst [.str "train", .str (NX.num p)]) w0 = some (.lst [.str "train", .str (NX.num p)]) := upd_same
    refine ⟨_, rfl, sa, _, 0, .int t.1, rfl, rfl, SqT.same s0 hSl, rfl, _, rfl, sa, _, 1, .int t.2, rfl, rfl, SqT.same s0 hSl, rfl, t.1, t.2, rfl, f1, by omega, by omega, fun q H1 hq s1 h1 => ?_⟩
    have lw := hok.s.low
    refine ⟨q, rfl, ⟨_, SqT.of h1⟩, fun D hD => lc_dpT (ts := [(NG.lowF t).1, (NG.lowF t).2]) (f := PyData.int) (r := fun i => .str (NX.num i)) hD (by show 2 ≤ 1000; decide) (SqT.of h1) (.cons (.int _) (.cons (.int _) .nil)) (fun _ => rfl) ?_ ?_⟩
    · rintro i z y G Qy Qn sG hz hy hzd kk
      cases dp_int hzd
      have hm := List.mem_of_getElem? hz
      have hb : 0 ≤ z ∧ z ≤ 1000000 := by
        simp only [List.mem_cons, List.not_mem_nil, or_false] at hm
        obtain ⟨l1, l2, l3, l4⟩ := lw
        rcases hm with rfl | rfl <;> omega
      exact ⟨rfl, _, rfl, z, rfl, (num_fmt z hb.1 hb.2).1, kk _ _ (fun _ _ e => e) (.str _)⟩
    · rintro G ys sG hys hD2
      have ey := dp_strsEq (f := NX.num) (ts := [(NG.lowF t).1, (NG.lowF t).2]) hD2
      subst ey
      have sAll := (s0.trans s1).trans sG
      refine ⟨w0, D, _, _, rfl, rfl, sG _ _ (s1 _ _ e0), hys, (by show 2 + 2 ≤ sizeLine; decide), fun W hW => ?_⟩
      have sW := same_new (o := .lst ([.str "train", .str (NX.num p)] ++ ([(NG.lowF t).1, (NG.lowF t).2].map NX.num).map V.str)) hW
      have sH := sAll.trans sW
      refine ⟨_, rfl, a, rfl, ⟨_, SqL.of (sH _ _ hS)⟩, for_list (K := K) (a := a) (xs := xs) (fun i σ H' => Same H H' ∧ ∃ (W : Addr) (x4 x5 x6 x7 x8 : Option V), σ = [some (.int p), some (.ref sa), some (.ref a), some (.ref W), x4, x5, x6, x7, x8] ∧ H' W = some (.lst ((NG.wdsT p (NG.lowF t) ((gs.take i).map NG.Gr.nrm)).map V.str))) ⟨sH, W, _, _, _, _, _, rfl, upd_same⟩ (fun i σ H' _ z => SqL.of (z.1 _ _ hS)) ?_ ?_⟩
      · rintro i v σ H' hv ⟨s2, W, x4, x5, x6, x7, x8, rfl, hW⟩
        obtain ⟨g, hg, hgd⟩ := dpAll_at' hA hv
        obtain ⟨ga, u, rfl, hG, hu⟩ := dp_gr (dp_same s2 _ _ hgd)
        obtain ⟨ua, rfl, hU⟩ := dp_fr hu
        have hgk := hok.g.at hg
        rw [Nat.zero_add] at hgk
        have hi : i < gs.length := (List.getElem?_eq_some_iff.mp hg).1
        obtain ⟨g1, g2, g3, g4, g5, g6, hfr⟩ := hgk
        have lw := hfr.low
        obtain ⟨q1, q2, q3, q4⟩ := hfr
        obtain ⟨a1, _⟩ := num_fmt g.on g1 (by omega)
        obtain ⟨b1, _⟩ := num_fmt g.dg (by omega) (by omega)
        obtain ⟨c1, _⟩ := num_fmt g.dn (by omega) (by omega)
        refine ⟨ga, _, rfl, hG, rfl, _, _, rfl, _, _, rfl, _, _, rfl, _, _, rfl, rfl, ?_⟩
        refine ⟨_, rfl, _, rfl, g.on, rfl, a1, _, rfl, g.dg, rfl, b1, _, rfl, g.dn, rfl, c1, tNil_to ⟨(by show 4 ≤ sizeLine; decide), fun l4 hl4 => ?_⟩⟩
        have s4 := same_new (o := .lst [.str ";", .str (NX.num g.on), .str (NX.num g.dg), .str (NX.num g.dn)]) hl4
        have lW : ((NG.wdsT p (NG.lowF t) ((gs.take i).map NG.Gr.nrm)).map V.str).length ≤ 40 := by
          rw [List.length_map, NG.wdsT_len, List.length_map, List.length_take]
          omega
        have lz : sizeLine = 16777216 := sizeLine_eq
        refine ⟨W, l4, _, _, rfl, rfl, s4 _ _ hW, upd_same, (by show _ + 4 ≤ _; omega), fun W2 hW2 => ?_⟩
        have s5 := s4.trans (same_new (o := .lst ((NG.wdsT p (NG.lowF t) ((gs.take i).map NG.Gr.nrm)).map V.str ++ [.str ";", .str (NX.num g.on), .str (NX.num g.dg), .str (NX.num g.dn)])) hW2)
        refine ⟨_, rfl, _, rfl, ua, _, 0, .int g.s.1, rfl, rfl, SqT.same s5 hU, rfl, _, rfl, ua, _, 1, .int g.s.2, rfl, rfl, SqT.same s5 hU, rfl, g.s.1, g.s.2, rfl, q1, by omega, by omega, fun q H5 hq s6 h5 => ?_⟩
        refine ⟨q, rfl, ⟨_, SqT.of h5⟩, fun D hD => lc_dpT (ts := [(NG.lowF g.s).1, (NG.lowF g.s).2]) (f := PyData.int) (r := fun i => .str (NX.num i)) hD (by show 2 ≤ 1000; decide) (SqT.of h5) (.cons (.int _) (.cons (.int _) .nil)) (fun _ => rfl) ?_ ?_⟩
        · rintro j z y G Qy Qn sG hz hy hzd kk
          cases dp_int hzd
          have hm := List.mem_of_getElem? hz
          have hb : 0 ≤ z ∧ z ≤ 1000000 := by
            simp only [List.mem_cons, List.not_mem_nil, or_false] at hm
            obtain ⟨l1, l2, l3, l4⟩ := lw
            rcases hm with rfl | rfl <;> omega
          exact ⟨rfl, _, rfl, z, rfl, (num_fmt z hb.1 hb.2).1, kk _ _ (fun _ _ e => e) (.str _)⟩
        · rintro G ys sG hys hD2
          have ey := dp_strsEq (f := NX.num) (ts := [(NG.lowF g.s).1, (NG.lowF g.s).2]) hD2
          subst ey
          refine ⟨W2, D, _, _, rfl, rfl, sG _ _ (s6 _ _ upd_same), hys, (by rw [List.length_append]; show _ + 4 + 2 ≤ _; omega), fun W3 hW3 => ?_⟩
          have s7 := ((s5.trans s6).trans sG).trans (same_new (o := .lst (((NG.wdsT p (NG.lowF t) ((gs.take i).map NG.Gr.nrm)).map V.str ++ [.str ";", .str (NX.num g.on), .str (NX.num g.dg), .str (NX.num g.dn)]) ++ ([(NG.lowF g.s).1, (NG.lowF g.s).2].map NX.num).map V.str)) hW3)
          refine ⟨s2.trans s7, W3, _, _, _, _, _, rfl, ?_⟩
          rw [NM.take_snoc hg, List.map_append, show [g].map NG.Gr.nrm = [g.nrm] from rfl, wds_snoc, List.map_append, upd_same, List.append_assoc]
          rfl
      · rintro σ H' ⟨s2, W, x4, x5, x6, x7, x8, rfl, hW⟩
        rw [lx, List.take_length] at hW
        have lW : (NG.wdsT p (NG.lowF t) (gs.map NG.Gr.nrm)).length ≤ 40 := by
          rw [NG.wdsT_len, List.length_map]
          omega
        refine ⟨⟨_, rfl⟩, _, rfl, " ", W, NG.wdsT p (NG.lowF t) (gs.map NG.Gr.nrm), rfl, rfl, .inl (SqL.of hW), ?_, k _ s2⟩
        have hs := sum_words (NG.wdsT p (NG.lowF t) (gs.map NG.Gr.nrm)) (wds_short hok.nrm)
        have z2 : (" " : Str).length = 1 := by decide
        rw [z2]
        omega

/-! ### max of a tuple of two integers -/
def rMaxT2 (K : PySem.W.Frag) : List V → Hp → VK → Prop := fun vs H Q => ∃ (a : Addr) (i j : Int), vs = [V.ref a] ∧ SqT K H a [.int i, .int j] ∧ Q (.int (max i j)) H
theorem cr_maxT2 {X : Cx} (hc : X.calm = true) (hu : X.A.units + 64 < cLine) : CallR X (.builtin "max") (rMaxT2 X.K) := by
  intro pins s σ H vs us Q I r h
  obtain ⟨l, i, j, rfl, hS, q⟩ := h
  rw [Vals.ref1 r]
  obtain ⟨its, rv, pl, hz⟩ := I.tuple hS
  obtain ⟨as, R⟩ := Dp.reads I _ _ _ (Dp.tup hS (.cons (.int i) (.cons (.int j) .nil))) (show RelV (V.ref l) (Value.ref l) from rfl)
  obtain ⟨ol, ol1, oc, nl, ol2⟩ := id pl
  cases R with
  | tuple e1 e2 e3 e4 =>
    rw [ol1] at e1
    cases e1
    rw [ol2] at e3
    cases e3
    refine PySem.W.max_tuple_data (x := .int i) (xs := [.int j]) (I.ok.hd hc) pl (show ReadsAll s.heap its.toArray.toList [.int i, .int j] _ from e4) ⟨fun x hx y hy => ?_, fun x hx => ?_⟩ (by show X.A.units + 1 + 0 < cLine; omega) fun k v h' tk bs hv hR hk => ?_
    · simp only [List.mem_cons, List.not_mem_nil, or_false] at hx hy
      rcases hx with rfl | rfl <;> rcases hy with rfl | rfl <;> rfl
    · simp only [List.mem_cons, List.not_mem_nil, or_false] at hx
      rcases hx with rfl | rfl <;> exact fun z => by cases z
    · have e := PySem.W.maxD_ints i [j]
      have hR : Reads h' v (.int (max i j)) bs := by
        have e2 : PySem.W.maxD (.int i) [.int j] = .int (max i j) := e
        rw [e2] at hR
        exact hR
      cases hR
      exact ⟨.int _, H, I.kept (t' := tk) hk, ⟨_, rfl⟩, q⟩

/-! ### a train told alike -/
def gkB (α : Type) : List α → List α → List α
  | [], [a] => [a]
  | _, _ => []
theorem kb_B {fd : FuncData} {p1 k1 : Str} (h : ∀ (a : Value) (s : Shared), BindsTo s fd ⟨[], [(k1, a)]⟩ [(p1, a)]) : KBinds K fd [p1] [k1] (gkB Value) (gkB V) := by
  refine ⟨fun s us ws _ hl => ?_, fun {vs us zs ws} r rz => ?_⟩
  · match us, ws, hl with
    | [], [a], _ => exact h a s
    | [], [], h => simp [gkB] at h
    | [], _ :: _ :: _, h => simp [gkB] at h
    | _ :: _, _, h => simp [gkB] at h
  · match vs, us, zs, ws, r, rz with
    | _, _, _, _, .nil, .nil => exact .nil
    | _, _, _, _, .nil, .cons r1 .nil => exact .cons r1 .nil
    | _, _, _, _, .nil, .cons _ (.cons _ _) => exact .nil
    | _, _, _, _, .cons _ _, _ => exact .nil
theorem kb_read (T : Txt K mg) : KBinds K T.fd_Train_read ["text"] ["text"] (gkB Value) (gkB V) := by
  obtain ⟨oc, od, kV, doc, pm, an, cdv, ct, osl, e, lk, hcd⟩ := T.F_Train_read.ex
  refine kb_B fun a s => ?_
  rw [e]; exact .of_eq rfl
theorem joinL_len : ∀ ls : List (List Nat), (TL.joinL [32] ls).length ≤ (ls.map List.length).sum + ls.length
  | [] => by simp [TL.joinL]
  | [a] => by simp [TL.joinL]
  | a :: b :: r => by
    have ih := joinL_len (b :: r)
    show (a ++ ([32] ++ TL.joinL [32] (b :: r))).length ≤ _
    rw [List.length_append, List.length_append]
    simp only [List.map_cons, List.sum_cons, List.length_cons, List.length_nil] at ih ⊢
    omega
theorem txt_len {p : Int} {t : NG.Fr} {gs : List NG.Gr} (h : NG.TrOk p t gs) : (NG.txtT p t gs).length + 2 ≤ sizeLine := by
  unfold NG.txtT
  rw [TL.len_tl, TL.join_eq, TL.tl_join, show TL.tl (" " : Str) = [32] by decide]
  have h1 := joinL_len ((NG.wdsT p t gs).map TL.tl)
  have h2 := sum_words _ (wds_short h)
  have e : ((NG.wdsT p t gs).map TL.tl).map List.length = (NG.wdsT p t gs).map (fun z => z.length) := by
    rw [List.map_map]
    exact List.map_congr_left fun z _ => (TL.len_tl z).symm
  rw [e, List.length_map, NG.wdsT_len] at h1
  rw [NG.wdsT_len] at h2
  have := h.l
  rw [sizeLine_eq]
  omega
def spTold (T : Txt K mg) : Sp := fun vs H Q _ => ∃ (p x q Lg : Addr) (n : Nat) (pi : Int) (sv : V) (t : NG.Fr) (gs : List NG.Gr) (xs : List V), vs = [.ref p, .ref x, .ref q] ∧ Pen H p n ∧ n + 200 < 100000 ∧ TrAt T H x pi (NG.lowF t) (gs.map NG.Gr.nrm) ∧ SqT K H q [.int pi, sv, .ref Lg] ∧
  Dp K H sv (frD t) ∧ H Lg = some (.lst xs) ∧ Lg ≠ p ∧ DpAll K H xs (gs.map grD) ∧ NG.TrOk pi t gs ∧ ∀ (H' : Hp) (n' : Nat), Pen H' p n' → n' ≤ n + 20 → Q (.bl true) H'
theorem TrAt.ins {T : Txt K mg} {H : Hp} {x : Addr} {p : Int} {t : NG.Fr} {gs : List NG.Gr} (h : TrAt T H x p t gs) : ∃ dx fs, H x = some (.ins T.a_Train dx fs) := by
  obtain ⟨dx, ag, ap, as, h1, _⟩ := h
  exact ⟨dx, _, h1⟩
theorem lay_grs : ∀ xs : List NG.Gr, PyData.canLayAll0 (xs.map grD) = true
  | [] => rfl
  | a :: xs => by
    rw [List.map_cons, PyData.canLayAll0, lay_grs xs]
    rfl
theorem dep_grs : ∀ xs : List NG.Gr, PyData.depthAll (xs.map grD) ≤ 2
  | [] => by simp [PyData.depthAll]
  | a :: xs => by
    have := dep_grs xs
    have e : (grD a).depth = 2 := by simp [grD, frD, PyData.depth, PyData.depthAll]
    rw [List.map_cons, PyData.depthAll, e]
    omega
theorem sh_grs (xs : List NG.Gr) : SeqAt.shaped (.list (xs.map grD)) = true := by
  have := dep_grs xs
  unfold SeqAt.shaped
  rw [PyData.canLay0, lay_grs, PyData.depth, decide_eq_true (by omega)]
  rfl
theorem eqv_nil (gs : List NG.Gr) : PyData.eqv (.list (gs.map grD)) (.list []) = gs.isEmpty := by
  rw [PyData.eqv]
  cases gs <;> simp [PyData.eqvAll]
theorem dpAll_snoc {H : Hp} : ∀ {ds : List PyData} {d : PyData} {xs : List V}, DpAll K H xs (ds ++ [d]) → ∃ xi v, xs = xi ++ [v] ∧ DpAll K H xi ds ∧ Dp K H v d
  | [], _, _, h => by
    cases h with
    | cons h1 h2 =>
      cases h2
      exact ⟨[], _, rfl, .nil, h1⟩
  | _ :: ds, _, _, h => by
    cases h with
    | cons h1 h2 =>
      obtain ⟨xi, v, e, a, b⟩ := dpAll_snoc (ds := ds) h2
      exact ⟨_ :: xi, v, by rw [e]; rfl, .cons h1 a, b⟩
theorem at_last {α : Type} (xs : List α) (x : α) : atI (xs ++ [x]) (-1) = some x := by
  unfold atI ixN
  rw [if_neg (by decide), List.length_append, List.length_singleton, if_pos (by omega)]
  show (xs ++ [x])[((-1 : Int) + ((xs.length + 1 : Nat) : Int)).toNat]? = some x
  rw [show ((-1 : Int) + ((xs.length + 1 : Nat) : Int)).toNat = xs.length by omega]
  simp
theorem six_last (xs : List V) (x : V) : HT.sIx (xs ++ [x]).length (xs ++ [x]).length (some (-1)) = xs.length := by
  show (if (-1 : Int) < 0 then ((-1 : Int) + ((xs ++ [x]).length : Int)).toNat else min (-1 : Int).toNat (xs ++ [x]).length) = _
  rw [if_pos (by decide), List.length_append, List.length_singleton]
  omega
theorem cut_last (xs : List V) (x : V) : cutV (xs ++ [x]) Option.none (some (-1)) = xs := by
  unfold cutV
  rw [six_last]
  show ((xs ++ [x]).drop 0).take (xs.length - 0) = xs
  simp
theorem atI_last {xi : List V} {v : V} : atI (xi ++ [v]) (-1) = some v := at_last xi v
/-- a gear in its place -/
def GrV (K : PySem.W.Frag) (i : Nat) (H : Hp) (v : V) : Prop := ∃ g, Dp K H v (grD g) ∧ NG.GrOk i g
theorem GrV.kp {i : Nat} {H H' : Hp} {v : V} (s : Kp H H') (h : GrV K i H v) : GrV K i H' v := by
  obtain ⟨g, h1, h2⟩ := h
  exact ⟨g, dp_kp s _ _ (nl_gr g) h1, h2⟩
theorem alike_iff (pi : Int) (t : NG.Fr) (gi : List NG.Gr) (gl og : NG.Gr) : (NG.pers pi ((gi ++ [gl]).map NG.Gr.nrm) = NG.pers pi ((gi ++ [og]).map NG.Gr.nrm) ∧ NG.slps t ((gi ++ [gl]).map NG.Gr.nrm) = NG.slps t ((gi ++ [og]).map NG.Gr.nrm)) ↔
    (NG.nxt (NG.pers pi gi) og = NG.nxt (NG.pers pi gi) gl ∧ NG.lowF og.s = NG.lowF gl.s) := by
  rw [NG.pers_nrm, NG.pers_nrm, NG.pers_snoc, NG.pers_snoc]
  unfold NG.slps
  simp only [List.map_append, List.map_cons, List.map_nil, List.cons.injEq, true_and, List.append_cancel_left_eq, and_true]
  exact ⟨fun ⟨a, b⟩ => ⟨a.symm, b.symm⟩, fun ⟨a, b⟩ => ⟨a.symm, b.symm⟩⟩
theorem sh_fr (t : NG.Fr) : SeqAt.shaped (frD t) = true := rfl
theorem spTI_mk {T : Txt K mg} {H G : Hp} {y dy : Addr} {p : Int} {t : NG.Fr} {gs : List NG.Gr} {sl : V} {rest : List V} {R : Hp → Prop} (s : Same H G) (hy : G y = Option.none) (hdy : G dy = Option.none) (hsl : Dp K H sl (frD t)) (hr : DpAll K H rest (gs.map grD)) (hok : NG.TrOk p t gs)
    (k : ∀ H', Same H H' → TrAt T H' y p (NG.lowF t) (gs.map NG.Gr.nrm) → R H') : spTI T (.ref y) (.int p) sl rest (upd (upd G dy (.own y)) y (.ins T.a_Train dy [])) (fun v H3 => v = .non ∧ R H3) := by
  have sy : Same G (upd (upd G dy (.own y)) y (.ins T.a_Train dy [])) := fun b o e => by
    rw [upd_ne (ne_of_none e hy), upd_ne (ne_of_none e hdy)]
    exact e
  exact ⟨y, dy, p, t, gs, rfl, rfl, upd_same, dp_same (s.trans sy) _ _ hsl, dp_sameAll (s.trans sy) _ _ hr, hok, fun H' b tr => ⟨rfl, k H' (fun c o e => b c o (ne_of_none (s _ _ e) hy) (sy _ _ (s _ _ e))) tr⟩⟩
/-- the same text behind two branches, told once -/
theorem dup {H : Hp} {P : Hp → Prop} {R : Prop} (c : ∀ G, Same H G → P G) (u : (∀ G, Same H G → P G) → R) : R := u c
theorem ok_told_alike (T : Txt K mg) : FnG P w K mg base CX0 20 T.a_told_alike (spTold T) := by
  refine FnG.mk0 T.F_told_alike sc_told_alike (b_told_alike T) (fun vs H Q E h => ?_) (fun cdv A outer s H vs Q E gu hr h => ?_)
  · obtain ⟨p, x, q, Lg, n, pi, sv, t, gs, xs, rfl, _⟩ := h; rfl
  · obtain ⟨p, x, q, Lg, n, pi, sv, t, gs, xs, rfl, hP, hn, tr, hq, hsv, hLg, nLp, hA, hok, k⟩ := h
    have hokN := hok.nrm
    have hlow := NG.lowF_low hok.s
    have hnn := hok.g.nn
    have htl := txt_len hokN
    refine ⟨_, pss_cons (ps_asg (pv 2) (pg_tup rfl (pgs_cons (pg_name (i := 3) sc_told_alike.nd rfl (Or.inl rfl)) (pgs_cons (pg_name (i := 4) sc_told_alike.nd rfl (Or.inl rfl)) (pgs_cons (pg_name (i := 5) sc_told_alike.nd rfl (Or.inl rfl)) (pgs_nil))))))
      (pss_cons (ps_set (i := 6) sc_told_alike.nd rfl (Or.inl rfl) (pe_call (ok_text T) (hr.mono (by decide)) rfl T.m_text T.F_text.kp (b_text T) .nil pass0 (pa_cons (pv 3) (pa_cons (pv 4) (pa_cons (pv 5) (pa_nil))))))
      (pss_cons (ps_if (PW.pt (pw_or (pt_cmpR op_ne (pe_callTy (call_strO (ok_Train_str T) (hr.mono (by decide)) (b_Train_str T) pass0 T.fi_str T.fn_str) (by rfl) T.n_str (by decide +kernel) (pa_cons (pv 1) (pa_nil))) (pv 6) (nomark _)) (pw_or (pt_cmpR ((op_neW K (by rfl) (ok_Train_eq T) (hr.mono (by decide)) (b_Train_eq T) pass0 T.fn_eq)) (pe_stat (pe_glob (v := .ref T.a_Train) rfl T.m_Train rfl) T.rdT T.st_read ((ok_Train_read T).raw (b_Train_read T) .nil) (hr.mono (by decide)) pass0 (pa_cons (pv 6) (pa_nil))) (pv 1) (nomark _)) (pw_or (pt_cmpR op_ne (pe_callTy (call_strO (ok_Train_str T) (hr.mono (by decide)) (b_Train_str T) pass0 T.fi_str T.fn_str) (by rfl) T.n_str (by decide +kernel) (pa_cons (pe_statK (pe_glob (v := .ref T.a_Train) rfl T.m_Train rfl) T.rdT T.st_read (ok_Train_read T) (hr.mono (by decide)) (kb_read T) pass0 (pk_cons (pv 6) (pk_nil))) (pa_nil))) (pv 6) (nomark _)) (pw_or1 (pt_cmpR (op_eqW K (by rfl) (ok_Train_eq T) (hr.mono (by decide)) (b_Train_eq T) pass0 T.fn_eq) (pv 1) (pv 6) (nomark _))))))) (pss_one (ps_ret (pe_bl))) (pss_nil))
      (C8.pss_cut (ps_if (PW.pt (pw_and (pt_cmpR op_eq (pe_callB call_len_seq (by rfl) T.n_len (by decide +kernel) (pa_cons (pv 5) (pa_nil))) (pe_int) (nomark _)) (pw_and1 (pt_cmpR ((op_neW K (by rfl) (ok_Train_eq T) (hr.mono (by decide)) (b_Train_eq T) pass0 T.fn_eq)) (pe_mkK T.tmk (ok_Train_initK T) (hr.mono (by decide)) rfl T.m_Train pass0 (pa_cons (pv 3) (pa_cons (pe_ix ix_list (pv 5) (pe_int) (fun _ _ => rfl)) (pa_cons (pe_ix ix_list (pv 5) (pe_int) (fun _ _ => rfl)) (pa_nil)))) (pk_cons (pv 4) (pk_nil))) (pv 1) (nomark _))))) (pss_one (ps_ret (pe_bl))) (pss_nil))
      (pss_cons (ps_if (PW.pt (pw_or (PW.pt (pw_and (pt_cmpR op_eq (pe_callB call_len_seq (by rfl) T.n_len (by decide +kernel) (pa_cons (pv 5) (pa_nil))) (pe_int) (nomark _)) (pw_and1 (pt_cmpR op_ne (pe_callTy (call_strO (ok_Train_str T) (hr.mono (by decide)) (b_Train_str T) pass0 T.fi_str T.fn_str) (by rfl) T.n_str (by decide +kernel) (pa_cons (pe_mkK T.tmk (ok_Train_initK T) (hr.mono (by decide)) rfl T.m_Train pass0 (pa_cons (pv 3) (pa_cons (pe_ix ix_list (pv 5) (pe_int) (fun _ _ => rfl)) (pa_nil))) (pk_cons (pv 4) (pk_nil))) (pa_nil))) (pv 6) (nomark _))))) (pw_or1 (pt_cmpR ((op_neW K (by rfl) (ok_Train_eq T) (hr.mono (by decide)) (b_Train_eq T) pass0 T.fn_eq)) (pv 1) (pe_call (ok_train T) (hr.mono (by decide)) rfl T.m_train T.F_train.kp (b_train T) .nil pass0 (pa_cons (pv 3) (pa_cons (pv 4) (pa_cons (pv 5) (pa_nil))))) (nomark _))))) (pss_one (ps_ret (pe_bl))) (pss_nil))
      (pss_cons (ps_if (pt_cmpR (op_eqD hr.units) (pv 5) (pe_lst (pa_nil)) (nomark _)) (pss_one (ps_ret (pe_ifExp (pt_cmpR op_le (pe_callB (cr_maxT2 rfl hr.units) (by rfl) T.n_max (by decide +kernel) (pa_cons (pv 4) (pa_nil))) (pe_int) (nomark _)) (pe_cmpR ((op_eqW K (by rfl) (ok_Train_eq T) (hr.mono (by decide)) (b_Train_eq T) pass0 T.fn_eq)) (pv 1) (pe_mkKK T.tmk (ok_Train_initN T) (hr.mono (by decide)) rfl T.m_Train pass0 (pk_cons (pv 3) (pk_cons (pe_tup (pa_cons (pe_op op_mul (pe_int) (pe_ix ix_tup (pv 4) (pe_int) (fun _ _ => rfl))) (pa_cons (pe_op op_mul (pe_int) (pe_ix ix_tup (pv 4) (pe_int) (fun _ _ => rfl))) (pa_nil)))) (pk_nil)))) (nomark _)) (pe_bl)))) (pss_nil))
      (pss_cons (ps_asg (pe_ix ix_list (pv 5) (pe_un un_neg (pe_int)) (fun _ _ => rfl)) (pg_tup rfl (pgs_cons (pg_name (i := 7) sc_told_alike.nd rfl (Or.inl rfl)) (pgs_cons (pg_name (i := 8) sc_told_alike.nd rfl (Or.inl rfl)) (pgs_cons (pg_name (i := 9) sc_told_alike.nd rfl (Or.inl rfl)) (pgs_cons (pg_name (i := 10) sc_told_alike.nd rfl (Or.inl rfl)) (pgs_nil)))))))
      (pss_cons (ps_set (i := 11) sc_told_alike.nd rfl (Or.inl rfl) (pe_lst (pa_cons (pe_tup (pa_cons (pv 7) (pa_cons (pv 9) (pa_cons (pv 8) (pa_cons (pv 10) (pa_nil)))))) (pa_cons (pe_tup (pa_cons (pv 7) (pa_cons (pv 8) (pa_cons (pv 9) (pa_cons (pe_call (ok_fraction T) (hr.mono (by decide)) rfl T.m_fraction T.F_fraction.kp (b_fraction T) .nil pass0 (pa_cons (pv 0) (pa_nil))) (pa_nil)))))) (pa_cons (pe_tup (pa_cons (pe_int) (pa_cons (pv 8) (pa_cons (pv 9) (pa_cons (pv 10) (pa_nil)))))) (pa_nil))))))
      (pss_cons (ps_set (i := 12) sc_told_alike.nd rfl (Or.inl rfl) (pe_call (ok_pick T) (hr.mono (by decide)) rfl T.m_pick T.F_pick.kp (b_pick T) .nil pass0 (pa_cons (pv 0) (pa_cons (pe_op op_cat (pv 11) (pe_lst (pa_cons (pe_tup (pa_cons (pv 7) (pa_cons (pe_op op_add (pe_int) (pe_op op_fdivW (pv 8) (pe_int))) (pa_cons (pe_op op_add (pe_int) (pe_op op_fdivW (pv 9) (pe_int))) (pa_cons (pv 10) (pa_nil)))))) (pa_nil)))) (pa_nil)))))
      (pss_cons (ps_set (i := 13) sc_told_alike.nd rfl (Or.inl rfl) (pe_cmpR (op_eqD hr.units) (pe_ix ix_list (pe_call (ok_periods T) (hr.mono (by decide)) rfl T.m_periods T.F_periods.kp (b_periods T) .nil pass0 (pa_cons (pv 3) (pa_cons (pe_op op_cat (pe_slice sl_list (pv 5) (po_none) (po_some (pe_un un_neg (pe_int)))) (pe_lst (pa_cons (pv 12) (pa_nil)))) (pa_nil)))) (pe_un un_neg (pe_int)) (fun _ _ => rfl)) (pe_ix ix_list (pe_call (ok_periods T) (hr.mono (by decide)) rfl T.m_periods T.F_periods.kp (b_periods T) .nil pass0 (pa_cons (pv 3) (pa_cons (pv 5) (pa_nil)))) (pe_un un_neg (pe_int)) (fun _ _ => rfl)) (nomark _)))
      (pss_cons (ps_set (i := 13) sc_told_alike.nd rfl (Or.inl rfl) (pe_and (pv 13) (pe_one (pe_cmpR (op_eqD hr.units) (pe_call (ok_lowest T) (hr.mono (by decide)) rfl T.m_lowest T.F_lowest.kp (b_lowest T) .nil pass0 (pa_cons (pe_ix ix_tup (pe_ix ix_tup (pv 12) (pe_int) (fun _ _ => rfl)) (pe_int) (fun _ _ => rfl)) (pa_cons (pe_ix ix_tup (pe_ix ix_tup (pv 12) (pe_int) (fun _ _ => rfl)) (pe_int) (fun _ _ => rfl)) (pa_nil)))) (pe_call (ok_lowest T) (hr.mono (by decide)) rfl T.m_lowest T.F_lowest.kp (b_lowest T) .nil pass0 (pa_cons (pe_ix ix_tup (pv 10) (pe_int) (fun _ _ => rfl)) (pa_cons (pe_ix ix_tup (pv 10) (pe_int) (fun _ _ => rfl)) (pa_nil)))) (nomark _)))))
      (pss_cons (ps_set (i := 14) sc_told_alike.nd rfl (Or.inl rfl) (pe_call (ok_train T) (hr.mono (by decide)) rfl T.m_train T.F_train.kp (b_train T) .nil pass0 (pa_cons (pv 3) (pa_cons (pv 4) (pa_cons (pe_op op_cat (pe_slice sl_list (pv 5) (po_none) (po_some (pe_un un_neg (pe_int)))) (pe_lst (pa_cons (pv 12) (pa_nil)))) (pa_nil))))))
      (pss_one (ps_ret (pe_and (pe_cmpR op_eq (pe_callB (call_rep gu hr.units) (by rfl) T.n_repr (by decide +kernel) (pa_cons (pe_cmpR ((op_eqW K (by rfl) (ok_Train_eq T) (hr.mono (by decide)) (b_Train_eq T) pass0 T.fn_eq)) (pv 1) (pv 14) (nomark _)) (pa_nil))) (pe_callB (call_rep gu hr.units) (by rfl) T.n_repr (by decide +kernel) (pa_cons (pv 13) (pa_nil))) (nomark _)) (pe_one (pe_cmpR op_eq (pe_callB (call_rep gu hr.units) (by rfl) T.n_repr (by decide +kernel) (pa_cons (pe_cmpR ((op_neW K (by rfl) (ok_Train_eq T) (hr.mono (by decide)) (b_Train_eq T) pass0 T.fn_eq)) (pv 1) (pv 14) (nomark _)) (pa_nil))) (pe_callB (call_rep gu hr.units) (by rfl) T.n_repr (by decide +kernel) (pa_cons (pe_not (pv 13)) (pa_nil))) (nomark _))))))))))))))))), ?_⟩
    refine ⟨_, rfl, q, _, rfl, hq, rfl, _, _, rfl, _, _, rfl, _, _, rfl, rfl, ?_⟩
    refine ⟨_, rfl, _, rfl, _, rfl, pi, sv, t, Lg, xs, gs, rfl, hsv, hLg, hA, hok, fun H1 s1 => ?_⟩
    have tr1 := tr.same s1
    obtain ⟨dx, fx, hx1⟩ := tr1.ins
    generalize hTx : NG.txtT pi (NG.lowF t) (gs.map NG.Gr.nrm) = Tx at htl
    refine ⟨_, rfl, x, dx, _, rfl, hx1, x, pi, NG.lowF t, gs.map NG.Gr.nrm, rfl, tr1, hokN, fun H2 s2 => ⟨_, rfl, ?_⟩⟩
    rw [hTx]
    refine ⟨_, rfl, rfl, _, rfl, if_false_of (by rw [decide_eq_true rfl]; rfl) ?_⟩
    have tr2 := tr1.same s2
    have hx2 := s2 _ _ hx1
    refine ⟨rfl, _, rfl, pi, NG.lowF t, gs.map NG.Gr.nrm, by rw [hTx]; rfl, hokN, hlow, hnn, by rw [hTx]; exact htl, fun y H3 s3 try3 => ?_⟩
    have tr3 := tr2.same s3
    have hx3 := s3 _ _ hx2
    obtain ⟨dy, fy, hy3⟩ := try3.ins
    refine ⟨_, rfl, y, x, T.a_Train, T.a_Train, dy, dx, _, _, rfl, rfl, hy3, hx3, .inl ⟨T.nfT, T.mroO, T.fi_ne, T.fi_eq, y, .ref x, pi, _, _, rfl, try3, .inr ⟨x, pi, _, _, rfl, tr3, _, rfl, _, rfl, if_false_of (by rw [decide_eq_true ⟨rfl, rfl⟩]; rfl) ?_⟩⟩⟩
    refine ⟨rfl, _, rfl, pi, NG.lowF t, gs.map NG.Gr.nrm, by rw [hTx]; rfl, hokN, hlow, hnn, by rw [hTx]; exact htl, fun y4 H4 s4 try4 => ?_⟩
    obtain ⟨dy4, fy4, hy4⟩ := try4.ins
    refine ⟨y4, dy4, _, rfl, hy4, y4, pi, NG.lowF t, gs.map NG.Gr.nrm, rfl, try4, hokN, fun H5 s5 => ⟨_, rfl, ?_⟩⟩
    rw [hTx]
    refine ⟨_, rfl, rfl, _, rfl, if_false_of (by rw [decide_eq_true rfl]; rfl) ?_⟩
    have tr5 := (tr3.same s4).same s5
    have hx5 := s5 _ _ (s4 _ _ hx3)
    refine ⟨_, rfl, _, rfl, x, T.a_Train, dx, _, rfl, hx5, .inl ⟨.type "str", T.fi_eq, (NT.str _).ty, T.nfS, x, .str Tx, pi, _, _, rfl, tr5, .inl ⟨Tx, rfl, _, rfl, _, rfl, if_false_of rfl ?_⟩⟩⟩
    have sH5 := (((s1.trans s2).trans s3).trans s4).trans s5
    have lxs : xs.length = gs.length := by rw [dpAll_len hA, List.length_map]
    refine ⟨fun σ' H' => σ' = [some (.ref p), some (.ref x), some (.ref q), some (.int pi), some sv, some (.ref Lg), some (.str Tx), Option.none, Option.none, Option.none, Option.none, Option.none, Option.none, Option.none, Option.none] ∧ Same H H', ?_, ?_⟩
    · refine ⟨_, rfl, Lg, xs, rfl, .inl (SqL.of (sH5 _ _ hLg)), rfl, _, rfl, ?_⟩
      by_cases l2 : gs.length = 2
      · match xs, lxs.trans l2 with
        | [v0, v1], _ =>
          refine if_true_of (decide_eq_true (by rfl)) ?_
          have hS5 : SqL K H5 Lg [v0, v1] := SqL.of (sH5 _ _ hLg)
          refine ⟨_, rfl, _, rfl, Lg, _, 0, v0, rfl, rfl, hS5, rfl, _, rfl, Lg, _, 1, v1, rfl, rfl, hS5, rfl, tNil_to ⟨_, rfl, tNil_to ?_⟩⟩
          intro y dy hy hdy ne
          refine ⟨_, _, _, _, rfl, rfl, (by show 2 ≤ sizeLine; decide), spTI_mk sH5 hy hdy hsv hA hok fun H6 s6 tr6 => ?_⟩
          obtain ⟨dy6, fy6, hy6⟩ := tr6.ins
          have trx := tr.same s6
          obtain ⟨dx6, fx6, hx6⟩ := trx.ins
          refine ⟨_, rfl, y, x, T.a_Train, T.a_Train, dy6, dx6, _, _, rfl, rfl, hy6, hx6, .inl ⟨T.nfT, T.mroO, T.fi_ne, T.fi_eq, y, .ref x, pi, _, _, rfl, tr6, .inr ⟨x, pi, _, _, rfl, trx, _, rfl, _, rfl, if_false_of (by rw [decide_eq_true ⟨rfl, rfl⟩]; rfl) ?_⟩⟩⟩
          exact ⟨rfl, s6⟩
      · refine if_false_of (decide_eq_false fun z => ?_) ⟨rfl, sH5⟩
        injection z with z
        exact l2 (by omega)
    · rintro σ' H' ⟨rfl, sH⟩
      refine ⟨_, rfl, Lg, xs, rfl, .inl (SqL.of (sH _ _ hLg)), rfl, _, rfl, ?_⟩
      -- one gear alone
      have fin5 : ∀ {G : Hp}, Same H G → ∃ dx fs, G x = some (.ins T.a_Train dx fs) ∧ TrAt T G x pi (NG.lowF t) (gs.map NG.Gr.nrm) := fun s => by
        have := tr.same s
        obtain ⟨dx, fs, e⟩ := this.ins
        exact ⟨dx, fs, e, this⟩
      refine dup (H := H) (P := ?P) ?c fun C => ?u
      case u =>
        by_cases l1 : gs.length = 1
        · obtain ⟨v0, hxs⟩ : ∃ v0, xs = [v0] := by
            match xs, lxs.trans l1 with
            | [v0], _ => exact ⟨v0, rfl⟩
          have hA1 : DpAll K H [v0] (gs.map grD) := hxs ▸ hA
          refine if_true_of (decide_eq_true (by rw [hxs]; rfl)) ?_
          refine ⟨_, rfl, _, rfl, Lg, xs, 0, v0, rfl, rfl, SqL.of (sH _ _ hLg), (by rw [hxs]; rfl), tNil_to ⟨_, rfl, tNil_to ?_⟩⟩
          intro y dy hy hdy ne
          refine ⟨_, _, _, _, rfl, rfl, (by show 1 ≤ sizeLine; decide), spTI_mk sH hy hdy hsv hA1 hok fun H6 s6 tr6 => ?_⟩
          obtain ⟨dy6, fy6, hy6⟩ := tr6.ins
          refine ⟨y, dy6, _, rfl, hy6, y, pi, NG.lowF t, gs.map NG.Gr.nrm, rfl, tr6, hokN, fun H7 s7 => ⟨_, rfl, ?_⟩⟩
          rw [hTx]
          refine ⟨_, rfl, rfl, _, rfl, if_false_of (by rw [decide_eq_true rfl]; rfl) ?_⟩
          exact C H7 (s6.trans s7)
        · refine if_false_of (decide_eq_false fun z => ?_) ?_
          · injection z with z
            exact l1 (by omega)
          exact C H' sH
      case c =>
        intro G sG
        obtain ⟨dxG, fxG, hxG, trG⟩ := fin5 sG
        refine ⟨_, rfl, _, rfl, _, rfl, _, rfl, pi, sv, t, Lg, xs, gs, rfl, dp_same sG _ _ hsv, sG _ _ hLg, dp_sameAll sG _ _ hA, hok, fun y H6 s6 tr6 => ?_⟩
        obtain ⟨dy6, fy6, hy6⟩ := tr6.ins
        have tr6x := trG.same s6
        refine ⟨x, y, T.a_Train, T.a_Train, dxG, dy6, _, _, rfl, rfl, s6 _ _ hxG, hy6, .inl ⟨T.nfT, T.mroO, T.fi_ne, T.fi_eq, x, .ref y, pi, _, _, rfl, tr6x, .inr ⟨y, pi, _, _, rfl, tr6, _, rfl, _, rfl, if_false_of (by rw [decide_eq_true ⟨rfl, rfl⟩]; rfl) ?_⟩⟩⟩
        have sH6 := sG.trans s6
        refine ⟨_, rfl, (by show 0 ≤ sizeLine; decide), fun l0 hl0 => ?_⟩
        have sl0 := same_new (o := .lst []) hl0
        have sH7 := sH6.trans sl0
        refine ⟨.list (gs.map grD), .list [], .lst (SqL.of (sH7 _ _ hLg)) (dp_sameAll sH7 _ _ hA), .lst (SqL.of upd_same) .nil, sh_grs gs, by decide, _, rfl, ?_⟩
        rw [eqv_nil]
        generalize upd H6 l0 (.lst []) = G7 at sH7 ⊢
        obtain ⟨sa, rfl, hSl⟩ := dp_fr hsv
        rcases List.eq_nil_or_concat gs with egs | ⟨gi, gl, egs⟩
        · refine if_true_of (by rw [egs]; rfl) ?_
          refine ⟨_, rfl, sa, t.1, t.2, rfl, SqT.same sH7 hSl, _, _, rfl, rfl, _, rfl, ?_⟩
          refine ite2 (fun hm => ?_) (fun hm => ?_)
          · have hm : max t.1 t.2 ≤ 500000 := of_decide_eq_true hm
            obtain ⟨f1, f2, f3, f4⟩ := hok.s
            have c2 : ∀ i, CMul 2 i := fun i => .inl ⟨by decide, by decide⟩
            refine ⟨_, rfl, _, rfl, _, rfl, sa, _, 0, .int t.1, rfl, rfl, SqT.same sH7 hSl, rfl, _, _, rfl, rfl, c2 _, _, rfl, sa, _, 1, .int t.2, rfl, rfl, SqT.same sH7 hSl, rfl, _, _, rfl, rfl, c2 _, (by show 2 ≤ sizeLine; decide), fun tp htp => tNil_to ?_⟩
            intro y dy hy hdy ne
            have st := same_new (o := .tup [.int (2 * t.1), .int (2 * t.2)]) htp
            have et : upd G7 tp (.tup [.int (2 * t.1), .int (2 * t.2)]) tp = some (.tup [.int (2 * t.1), .int (2 * t.2)]) := upd_same
            have hok2 : NG.TrOk pi (2 * t.1, 2 * t.2) [] := ⟨hok.p, ⟨by simp only; omega, by simp only; omega, by simp only; omega, by simp only; omega⟩, trivial, by decide⟩
            refine ⟨_, _, _, rfl, rfl, spTI_mk (t := (2 * t.1, 2 * t.2)) (gs := []) (fun _ _ e => e) hy hdy (fr_dp (SqT.of et)) .nil hok2 fun H8 s8 tr8 => ?_⟩
            obtain ⟨dy8, fy8, hy8⟩ := tr8.ins
            have trx := tr.same ((sH7.trans st).trans s8)
            obtain ⟨dx8, fx8, hx8⟩ := trx.ins
            refine ⟨x, T.a_Train, dx8, _, rfl, hx8, .inl ⟨.ref T.a_Train, T.fi_eq, T.kiT _ y dy8 _ hy8, T.nfT, x, .ref y, pi, _, _, rfl, trx, .inr ⟨y, pi, _, _, rfl, tr8, _, rfl, ?_⟩⟩⟩
            have e2 : NG.lowF (2 * t.1, 2 * t.2) = NG.lowF t := NG.low_twice
            rw [egs, e2, decide_eq_true ⟨rfl, rfl⟩]
            exact k _ n (hP.same ((sH7.trans st).trans s8)) (by omega)
          · exact k _ n (hP.same sH7) (by omega)
        · rw [List.concat_eq_append] at egs
          refine if_false_of (by rw [egs]; simp) ?_
          obtain ⟨xi, vl, hxs, hAi, hAl⟩ := dpAll_snoc (by rw [egs, List.map_append] at hA; exact hA)
          obtain ⟨la, lu, rfl, hLa, hLu⟩ := dp_gr hAl
          refine ⟨_, rfl, _, rfl, Lg, xs, _, .ref la, rfl, rfl, SqL.of (sH7 _ _ hLg), (by rw [hxs]; exact atI_last), la, _, rfl, SqT.same sH7 hLa, rfl, _, _, rfl, _, _, rfl, _, _, rfl, _, _, rfl, rfl, ?_⟩
          have hgl := hok.g.at (j := gi.length) (g := gl) (by rw [egs]; simp)
          rw [Nat.zero_add] at hgl
          obtain ⟨g1, g2, g3, g4, g5, g6, gfr⟩ := id hgl
          have li6 : gi.length < 6 := by have := hok.l; rw [egs, List.length_append, List.length_singleton] at this; omega
          have hLu7 := dp_same sH7 _ _ hLu
          have hP7 := hP.same sH7
          have l4 : 4 ≤ sizeLine := by decide
          refine ⟨_, rfl, _, rfl, _, rfl, _, rfl, l4, fun b1 hb1 => ?_⟩
          have sb1 := same_new (o := .tup [.int gl.on, .int gl.dn, .int gl.dg, lu]) hb1
          have eb1 : upd G7 b1 (.tup [.int gl.on, .int gl.dn, .int gl.dg, lu]) b1 = some (.tup [.int gl.on, .int gl.dn, .int gl.dg, lu]) := upd_same
          have v1 : GrV K gi.length (upd G7 b1 (.tup [.int gl.on, .int gl.dn, .int gl.dg, lu])) (.ref b1) := ⟨⟨gl.on, gl.dn, gl.dg, gl.s⟩, gr_dp (SqT.of eb1) (dp_same sb1 _ _ hLu7), g1, g2, g5, g6, g3, g4, gfr⟩
          have hLu8 := dp_same sb1 _ _ hLu7
          have hP8 := hP7.same sb1
          have s8 := sH7.trans sb1
          generalize upd G7 b1 (.tup [.int gl.on, .int gl.dn, .int gl.dg, lu]) = G8 at v1 hLu8 hP8 s8 ⊢
          refine ⟨_, rfl, _, rfl, _, rfl, _, rfl, p, n, rfl, hP8, by omega, fun fv ft H9 hfv hft ff hP9 => ⟨l4, fun b2 hb2 => ?_⟩⟩
          have kp9 := kp_fr hP8 ff
          have fH9 : Fr p H H9 := (same_fr s8).trans ff
          have sb2 := same_new (o := .tup [.int gl.on, .int gl.dg, .int gl.dn, fv]) hb2
          have eb2 : upd H9 b2 (.tup [.int gl.on, .int gl.dg, .int gl.dn, fv]) b2 = some (.tup [.int gl.on, .int gl.dg, .int gl.dn, fv]) := upd_same
          have v2 : GrV K gi.length (upd H9 b2 (.tup [.int gl.on, .int gl.dg, .int gl.dn, fv])) (.ref b2) := ⟨⟨gl.on, gl.dg, gl.dn, ft⟩, gr_dp (SqT.of eb2) (dp_same sb2 _ _ hfv), g1, g2, g3, g4, g5, g6, hft⟩
          have v1 := (v1.kp kp9).kp (.of sb2)
          have hLu9 := dp_same sb2 _ _ (dp_kp kp9 _ _ (nl_fr _) hLu8)
          have hP9 := hP9.same sb2
          have fH9 := fH9.trans (same_fr sb2)
          generalize upd H9 b2 (.tup [.int gl.on, .int gl.dg, .int gl.dn, fv]) = G9 at v1 v2 hLu9 hP9 fH9 ⊢
          refine ⟨_, rfl, _, rfl, _, rfl, l4, fun b3 hb3 => ⟨(by show 3 ≤ sizeLine; decide), fun ls hls => ?_⟩⟩
          have sb3 := same_new (o := .tup [.int 0, .int gl.dg, .int gl.dn, lu]) hb3
          have eb3 : upd G9 b3 (.tup [.int 0, .int gl.dg, .int gl.dn, lu]) b3 = some (.tup [.int 0, .int gl.dg, .int gl.dn, lu]) := upd_same
          have v3 : GrV K gi.length (upd G9 b3 (.tup [.int 0, .int gl.dg, .int gl.dn, lu])) (.ref b3) := ⟨⟨0, gl.dg, gl.dn, gl.s⟩, gr_dp (SqT.of eb3) (dp_same sb3 _ _ hLu9), by simp only; omega, by simp only; omega, g3, g4, g5, g6, gfr⟩
          have v1 := v1.kp (.of sb3)
          have v2 := v2.kp (.of sb3)
          have hLu9 := dp_same sb3 _ _ hLu9
          have hP9 := hP9.same sb3
          have fH9 := fH9.trans (same_fr sb3)
          generalize upd G9 b3 (.tup [.int 0, .int gl.dg, .int gl.dn, lu]) = G10 at v1 v2 v3 hLu9 hP9 fH9 hls ⊢
          have sls := same_new (o := .lst [.ref b1, .ref b2, .ref b3]) hls
          have els : upd G10 ls (.lst [.ref b1, .ref b2, .ref b3]) ls = some (.lst [.ref b1, .ref b2, .ref b3]) := upd_same
          have v1 := v1.kp (.of sls)
          have v2 := v2.kp (.of sls)
          have v3 := v3.kp (.of sls)
          have hLu9 := dp_same sls _ _ hLu9
          have hP9 := hP9.same sls
          have fH9 := fH9.trans (same_fr sls)
          generalize upd G10 ls (.lst [.ref b1, .ref b2, .ref b3]) = G11 at v1 v2 v3 hLu9 hP9 fH9 els ⊢
          have cd : ∀ i, CDivW i 2 := fun i => wide_div (b := 10) (by decide) (by decide) (by decide) (by decide)
          refine ⟨_, rfl, _, rfl, _, rfl, _, rfl, _, _, rfl, rfl, cd _, _, _, rfl, rfl, _, rfl, _, _, rfl, rfl, cd _, _, _, rfl, rfl, _, rfl, l4, fun b4 hb4 => ⟨(by show 1 ≤ sizeLine; decide), fun l1 hl1 => ?_⟩⟩
          have sb4 := same_new (o := .tup [.int gl.on, .int (1 + gl.dg / 2), .int (1 + gl.dn / 2), lu]) hb4
          have eb4 : upd G11 b4 (.tup [.int gl.on, .int (1 + gl.dg / 2), .int (1 + gl.dn / 2), lu]) b4 = some (.tup [.int gl.on, .int (1 + gl.dg / 2), .int (1 + gl.dn / 2), lu]) := upd_same
          have v4 : GrV K gi.length (upd G11 b4 (.tup [.int gl.on, .int (1 + gl.dg / 2), .int (1 + gl.dn / 2), lu])) (.ref b4) := ⟨⟨gl.on, 1 + gl.dg / 2, 1 + gl.dn / 2, gl.s⟩, gr_dp (SqT.of eb4) (dp_same sb4 _ _ hLu9), g1, g2, by simp only; omega, by simp only; omega, by simp only; omega, by simp only; omega, gfr⟩
          have v1 := v1.kp (.of sb4)
          have v2 := v2.kp (.of sb4)
          have v3 := v3.kp (.of sb4)
          have hLu9 := dp_same sb4 _ _ hLu9
          have hP9 := hP9.same sb4
          have fH9 := fH9.trans (same_fr sb4)
          have els := sb4 _ _ els
          have hl1 : upd G11 b4 (.tup [.int gl.on, .int (1 + gl.dg / 2), .int (1 + gl.dn / 2), lu]) l1 = Option.none := hl1
          refine ⟨ls, l1, [.ref b1, .ref b2, .ref b3], [.ref b4], rfl, rfl, same_new (o := .lst [.ref b4]) hl1 _ _ els, upd_same, (by show 3 + 1 ≤ sizeLine; decide), fun l2 hl2 => ?_⟩
          have sl1 := same_new (o := .lst [.ref b4]) hl1
          have sl2 := same_new (o := .lst [.ref b1, .ref b2, .ref b3, .ref b4]) hl2
          have s12 := sl1.trans sl2
          have hP12 := hP9.same s12
          refine ⟨p, l2, [.ref b1, .ref b2, .ref b3, .ref b4], n + 5, rfl, SqL.of upd_same, (hP9.same sl1).neq hl2, by simp, (by show 4 < 1000000; decide), hP12, by omega, fun ov H13 hov hP13 f13 => ?_⟩
          have hOV : GrV K gi.length H13 ov := by
            simp only [List.mem_cons, List.not_mem_nil, or_false] at hov
            have kk := (Kp.of s12).trans (kp_fr hP12 f13)
            rcases hov with rfl | rfl | rfl | rfl
            · exact v1.kp kk
            · exact v2.kp kk
            · exact v3.kp kk
            · exact v4.kp kk
          have hLu13 := dp_kp ((Kp.of s12).trans (kp_fr hP12 f13)) _ _ (nl_fr _) hLu9
          have fH := (fH9.trans (same_fr s12)).trans f13
          obtain ⟨og, hog, hogk⟩ := hOV
          have kpH := kp_fr hP fH
          have hA13 := dp_kpAll kpH _ _ (nl_all nl_gr _) hA
          have hAi13 := dp_kpAll kpH _ _ (nl_all nl_gr _) hAi
          have hLg13 := fH Lg _ nLp hLg
          have hsv13 := dp_kp kpH _ _ (nl_fr _) (fr_dp hSl)
          have tr13 := tr.kp kpH
          have okO : NG.TrOk pi t (gi ++ [og]) := by
            have hg2 := hok.g.take gi.length
            rw [egs, List.take_left'] at hg2
            · exact ⟨hok.p, hok.s, NG.GsFrom.snoc hg2 (by rw [Nat.zero_add]; exact hogk), by rw [List.length_append, List.length_singleton]; omega⟩
            · rfl
          clear v1 v2 v3 v4 els eb4
          refine ⟨_, rfl, _, rfl, _, rfl, _, rfl, Lg, xs, rfl, SqL.of hLg13, fun q1 hq1 => ⟨_, rfl, (by show 1 ≤ sizeLine; decide), fun l3 hl3 => ?_⟩⟩
          rw [hxs, cut_last] at hl3 ⊢
          have sq1 := same_new (o := .lst xi) hq1
          have sl3 := same_new (o := .lst [ov]) hl3
          have lxi : xi.length = gi.length := by rw [dpAll_len hAi13, List.length_map]
          refine ⟨q1, l3, xi, [ov], rfl, rfl, sl3 _ _ upd_same, upd_same, (by rw [lxi, sizeLine_eq]; show gi.length + 1 ≤ _; omega), fun q2 hq2 => ?_⟩
          have sq2 := same_new (o := .lst (xi ++ [ov])) hq2
          have s14 := (sq1.trans sl3).trans sq2
          have hAo : DpAll K H13 (xi ++ [ov]) ((gi ++ [og]).map grD) := by
            rw [List.map_append]
            exact dpAll_app hAi13 (.cons hog .nil)
          refine ⟨pi, q2, xi ++ [ov], gi ++ [og], rfl, upd_same, dp_sameAll s14 _ _ hAo, hok.p, okO.g, okO.l, fun q3 ys3 H15 hq3 s15 hys3 hD3 => ?_⟩
          rw [NG.pers_snoc, List.map_append] at hD3
          obtain ⟨yi3, v3, e3, _, hv3⟩ := dpAll_snoc hD3
          subst e3
          have s1315 := s14.trans s15
          refine ⟨_, rfl, q3, _, _, v3, rfl, rfl, SqL.of hys3, atI_last, ?_⟩
          refine ⟨_, rfl, _, rfl, pi, Lg, xs, gs, rfl, s1315 _ _ hLg13, dp_sameAll s1315 _ _ hA13, hok.p, hok.g, hok.l, fun q4 ys4 H16 hq4 s16 hys4 hD4 => ?_⟩
          rw [egs, NG.pers_snoc, List.map_append] at hD4
          obtain ⟨yi4, v4, e4, _, hv4⟩ := dpAll_snoc hD4
          subst e4
          refine ⟨_, rfl, q4, _, _, v4, rfl, rfl, SqL.of hys4, atI_last, ?_⟩
          refine ⟨frD (NG.nxt (NG.pers pi gi) og), frD (NG.nxt (NG.pers pi gi) gl), dp_same s16 _ _ hv3, hv4, sh_fr _, sh_fr _, ?_⟩
          rw [eqv_fr]
          have s1316 := s1315.trans s16
          generalize hA0 : decide (NG.nxt (NG.pers pi gi) og = NG.nxt (NG.pers pi gi) gl) = A0
          obtain ⟨D, hD⟩ : ∃ D, decide (NG.nxt (NG.pers pi gi) og = NG.nxt (NG.pers pi gi) gl ∧ NG.lowF og.s = NG.lowF gl.s) = D := ⟨_, rfl⟩
          refine dup (H := H16) (P := ?P2) ?c2 fun C => ?u2
          case u2 =>
            refine ⟨_, rfl, _, rfl, ?_⟩
            by_cases hnx : NG.nxt (NG.pers pi gi) og = NG.nxt (NG.pers pi gi) gl
            · refine if_true_of (by rw [← hA0, decide_eq_true hnx]) ?_
              obtain ⟨oa, ou, eo, hOa, hou⟩ := dp_gr (dp_same s1316 _ _ hog)
              obtain ⟨oua, eou, hOu⟩ := dp_fr hou
              obtain ⟨lua, elu, hLua⟩ := dp_fr (dp_same s1316 _ _ hLu13)
              obtain ⟨_, _, _, _, _, _, ofr⟩ := hogk
              obtain ⟨o1, o2, o3, o4⟩ := ofr
              obtain ⟨w1, w2, w3, w4⟩ := gfr
              refine ⟨_, rfl, oa, _, 3, ou, eo, rfl, hOa, rfl, oua, _, 0, .int og.s.1, eou, rfl, hOu, rfl, _, rfl, oa, _, 3, ou, eo, rfl, hOa, rfl, oua, _, 1, .int og.s.2, eou, rfl, hOu, rfl, og.s.1, og.s.2, rfl, o1, by omega, by omega, fun q5 H17 hq5 s17 h5 => ?_⟩
              have hL17 := SqT.same s17 hLua
              refine ⟨_, rfl, lua, _, 0, .int gl.s.1, elu, rfl, hL17, rfl, _, rfl, lua, _, 1, .int gl.s.2, elu, rfl, hL17, rfl, gl.s.1, gl.s.2, rfl, w1, by omega, by omega, fun q6 H18 hq6 s18 h6 => ?_⟩
              refine ⟨frD (NG.lowF og.s), frD (NG.lowF gl.s), fr_dp (SqT.of (s18 _ _ h5)), fr_dp (SqT.of h6), sh_fr _, sh_fr _, ?_⟩
              rw [eqv_fr, show decide (NG.lowF og.s = NG.lowF gl.s) = D from by rw [← hD, decide_eq_decide]; exact ⟨fun z => ⟨hnx, z⟩, fun z => z.2⟩]
              exact C H18 (s17.trans s18)
            · refine if_false_of (by rw [← hA0, decide_eq_false hnx]) ?_
              have hDf : D = false := by rw [← hD, decide_eq_false (fun z => hnx z.1)]
              subst hDf
              exact C H16 (fun _ _ e => e)
          case c2 =>
            intro G sG
            have s13G := s1316.trans sG
            refine ⟨_, rfl, _, rfl, _, rfl, _, rfl, _, rfl, Lg, xs, rfl, SqL.of (s13G _ _ hLg13), fun q1 hq1 => ⟨_, rfl, (by show 1 ≤ sizeLine; decide), fun l3 hl3 => ?_⟩⟩
            rw [hxs, cut_last] at hl3 ⊢
            have sq1 := same_new (o := .lst xi) hq1
            have sl3 := same_new (o := .lst [ov]) hl3
            refine ⟨q1, l3, xi, [ov], rfl, rfl, sl3 _ _ upd_same, upd_same, (by rw [lxi, sizeLine_eq]; show gi.length + 1 ≤ _; omega), fun q2 hq2 => ?_⟩
            have sq2 := same_new (o := .lst (xi ++ [ov])) hq2
            have sT := ((s13G.trans sq1).trans sl3).trans sq2
            refine ⟨pi, .ref sa, t, q2, xi ++ [ov], gi ++ [og], rfl, dp_same sT _ _ hsv13, upd_same, dp_sameAll sT _ _ hAo, okO, fun y H19 s19 tr19 => ?_⟩
            have trx := tr13.same (sT.trans s19)
            obtain ⟨dx9, fx9, hx9⟩ := trx.ins
            obtain ⟨dy9, fy9, hy9⟩ := tr19.ins
            have hDD : decide (NG.pers pi (gs.map NG.Gr.nrm) = NG.pers pi ((gi ++ [og]).map NG.Gr.nrm) ∧ NG.slps (NG.lowF t) (gs.map NG.Gr.nrm) = NG.slps (NG.lowF t) ((gi ++ [og]).map NG.Gr.nrm)) = D := by
              rw [← hD, decide_eq_decide, egs]
              exact alike_iff pi (NG.lowF t) gi gl og
            have tB : ∀ b : Bool, (PyData.bool b).shown.length ≤ sizeLine := fun b => by cases b <;> decide
            refine ⟨_, rfl, _, rfl, x, T.a_Train, dx9, _, rfl, hx9, .inl ⟨.ref T.a_Train, T.fi_eq, T.kiT _ y dy9 _ hy9, T.nfT, x, .ref y, pi, _, _, rfl, trx, .inr ⟨y, pi, _, _, rfl, tr19, _, rfl, ?_⟩⟩⟩
            rw [hDD]
            refine ⟨.bl D, .bool D, rfl, .dp (.bl D), rfl, (by show 0 ≤ 60; decide), .inr (tB D), ?_⟩
            refine ⟨_, rfl, .bl D, .bool D, rfl, .dp (.bl D), rfl, (by show 0 ≤ 60; decide), .inr (tB D), ?_⟩
            refine ⟨rfl, _, rfl, if_true_of (decide_eq_true rfl) ?_⟩
            refine ⟨_, rfl, _, rfl, x, y, T.a_Train, T.a_Train, dx9, dy9, _, _, rfl, rfl, hx9, hy9, .inl ⟨T.nfT, T.mroO, T.fi_ne, T.fi_eq, x, .ref y, pi, _, _, rfl, trx, .inr ⟨y, pi, _, _, rfl, tr19, _, rfl, ?_⟩⟩⟩
            rw [hDD]
            refine ⟨.bl (!D), .bool (!D), rfl, .dp (.bl (!D)), rfl, (by show 0 ≤ 60; decide), .inr (tB (!D)), ?_⟩
            refine ⟨_, rfl, D, rfl, .bl (!D), .bool (!D), rfl, .dp (.bl (!D)), rfl, (by show 0 ≤ 60; decide), .inr (tB (!D)), rfl, ?_⟩
            rw [decide_eq_true rfl]
            exact k _ _ (hP13.same (sT.trans s19)) (by omega)

section
variable {X : Cx} {CX : CXT} {k : Nat} {f C : Addr} {fd : FuncData} {ps : List Str} {sp : Sp} {E : XK}
/-- x[k], the class of whose instance is read under a K that is given -/
theorem pe_ixOK {a b : Expr} {ta tb : TE} {pos : Pos} (K : PySem.W.Frag) (hK : X.K = K) (F : FnOk X.prog X.w X.K X.mg X.base CX k f fd ps sp) (hr : Room (k + 1) X.A) (hb : Binds X.K fd ps []) (hx : Passes CX X E) (hs : PySem.W.findIn K (.ref C) "__getitem__" = some (some (.ref f))) (hf : PySem.W.fnIn K f = true) (hfn : PySem.W.isFn K (.ref f) = true)
    (ha : PE X a ta) (hi : PE X b tb) (hsl : ∀ o i, subscripted b true o i = runValue (.builtin "lifetime.subscript" ⟨[o, i], []⟩) := by intros; rfl) : PE X (.Subscript a b pos) (tOp (rIxO C sp E) ta tb) := by
  subst hK
  exact pe_ixO F hr hb hx hs hf hfn ha hi hsl
end
theorem fnIn_of {K : PySem.W.Frag} {x qual : Str} {st : Stmt} {f : Addr} {fd : FuncData} (F : Fun K x qual st f fd) : PySem.W.fnIn K f = true := by
  obtain ⟨oc, od, kV, doc, pm, an, cdv, ct, osl, rfl, lk, hcd⟩ := F.ex
  unfold PySem.W.fnIn
  rw [lk]

/-! ### a train by the law's own sums -/
theorem Fine.sizeB {n : Nat} {d : PyData} (h : Fine n d) (l : n ≤ 130000) : d.shown.length ≤ sizeLine := by
  have z := PyData.shown_le 121 (by decide) d h.2.1
  have h2 : (121 + 2) * d.weight ≤ 123 * 130000 := Nat.mul_le_mul (by omega) (Nat.le_trans h.2.2 l)
  rw [sizeLine_eq]
  omega
theorem FineAll.lst {n : Nat} {ds : List PyData} (h : FineAll n ds) : Fine n (.list ds) := ⟨by simp only [PyData.showable, h.1], by simp only [PyData.leavesShort, h.2.1], by simp only [PyData.weight]; exact h.2.2⟩
def FrS (t : NG.Fr) : Prop := t.1.natAbs < 10 ^ 120 ∧ t.2.natAbs < 10 ^ 120
theorem fine_fr {t : NG.Fr} (h : FrS t) : Fine 802 (frD t) := (FineAll.cons (Fine.int h.1) (FineAll.cons (Fine.int h.2) FineAll.nil)).tup
theorem fineAll_frs : ∀ {ts : List NG.Fr}, (∀ t ∈ ts, FrS t) → FineAll (803 * ts.length) (ts.map frD)
  | [], _ => FineAll.nil
  | q :: r, h => by
    have a := FineAll.cons (fine_fr (h q (List.mem_cons_self ..))) (fineAll_frs fun s hs => h s (List.mem_cons_of_mem _ hs))
    refine ⟨a.1, a.2.1, ?_⟩
    have := a.2.2
    show PyData.weightAll (frD q :: r.map frD) ≤ _
    rw [List.length_cons]
    omega
theorem dep_tup (ts : List NG.Fr) : (PyData.tuple (ts.map frD)).depth ≤ 2 := by
  have := dep_frs ts
  rw [PyData.depth]
  omega
theorem dep_lst (ts : List NG.Fr) : (PyData.list (ts.map frD)).depth ≤ 2 := by
  have := dep_frs ts
  rw [PyData.depth]
  omega
/-- shown without harm: what repr asks -/
def Shows (d : PyData) : Prop := d.showable = true ∧ d.depth ≤ 60 ∧ ((∃ i, d = .int i) ∨ d.shown.length ≤ sizeLine)
theorem shows_two {ps ss : List NG.Fr} (h1 : ∀ t ∈ ps, FrS t) (h2 : ∀ t ∈ ss, FrS t) (l1 : ps.length ≤ 7) (l2 : ss.length ≤ 7) : Shows (.tuple [.tuple (ps.map frD), .tuple (ss.map frD)]) := by
  have f := (FineAll.cons (fineAll_frs h1).tup (FineAll.cons (fineAll_frs h2).tup FineAll.nil)).tup
  have d1 := dep_tup ps
  have d2 := dep_tup ss
  refine ⟨f.1, ?_, .inr (f.sizeB (by omega))⟩
  have e : (PyData.tuple [.tuple (ps.map frD), .tuple (ss.map frD)]).depth = max (PyData.tuple (ps.map frD)).depth (max (PyData.tuple (ss.map frD)).depth 0) + 1 := by rw [PyData.depth, PyData.depthAll, PyData.depthAll, PyData.depthAll]
  omega
theorem shows_lst {ps : List NG.Fr} (h1 : ∀ t ∈ ps, FrS t) (l1 : ps.length ≤ 7) : Shows (.list (ps.map frD)) := by
  have f := (fineAll_frs h1).lst
  have d1 := dep_lst ps
  exact ⟨f.1, by omega, .inr (f.sizeB (by omega))⟩
theorem shows_tup {ps : List NG.Fr} (h1 : ∀ t ∈ ps, FrS t) (l1 : ps.length ≤ 7) : Shows (.tuple (ps.map frD)) := by
  have f := (fineAll_frs h1).tup
  have d1 := dep_tup ps
  exact ⟨f.1, by omega, .inr (f.sizeB (by omega))⟩
theorem shows_int {i : Int} (h : i.natAbs < 2 ^ 1900) : Shows (.int i) := by
  refine ⟨?_, (by show 0 ≤ 60; decide), .inl ⟨i, rfl⟩⟩
  simp only [PyData.showable, decide_eq_true_eq]
  exact Nat.lt_trans (PySem.Flt.log2_lt_of (show 0 < 1900 by decide) h) (by decide)
theorem frS_big {t : NG.Fr} (h : NG.PfOk 1000000000000000000000000 t) : FrS t := by
  obtain ⟨h1, h2, h3, h4⟩ := h
  have e : (10 : Nat) ^ 24 < 10 ^ 120 := by decide +kernel
  exact ⟨Nat.lt_of_le_of_lt (show t.1.natAbs ≤ 10 ^ 24 by omega) e, Nat.lt_of_le_of_lt (show t.2.natAbs ≤ 10 ^ 24 by omega) e⟩
theorem frS_ok {t : NG.Fr} (h : NG.FrOk t) : FrS t := by
  obtain ⟨h1, h2, h3, h4⟩ := h
  have e : (10 : Nat) ^ 24 < 10 ^ 120 := by decide +kernel
  exact ⟨Nat.lt_of_le_of_lt (show t.1.natAbs ≤ 10 ^ 24 by omega) e, Nat.lt_of_le_of_lt (show t.2.natAbs ≤ 10 ^ 24 by omega) e⟩
theorem frS_low {a b : Int} (ha : 0 ≤ a) (hb : 0 < b) (h1 : a ≤ 1000000000000000000000000) (h2 : b ≤ 1000000000000000000000000) : FrS (NG.low a b) := by
  have l := NG.low_bounds ha hb
  have e : (10 : Nat) ^ 24 < 10 ^ 120 := by decide +kernel
  exact ⟨Nat.lt_of_le_of_lt (show (NG.low a b).1.natAbs ≤ 10 ^ 24 by omega) e, Nat.lt_of_le_of_lt (show (NG.low a b).2.natAbs ≤ 10 ^ 24 by omega) e⟩
theorem ne_str (z : Str) : (!decide (V.str z = V.str z)) = false := by rw [decide_eq_true rfl]; rfl
theorem lcm_small {l : List Int} (h : ∀ z ∈ l, 0 < z ∧ z.natAbs < 2 ^ 100) (hl : l.length ≤ 14) : ((NM.lcmL l : Nat) : Int).natAbs < 2 ^ 1450 := by
  have := lcmL_size (b := 100) l h
  rw [Int.natAbs_natCast]
  exact Nat.lt_of_le_of_lt this (Nat.pow_lt_pow_right (by decide) (by omega))
theorem same_drop {H : Hp} {it : Addr} {o : HO} (h : H it = Option.none) : Same H (ItX.dropH (upd H it o) it) := fun b ob e => by
  have n : b ≠ it := ne_of_none e h
  rw [ItX.dropH_ne n, upd_ne n]
  exact e
def spRight : Sp := fun vs H Q _ => ∃ (p : Addr) (n : Nat), vs = [.ref p] ∧ Pen H p n ∧ n + 500 < 100000 ∧ ∀ (H' : Hp) (n' : Nat), Pen H' p n' → n' ≤ n + 120 → Q (.bl true) H'
theorem ok_right (T : Txt K mg) : FnG P w K mg base CX0 21 T.a_right spRight := by
  refine FnG.mk0 T.F_right sc_right (b_right T) (fun vs H Q E h => ?_) (fun cdv A outer s H vs Q E gu hr h => ?_)
  · obtain ⟨p, n, rfl, _⟩ := h; rfl
  · obtain ⟨p, n, rfl, hP, hn, k⟩ := h
    refine ⟨_, pss_cons (ps_par3 (i := 1) (j := 2) (l := 3) (by rfl) sc_right.nd rfl rfl rfl (by decide) (by decide) (by decide) rfl rfl rfl (pa_cons (pe_call (ok_period T) (hr.mono (by decide)) rfl T.m_period T.F_period.kp (b_period T) .nil pass0 (pa_cons (pv 0) (pa_nil))) (pa_cons (pe_call (ok_fraction T) (hr.mono (by decide)) rfl T.m_fraction T.F_fraction.kp (b_fraction T) .nil pass0 (pa_cons (pv 0) (pa_nil))) (pa_cons (pe_call (ok_draw T) (hr.mono (by decide)) rfl T.m_draw T.F_draw.kp (b_draw T) .nil pass0 (pa_cons (pv 0) (pa_cons (pe_int) (pa_nil)))) (pa_nil)))) (by rfl))
      (pss_cons (ps_set (i := 4) sc_right.nd rfl (Or.inl rfl) (pe_call (ok_gears T) (hr.mono (by decide)) rfl T.m_gears T.F_gears.kp (b_gears T) .nil pass0 (pa_cons (pv 0) (pa_cons (pv 3) (pa_nil)))))
      (pss_cons (ps_asg (pe_tup (pa_cons (pe_call (ok_train T) (hr.mono (by decide)) rfl T.m_train T.F_train.kp (b_train T) .nil pass0 (pa_cons (pv 1) (pa_cons (pv 2) (pa_cons (pv 4) (pa_nil))))) (pa_cons (pe_call (ok_periods T) (hr.mono (by decide)) rfl T.m_periods T.F_periods.kp (b_periods T) .nil pass0 (pa_cons (pv 1) (pa_cons (pv 4) (pa_nil)))) (pa_nil)))) (pg_tup rfl (pgs_cons (pg_name (i := 5) sc_right.nd rfl (Or.inr rfl)) (pgs_cons (pg_name (i := 6) sc_right.nd rfl (Or.inl rfl)) (pgs_nil)))))
      (pss_cons (ps_set (i := 7) sc_right.nd rfl (Or.inl rfl) (pe_op op_cat (pe_lst (pa_cons (pe_call (ok_lowest T) (hr.mono (by decide)) rfl T.m_lowest T.F_lowest.kp (b_lowest T) .nil pass0 (pa_cons (pe_ix ix_tup (pv 2) (pe_int) (fun _ _ => rfl)) (pa_cons (pe_ix ix_tup (pv 2) (pe_int) (fun _ _ => rfl)) (pa_nil)))) (pa_nil))) (pe_lc (own := [("_law_gear", 8)]) (g := gName 8) (tt := tYes) rfl sc_right.nd (pi_list (pv 4)) (blkOk_by (own := [("_law_gear", 8)]) (N := ["_law_pen_here", "_law_period_here", "_law_slip", "_law_many", "_law_gears_here", "_law_train_here", "_law_periods_here", "_law_slips", "_law_gear", "_law_top", "_law_bottom", "_law_again", "_law_part", "_law_at", "_law_great", "_law_value"]) (sc := defScope s_right) (by decide +kernel)) (fun _ _ _ _ _ => pg_name (i := 8) sc_right.nd rfl (Or.inl rfl)) (fun _ _ _ _ _ => pts_nil) (fun _ _ _ _ _ => pe_call (ok_lowest T) (hr.mono (by decide)) rfl T.m_lowest T.F_lowest.kp (b_lowest T) .nil pass0 (pa_cons (pe_ix (ix_tup2 K (by rfl)) (pe_ix (ix_tup2 K (by rfl)) (pv 8) (pe_int) (fun _ _ => rfl)) (pe_int) (fun _ _ => rfl)) (pa_cons (pe_ix (ix_tup2 K (by rfl)) (pe_ix (ix_tup2 K (by rfl)) (pv 8) (pe_int) (fun _ _ => rfl)) (pe_int) (fun _ _ => rfl)) (pa_nil)))))))
      (pss_cons (ps_if (PW.pt (pw_or (pt_cmpR op_ne (pe_callB (call_rep gu hr.units) (by rfl) T.n_repr (by decide +kernel) (pa_cons (pe_tup (pa_cons (pe_fld (pv 5) rfl) (pa_cons (pe_fld (pv 5) rfl) (pa_nil)))) (pa_nil))) (pe_callB (call_rep gu hr.units) (by rfl) T.n_repr (by decide +kernel) (pa_cons (pe_tup (pa_cons (pe_callTy call_tuple_of (by rfl) T.n_tuple (by decide +kernel) (pa_cons (pv 6) (pa_nil))) (pa_cons (pe_callTy call_tuple_of (by rfl) T.n_tuple (by decide +kernel) (pa_cons (pv 7) (pa_nil))) (pa_nil)))) (pa_nil))) (nomark _)) (pw_or1 (pt_cmpR op_ne (pe_callB (call_lenO (ok_Train_len T) (hr.mono (by decide)) (b_Train_len T) pass0 T.fi_len T.fn_len) (by rfl) T.n_len (by decide +kernel) (pa_cons (pv 5) (pa_nil))) (pe_op op_add (pv 3) (pe_int)) (nomark _))))) (pss_one (ps_ret (pe_bl))) (pss_nil))
      (pss_cons (ps_if (pt_cmpR op_ne (pe_callB (call_rep gu hr.units) (by rfl) T.n_repr (by decide +kernel) (pa_cons (pe_fld (pv 5) rfl) (pa_nil))) (pe_callB (call_rep gu hr.units) (by rfl) T.n_repr (by decide +kernel) (pa_cons (pe_call (ok_by_multiple T) (hr.mono (by decide)) rfl T.m_by_multiple T.F_by_multiple.kp (b_by_multiple T) .nil pass0 (pa_cons (pe_lc (own := [("_law_top", 9), ("_law_bottom", 10)]) (tt := tYes) rfl sc_right.nd (pi_list (pe_op op_cat (pv 6) (pv 7))) (blkOk_by (own := [("_law_top", 9), ("_law_bottom", 10)]) (N := ["_law_pen_here", "_law_period_here", "_law_slip", "_law_many", "_law_gears_here", "_law_train_here", "_law_periods_here", "_law_slips", "_law_gear", "_law_top", "_law_bottom", "_law_again", "_law_part", "_law_at", "_law_great", "_law_value"]) (sc := defScope s_right) (by decide +kernel)) (fun _ _ _ _ _ => pg_tup2 K 2 (by rfl) (by rfl) (pgs_cons (pg_name (i := 9) sc_right.nd rfl (Or.inl rfl)) (pgs_cons (pg_name (i := 10) sc_right.nd rfl (Or.inl rfl)) (pgs_nil)))) (fun _ _ _ _ _ => pts_nil) (fun _ _ _ _ _ => pv 10)) (pa_nil))) (pa_nil))) (nomark _)) (pss_one (ps_ret (pe_bl))) (pss_nil))
      (pss_cons (ps_set (i := 11) sc_right.nd rfl (Or.inl rfl) (pe_call (ok_by_multiple T) (hr.mono (by decide)) rfl T.m_by_multiple T.F_by_multiple.kp (b_by_multiple T) .nil pass0 (pa_cons (pe_lc (own := [("_law_top", 9), ("_law_bottom", 10)]) (tt := tYes) rfl sc_right.nd (pi_list (pv 6)) (blkOk_by (own := [("_law_top", 9), ("_law_bottom", 10)]) (N := ["_law_pen_here", "_law_period_here", "_law_slip", "_law_many", "_law_gears_here", "_law_train_here", "_law_periods_here", "_law_slips", "_law_gear", "_law_top", "_law_bottom", "_law_again", "_law_part", "_law_at", "_law_great", "_law_value"]) (sc := defScope s_right) (by decide +kernel)) (fun _ _ _ _ _ => pg_tup2 K 2 (by rfl) (by rfl) (pgs_cons (pg_name (i := 9) sc_right.nd rfl (Or.inl rfl)) (pgs_cons (pg_name (i := 10) sc_right.nd rfl (Or.inl rfl)) (pgs_nil)))) (fun _ _ _ _ _ => pts_nil) (fun _ _ _ _ _ => pv 9)) (pa_nil))))
      (pss_cons (ps_if (PW.pt (pw_or (pt_cmpR op_ne (pe_callB (call_rep gu hr.units) (by rfl) T.n_repr (by decide +kernel) (pa_cons (pe_propW (pv 5) T.p_again (ok_Train_again T) (hr.mono (by decide)) (b_Train_again T) .nil pass0 rfl) (pa_nil))) (pe_callB (call_rep gu hr.units) (by rfl) T.n_repr (by decide +kernel) (pa_cons (pv 11) (pa_nil))) (nomark _)) (pw_or1 (pt_cmpR op_ne (pe_callB (call_rep gu hr.units) (by rfl) T.n_repr (by decide +kernel) (pa_cons (pe_lc (own := [("_law_part", 12)]) (g := gName 12) (tt := tYes) rfl sc_right.nd ((pi_ownT (pv 5) (ok_Train_iter T) (hr.mono (by decide)) pass0 T.fi_iter T.fn_iter)) (blkOk_by (own := [("_law_part", 12)]) (N := ["_law_pen_here", "_law_period_here", "_law_slip", "_law_many", "_law_gears_here", "_law_train_here", "_law_periods_here", "_law_slips", "_law_gear", "_law_top", "_law_bottom", "_law_again", "_law_part", "_law_at", "_law_great", "_law_value"]) (sc := defScope s_right) (by decide +kernel)) (fun _ _ _ _ _ => pg_name (i := 12) sc_right.nd rfl (Or.inl rfl)) (fun _ _ _ _ _ => pts_nil) (fun _ _ _ _ _ => pv 12)) (pa_nil))) (pe_callB (call_rep gu hr.units) (by rfl) T.n_repr (by decide +kernel) (pa_cons (pv 6) (pa_nil))) (nomark _))))) (pss_one (ps_ret (pe_bl))) (pss_nil))
      (pss_cons (ps_if (pt_cmpR op_ne (pe_callB (call_rep gu hr.units) (by rfl) T.n_repr (by decide +kernel) (pa_cons (pe_lc (own := [("_law_at", 13)]) (g := gName 13) (tt := tYes) rfl sc_right.nd (pi_range1 (by rfl) T.n_range (pa_cons (pe_op op_add (pv 3) (pe_int)) (pa_nil))) (blkOk_by (own := [("_law_at", 13)]) (N := ["_law_pen_here", "_law_period_here", "_law_slip", "_law_many", "_law_gears_here", "_law_train_here", "_law_periods_here", "_law_slips", "_law_gear", "_law_top", "_law_bottom", "_law_again", "_law_part", "_law_at", "_law_great", "_law_value"]) (sc := defScope s_right) (by decide +kernel)) (fun _ _ _ _ _ => pg_name (i := 13) sc_right.nd rfl (Or.inl rfl)) (fun _ _ _ _ _ => pts_nil) (fun _ _ _ _ _ => pe_ixOK K (by rfl) (ok_Train_getitem T) (hr.mono (by decide)) (b_Train_getitem T) pass0 T.fi_get (fnIn_of T.F_Train_getitem) T.fn_get (pv 5) (pv 13))) (pa_nil))) (pe_callB (call_rep gu hr.units) (by rfl) T.n_repr (by decide +kernel) (pa_cons (pv 6) (pa_nil))) (nomark _)) (pss_one (ps_ret (pe_bl))) (pss_nil))
      (pss_cons (ps_set (i := 14) sc_right.nd rfl (Or.inl rfl) (pe_op op_sub (pe_call (ok_draw T) (hr.mono (by decide)) rfl T.m_draw T.F_draw.kp (b_draw T) .nil pass0 (pa_cons (pv 0) (pa_cons (pe_op op_pow (pe_int) (pe_int)) (pa_nil)))) (pe_call (ok_draw T) (hr.mono (by decide)) rfl T.m_draw T.F_draw.kp (b_draw T) .nil pass0 (pa_cons (pv 0) (pa_cons (pe_op op_pow (pe_int) (pe_int)) (pa_nil))))))
      (pss_cons (ps_for PassesOwn.never rfl (pi_list (pe_lst (pa_cons (pe_call (ok_draw T) (hr.mono (by decide)) rfl T.m_draw T.F_draw.kp (b_draw T) .nil pass0 (pa_cons (pv 0) (pa_cons (pe_int) (pa_nil)))) (pa_cons (pv 14) (pa_cons (pe_op op_sub (pe_un un_neg (pe_int)) (pe_call (ok_draw T) (hr.mono (by decide)) rfl T.m_draw T.F_draw.kp (b_draw T) .nil pass0 (pa_cons (pv 0) (pa_cons (pe_int) (pa_nil))))) (pa_cons (pv 11) (pa_cons (pe_op op_mulW (pe_un un_neg (pe_int)) (pv 11)) (pa_cons (pe_op op_add (pv 11) (pe_int)) (pa_nil))))))))) (pg_name (i := 15) sc_right.nd rfl (Or.inl rfl)) (pss_one (ps_if (pt_cmpR op_ne (pe_callB (call_rep gu hr.units) (by rfl) T.n_repr (by decide +kernel) (pa_cons (pe_meth (pv 5) T.tcls T.t_stands (ok_Train_stands T) (hr.mono (by decide)) (b_Train_stands T) .nil pass0 (pa_cons (pv 15) (pa_nil))) (pa_nil))) (pe_callB (call_rep gu hr.units) (by rfl) T.n_repr (by decide +kernel) (pa_cons (pe_call (ok_stands T) (hr.mono (by decide)) rfl T.m_stands T.F_stands.kp (b_stands T) .nil pass0 (pa_cons (pv 6) (pa_cons (pv 15) (pa_nil)))) (pa_nil))) (nomark _)) (pss_one (ps_ret (pe_bl))) (pss_nil))))
      (pss_one (ps_ret (pe_callG gu (ok_told_alike T) (hr.mono (by decide)) T.F_told_alike.kp rfl T.m_told_alike pass0 (pa_cons (pv 0) (pa_cons (pv 5) (pa_cons (pe_tup (pa_cons (pv 1) (pa_cons (pv 2) (pa_cons (pv 4) (pa_nil))))) (pa_nil))))))))))))))))), ?_⟩
    refine ⟨_, rfl, p, n, rfl, hP, by omega, fun pi H1 p1 p2 f1 hP1 => ⟨_, rfl, p, n + 3, rfl, hP1, by omega, fun sv t H2 hsv ht f2 hP2 => ⟨_, rfl, p, 7, n + 8, rfl, by decide, by decide, hP2, by omega, fun r H3 r0 r1 hP3 f3 => ⟨_, _, _, rfl, ?_⟩⟩⟩⟩
    obtain ⟨m, rfl⟩ := Int.eq_ofNat_of_zero_le r0
    refine ⟨_, rfl, _, rfl, p, n + 9, m, rfl, by omega, hP3, by omega, fun Lg xs gs n' H4 hLg0 nLp hLg hA hlen hG f4 hP4 hn' => ?_⟩
    have hsv4 := dp_kp ((kp_fr hP2 f3).trans (kp_fr hP3 f4)) _ _ (nl_fr _) hsv
    have hok : NG.TrOk pi t gs := ⟨⟨p1, p2⟩, ht, hG, by omega⟩
    refine ⟨_, rfl, _, rfl, _, rfl, pi, sv, t, Lg, xs, gs, rfl, hsv4, hLg, hA, hok, fun x H5 s5 tr5 => ⟨_, rfl, _, rfl, pi, Lg, xs, gs, rfl, s5 _ _ hLg, dp_sameAll s5 _ _ hA, ⟨p1, p2⟩, hG, by omega, fun q ys H6 hq0 s6 hys hD => ⟨(by show 2 ≤ sizeLine; decide), fun tp htp => ⟨tp, _, rfl, SqT.of upd_same, rfl, _, _, rfl, _, _, rfl, rfl, ?_⟩⟩⟩⟩
    obtain ⟨sa, esv, hSl⟩ := dp_fr hsv4
    have stp := same_new (o := .tup [.ref x, .ref q]) htp
    have s46 := (s5.trans s6).trans stp
    have tr6 := (tr5.same s6).same stp
    have hys6 := stp _ _ hys
    have hD6 := dp_sameAll stp _ _ hD
    have hP6 := hP4.same s46
    generalize upd H6 tp (.tup [.ref x, .ref q]) = G6 at s46 tr6 hys6 hD6 hP6 ⊢
    obtain ⟨t1, t2, t3, t4⟩ := ht
    refine ⟨_, rfl, sa, _, 0, .int t.1, esv, rfl, SqT.same s46 hSl, rfl, _, rfl, sa, _, 1, .int t.2, esv, rfl, SqT.same s46 hSl, rfl, t.1, t.2, rfl, t1, by omega, by omega, fun q1 H7 hq1 s7 h7 => ⟨(by show 1 ≤ sizeLine; decide), fun l1 hl1 => ?_⟩⟩
    have sl1 := same_new (o := .lst [.ref q1]) hl1
    have el1 : upd H7 l1 (.lst [.ref q1]) l1 = some (.lst [.ref q1]) := upd_same
    have h7 := sl1 _ _ h7
    have s67 := s7.trans sl1
    generalize upd H7 l1 (.lst [.ref q1]) = G7 at el1 h7 s67 ⊢
    have s47 := s46.trans s67
    refine ⟨_, rfl, Lg, rfl, ⟨_, SqL.of (s47 _ _ hLg)⟩, fun D hD => lc_dpL (ts := gs) (f := grD) (r := fun g => frD (NG.lowF g.s)) hD (by omega) (SqL.of (s47 _ _ hLg)) (dp_sameAll s47 _ _ hA) (fun _ => rfl) ?_ ?_⟩
    · rintro i g y G Qy Qn sG hg hy hgd kk
      obtain ⟨ga, u, rfl, hGa, hu⟩ := dp_gr hgd
      obtain ⟨ua, rfl, hU⟩ := dp_fr hu
      obtain ⟨w1, w2, w3, w4⟩ := hok.g.frs g (List.mem_of_getElem? hg)
      refine ⟨rfl, _, rfl, ga, _, 3, .ref ua, rfl, rfl, hGa, rfl, ua, _, 0, .int g.s.1, rfl, rfl, hU, rfl, _, rfl, ga, _, 3, .ref ua, rfl, rfl, hGa, rfl, ua, _, 1, .int g.s.2, rfl, rfl, hU, rfl, g.s.1, g.s.2, rfl, w1, by omega, by omega, fun z H2 hz s2 h2 => kk _ _ s2 (fr_dp (t := NG.lowF g.s) (SqT.of h2))⟩
    · rintro G8 zs sG8 hzs hDz
      have lzs : zs.length = gs.length := by rw [dpAll_len hDz, List.length_map]
      refine ⟨l1, D, [.ref q1], zs, rfl, rfl, sG8 _ _ el1, hzs, (by rw [lzs, sizeLine_eq]; show 1 + gs.length ≤ _; omega), fun ls hls => ?_⟩
      have sls := same_new (o := .lst ([.ref q1] ++ zs)) hls
      have els : upd G8 ls (.lst ([.ref q1] ++ zs)) ls = some (.lst (.ref q1 :: zs)) := upd_same
      have s68 := (s67.trans sG8).trans sls
      have s48 := s46.trans s68
      have hDs : DpAll K (upd G8 ls (.lst ([.ref q1] ++ zs))) (.ref q1 :: zs) ((NG.slps (NG.lowF t) (gs.map NG.Gr.nrm)).map frD) := by
        refine .cons (fr_dp (t := NG.lowF t) (SqT.of (sls _ _ (sG8 _ _ h7)))) ?_
        rw [List.map_map, List.map_map]
        exact dp_sameAll sls _ _ hDz
      have tr8 := tr6.same s68
      have hys8 := s68 _ _ hys6
      have hD8 := dp_sameAll s68 _ _ hD6
      have hP8 := hP6.same s68
      generalize upd G8 ls (.lst ([.ref q1] ++ zs)) = G at els s48 hDs tr8 hys8 hD8 hP8 ⊢
      generalize (V.ref q1 :: zs) = ss at els hDs
      obtain ⟨dx, ag, ap, as, hx8, _, ⟨xp, hSp, hAp⟩, ⟨xs2, hSs, hAs⟩⟩ := tr8.fld
      have hPer : ∀ u ∈ NG.pers pi gs, FrS u := fun u hu => frS_big (NG.pers_big hok.p hok.g hok.l u hu)
      have hSlp : ∀ u ∈ NG.slps (NG.lowF t) (gs.map NG.Gr.nrm), FrS u := fun u hu => frS_ok (hok.nrm.slp u hu)
      have lPer : (NG.pers pi gs).length ≤ 7 := by rw [NG.pers_len]; omega
      have lSlp : (NG.slps (NG.lowF t) (gs.map NG.Gr.nrm)).length ≤ 7 := by unfold NG.slps; rw [List.length_cons, List.length_map, List.length_map]; omega
      obtain ⟨sh1, sh2, sh3⟩ := shows_two hPer hSlp lPer lSlp
      rw [NG.pers_nrm] at hAp
      refine ⟨_, rfl, x, T.a_Train, dx, _, _, rfl, hx8, T.tcls, T.t_na _ (by simp), rfl, _, rfl, x, T.a_Train, dx, _, _, rfl, hx8, T.tcls, T.t_na _ (by simp), rfl, (by show 2 ≤ sizeLine; decide), fun a1 ha1 => ?_⟩
      have sa1 := same_new (o := .tup [.ref ap, .ref as]) ha1
      refine ⟨.ref a1, .tuple [.tuple ((NG.pers pi gs).map frD), .tuple ((NG.slps (NG.lowF t) (gs.map NG.Gr.nrm)).map frD)], rfl, .dp (.tup (SqT.of upd_same) (.cons (dp_same sa1 _ _ (.tup hSp hAp)) (.cons (dp_same sa1 _ _ (.tup hSs hAs)) .nil))), sh1, sh2, sh3, ?_⟩
      refine ⟨_, rfl, q, ys, rfl, .inl ⟨SqL.of (sa1 _ _ hys8), fun a2 ha2 => ⟨_, rfl, ls, ss, rfl, .inl ⟨SqL.of (same_new (o := .tup ys) ha2 _ _ (sa1 _ _ els)), fun a3 ha3 => ⟨(by show 2 ≤ sizeLine; decide), fun a4 ha4 => ?_⟩⟩⟩⟩⟩
      have sa2 := same_new (o := .tup ys) ha2
      have sa3 := same_new (o := .tup ss) ha3
      have sa4 := same_new (o := .tup [.ref a2, .ref a3]) ha4
      have e2 := sa4 _ _ (sa3 _ _ (upd_same (H := upd G a1 (.tup [.ref ap, .ref as])) (a := a2) (o := .tup ys)))
      have sG9 := ((sa1.trans sa2).trans sa3).trans sa4
      refine ⟨.ref a4, .tuple [.tuple ((NG.pers pi gs).map frD), .tuple ((NG.slps (NG.lowF t) (gs.map NG.Gr.nrm)).map frD)], rfl, .dp (.tup (SqT.of upd_same) (.cons (.tup (SqT.of e2) (dp_sameAll sG9 _ _ hD8)) (.cons (.tup (SqT.of (sa4 _ _ upd_same)) (dp_sameAll sG9 _ _ hDs)) .nil))), sh1, sh2, sh3, rfl, _, rfl, if_false_of (ne_str _) ?_⟩
      generalize upd (upd (upd (upd G a1 (.tup [.ref ap, .ref as])) a2 (.tup ys)) a3 (.tup ss)) a4 (.tup [.ref a2, .ref a3]) = G9 at sG9 ⊢
      refine ⟨_, rfl, x, dx, _, rfl, sG9 _ _ hx8, x, pi, _, _, rfl, tr8.same sG9, _, rfl, by omega, by rw [List.length_map]; omega, _, rfl, _, _, rfl, rfl, rfl, _, rfl, if_false_of ?_ ?_⟩
      · rw [decide_eq_true (congrArg V.int (by rw [List.length_map, hlen]; rfl))]
        rfl
      have hBnd : ∀ z ∈ (NG.pers pi gs ++ NG.slps (NG.lowF t) (gs.map NG.Gr.nrm)).map (fun u => u.2), 0 < z ∧ z.natAbs < 2 ^ 100 := by
        intro z hz
        obtain ⟨u, hu, rfl⟩ := List.mem_map.mp hz
        rcases List.mem_append.mp hu with hu | hu
        · obtain ⟨_, _, y1, y2⟩ := NG.pers_big hok.p hok.g hok.l u hu
          omega
        · obtain ⟨_, _, y1, y2⟩ := hok.nrm.slp u hu
          omega
      have hBnd1 : ∀ z ∈ (NG.pers pi gs).map (fun u => u.1), 0 < z ∧ z.natAbs < 2 ^ 100 := by
        intro z hz
        obtain ⟨u, hu, rfl⟩ := List.mem_map.mp hz
        obtain ⟨y1, y2, _, _⟩ := NG.pers_big hok.p hok.g hok.l u hu
        omega
      have hU : NG.unitT pi (NG.lowF t) (gs.map NG.Gr.nrm) = ((NM.lcmL ((NG.pers pi gs ++ NG.slps (NG.lowF t) (gs.map NG.Gr.nrm)).map (fun u => u.2)) : Nat) : Int) := by
        unfold NG.unitT
        rw [NG.pers_nrm]
      have lAll : (NG.pers pi gs ++ NG.slps (NG.lowF t) (gs.map NG.Gr.nrm)).length ≤ 14 := by rw [List.length_append]; omega
      have sU := lcm_small hBnd (by rw [List.length_map]; exact lAll)
      obtain ⟨i1, i2, i3⟩ := shows_int (Nat.lt_of_lt_of_le sU (Nat.pow_le_pow_right (by decide) (by decide)))
      have lys : ys.length = (NG.pers pi gs).length := by rw [dpAll_len hD8, List.length_map]
      have lss : ss.length = (NG.slps (NG.lowF t) (gs.map NG.Gr.nrm)).length := by rw [dpAll_len hDs, List.length_map]
      refine ⟨_, rfl, x, T.a_Train, dx, _, _, rfl, sG9 _ _ hx8, T.tcls, T.t_na _ (by simp), rfl, .int _, .int _, rfl, .dp (.int _), by rw [hU]; exact i1, by rw [hU]; exact i2, by rw [hU]; exact i3, ?_⟩
      refine ⟨_, rfl, _, rfl, q, ls, ys, ss, rfl, rfl, sG9 _ _ hys8, sG9 _ _ els, by rw [lys, lss, sizeLine_eq]; omega, fun cw hcw => ?_⟩
      have scw := same_new (o := .lst (ys ++ ss)) hcw
      have sG10 := sG9.trans scw
      have hAll : DpAll K (upd G9 cw (.lst (ys ++ ss))) (ys ++ ss) ((NG.pers pi gs ++ NG.slps (NG.lowF t) (gs.map NG.Gr.nrm)).map frD) := by
        rw [List.map_append]
        exact dpAll_app (dp_sameAll sG10 _ _ hD8) (dp_sameAll sG10 _ _ hDs)
      have ecw : upd G9 cw (.lst (ys ++ ss)) cw = some (.lst (ys ++ ss)) := upd_same
      generalize upd G9 cw (.lst (ys ++ ss)) = G10 at sG10 hAll ecw ⊢
      refine ⟨cw, rfl, ⟨_, SqL.of ecw⟩, fun D1 hD1 => lc_dpL (ts := NG.pers pi gs ++ NG.slps (NG.lowF t) (gs.map NG.Gr.nrm)) (f := frD) (r := fun u => .int u.2) hD1 (by omega) (SqL.of ecw) hAll (fun _ => rfl) ?_ ?_⟩
      · rintro i u y G Qy Qn sG hg hy hgd kk
        obtain ⟨ua, rfl, hUa⟩ := dp_fr hgd
        exact ⟨ua, _, rfl, hUa, rfl, _, _, rfl, _, _, rfl, rfl, rfl, _, rfl, kk _ _ (fun _ _ e => e) (.int _)⟩
      · rintro G11 vs11 s11 hv11 hD11
        have e11 := dp_intsEq hD11
        subst e11
        refine ⟨D1, _, rfl, SqL.of hv11, hBnd, by rw [List.length_map]; omega, .int _, .int _, rfl, .dp (.int _), i1, i2, i3, ?_⟩
        rw [hU]
        refine ⟨rfl, _, rfl, if_false_of (ne_str _) ?_⟩
        have sG11 := sG10.trans s11
        refine ⟨_, rfl, q, rfl, ⟨_, SqL.of (sG11 _ _ hys8)⟩, fun D2 hD2 => lc_dpL (ts := NG.pers pi gs) (f := frD) (r := fun u => .int u.1) hD2 (by omega) (SqL.of (sG11 _ _ hys8)) (dp_sameAll sG11 _ _ hD8) (fun _ => rfl) ?_ ?_⟩
        · rintro i u y G Qy Qn sG hg hy hgd kk
          obtain ⟨ua, rfl, hUa⟩ := dp_fr hgd
          exact ⟨ua, _, rfl, hUa, rfl, _, _, rfl, _, _, rfl, rfl, rfl, _, rfl, kk _ _ (fun _ _ e => e) (.int _)⟩
        · rintro G12 vs12 s12 hv12 hD12
          have e12 := dp_intsEq hD12
          subst e12
          have sG12 := sG11.trans s12
          refine ⟨D2, _, rfl, SqL.of hv12, hBnd1, by rw [List.length_map]; omega, ?_⟩
          have hAG : NG.againT pi (gs.map NG.Gr.nrm) = ((NM.lcmL ((NG.pers pi gs).map (fun u => u.1)) : Nat) : Int) := by
            unfold NG.againT
            rw [NG.pers_nrm]
          have sAG := lcm_small hBnd1 (by rw [List.length_map]; omega)
          obtain ⟨j1, j2, j3⟩ := shows_int (Nat.lt_of_lt_of_le sAG (Nat.pow_le_pow_right (by decide) (by decide)))
          have shL := shows_lst hPer lPer
          have nqp : q ≠ p := (hP4.same s5).neq hq0
          have e11 : ((NG.pers pi gs).map (fun u => u.1)) = (NG.pers pi gs).map Prod.fst := rfl
          rw [← e11]
          generalize hag : ((NM.lcmL ((NG.pers pi gs).map (fun u => u.1)) : Nat) : Int) = AG at hAG sAG j1 j2 j3 ⊢
          refine ⟨_, rfl, x, T.a_Train, dx, _, rfl, sG12 _ _ hx8, T.tcls, T.pr_again, x, pi, _, _, rfl, tr8.same sG12, hok.nrm, fun G13 s13 => ?_⟩
          rw [hAG]
          refine ⟨.int _, .int _, rfl, .dp (.int _), j1, j2, j3, ?_⟩
          refine ⟨_, rfl, .int _, .int _, rfl, .dp (.int _), j1, j2, j3, rfl, _, rfl, if_false_of (ne_str _) ?_⟩
          have sG13 := sG12.trans s13
          refine ⟨_, rfl, x, dx, _, rfl, sG13 _ _ hx8, fun nn => ⟨x, pi, _, _, ap, xp, rfl, tr8.same sG13, ⟨dx, ag, as, _, sG13 _ _ hx8⟩, SqT.same sG13 hSp, fun it hit hn => ⟨it, ap, rfl, hn, upd_same, ?_⟩⟩⟩
          have sdr := same_drop (o := ItTO ap it) hit
          generalize ItX.dropH (upd G13 it (ItTO ap it)) it = G14 at sdr ⊢
          have sG14 := sG13.trans sdr
          intro D3 hD3
          refine lc_dpT (ts := NG.pers pi gs) (f := frD) (r := frD) hD3 (by omega) (SqT.same sG14 hSp) (dp_sameAll sG14 _ _ hAp) (fun _ => rfl) ?_ ?_
          · rintro i u y G Qy Qn sG hg hy hgd kk
            exact ⟨rfl, _, rfl, kk _ _ (fun _ _ e => e) hgd⟩
          · rintro G15 vs15 s15 hv15 hD15
            have sG15 := sG14.trans s15
            refine ⟨.ref D3, .list ((NG.pers pi gs).map frD), rfl, .dp (.lst (SqL.of hv15) hD15), shL.1, shL.2.1, shL.2.2, ?_⟩
            refine ⟨_, rfl, .ref q, .list ((NG.pers pi gs).map frD), rfl, .dp (.lst (SqL.of (sG15 _ _ hys8)) (dp_sameAll sG15 _ _ hD8)), shL.1, shL.2.1, shL.2.2, rfl, _, rfl, if_false_of (ne_str _) ?_⟩
            refine ⟨_, rfl, _, _, rfl, rfl, (m : Int) + 1, rfl, by omega, by omega, fun D4 hD4 => ?_⟩
            have hnat : ((m : Int) + 1).toNat = (NG.pers pi gs).length := by rw [NG.pers_len, hlen]; omega
            rw [hnat]
            refine lc_range (lo := 0) (n := (NG.pers pi gs).length) (fun i H' => Same G15 H' ∧ ∃ zs, H' D4 = some (.lst zs) ∧ DpAll K H' zs (((NG.pers pi gs).take i).map frD)) ⟨same_new hD4, _, upd_same, by rw [List.take_zero]; exact .nil⟩ ?_ ?_
            · rintro i H' hi ⟨s', zs', hz', hDz'⟩
              have hu : (NG.pers pi gs)[i]? = some (NG.pers pi gs)[i] := List.getElem?_eq_getElem hi
              have s16 := sG15.trans s'
              refine ⟨rfl, _, rfl, _, rfl, x, dx, _, rfl, s16 _ _ hx8, x, i, pi, _, _, (NG.pers pi gs)[i], by rw [Int.zero_add], tr8.same s16, by rw [NG.pers_nrm]; exact hu, fun v hv => ⟨zs', hz', ?_, fun b o e => ?_, _, upd_same, ?_⟩⟩
              · rw [dpAll_len hDz', List.length_map, List.length_take, sizeLine_eq]
                omega
              · rw [upd_ne (ne_of_none e hD4)]
                exact s' _ _ e
              · have kp := kp_upd (o := .lst (zs' ++ [v])) hz'
                rw [NM.take_snoc hu, List.map_append]
                exact dpAll_app (dp_kpAll kp _ _ (nl_all nl_fr _) hDz') (.cons (dp_kp kp _ _ (nl_fr _) hv) .nil)
            · rintro G16 ⟨s', zs', hz', hDz'⟩
              rw [List.take_length] at hDz'
              have sG16 := sG15.trans s'
              refine ⟨.ref D4, .list ((NG.pers pi gs).map frD), rfl, .dp (.lst (SqL.of hz') hDz'), shL.1, shL.2.1, shL.2.2, ?_⟩
              refine ⟨_, rfl, .ref q, .list ((NG.pers pi gs).map frD), rfl, .dp (.lst (SqL.of (sG16 _ _ hys8)) (dp_sameAll sG16 _ _ hD8)), shL.1, shL.2.1, shL.2.2, rfl, _, rfl, if_false_of (ne_str _) ?_⟩
              have hP16 := hP8.same sG16
              have pw : CPow 10 60 := ⟨by decide, by decide, by decide⟩
              have e60 : (10 : Int) ^ (60 : Int).toNat = 1000000000000000000000000000000000000000000000000000000000000 := by decide
              refine ⟨_, rfl, _, _, rfl, rfl, pw, p, _, n', rfl, by rw [e60]; decide, by rw [e60]; decide, hP16, by omega, fun r1 G17 r10 r11 hP17 f17 => ?_⟩
              refine ⟨_, rfl, _, _, rfl, rfl, pw, p, _, n' + 1, rfl, by rw [e60]; decide, by rw [e60]; decide, hP17, by omega, fun r2 G18 r20 r21 hP18 f18 => ⟨_, _, rfl, rfl, ?_⟩⟩
              rw [e60] at r11 r21
              have c2 : CMulW (-2) AG := wide_mul (a := 10) (b := 1450) (by decide) sAG (by decide) (by decide) (by decide)
              refine ⟨_, rfl, p, 1000, n' + 2, rfl, by decide, by decide, hP18, by omega, fun r3 G19 r30 r31 hP19 f19 => ?_⟩
              refine ⟨_, rfl, _, rfl, _, rfl, p, 1000, n' + 3, rfl, by decide, by decide, hP19, by omega, fun r4 G20 r40 r41 hP20 f20 => ⟨_, _, rfl, rfl, ?_⟩⟩
              refine ⟨_, rfl, _, rfl, _, rfl, rI_mulW rfl c2 ⟨_, rfl, _, _, rfl, rfl, (by show 6 ≤ sizeLine; decide), fun L6 hL6 => ?_⟩⟩
              have fD := ((f17.trans f18).trans f19).trans f20
              have kpD := kp_fr hP16 fD
              have s416 := s48.trans sG16
              have sL6 := same_new (o := .lst [.int r3, .int (r1 - r2), .int (-1 - r4), .int AG, .int (-2 * AG), .int (AG + 1)]) hL6
              have eL6 : upd G20 L6 (.lst [.int r3, .int (r1 - r2), .int (-1 - r4), .int AG, .int (-2 * AG), .int (AG + 1)]) L6 = some (.lst [.int r3, .int (r1 - r2), .int (-1 - r4), .int AG, .int (-2 * AG), .int (AG + 1)]) := upd_same
              have trE := ((tr8.same sG16).kp kpD).same sL6
              have hysE := sL6 _ _ (fD q _ nqp (sG16 _ _ hys8))
              have hDE := dp_sameAll sL6 _ _ (dp_kpAll kpD _ _ (nl_all nl_fr _) (dp_sameAll sG16 _ _ hD8))
              have hLgE := sL6 _ _ (fD Lg _ nLp (s416 _ _ hLg))
              have hAE := dp_sameAll sL6 _ _ (dp_kpAll kpD _ _ (nl_all nl_gr _) (dp_sameAll s416 _ _ hA))
              have hsvE := dp_same sL6 _ _ (dp_kp kpD _ _ (nl_fr _) (dp_same s416 _ _ hsv4))
              have hPE := hP20.same sL6
              have hv6 : ∀ v ∈ ([.int r3, .int (r1 - r2), .int (-1 - r4), .int AG, .int (-2 * AG), .int (AG + 1)] : List V), ∃ i, v = .int i ∧ i.natAbs < 2 ^ 1500 := by
                have w1 : (1000000000000000000000000000000000000000000000000000000000000 : Nat) < 2 ^ 1500 := by decide +kernel
                have w2 : (2 : Nat) * 2 ^ 1450 ≤ 2 ^ 1500 := by decide +kernel
                intro v hv
                simp only [List.mem_cons, List.not_mem_nil, or_false] at hv
                rcases hv with rfl | rfl | rfl | rfl | rfl | rfl
                · exact ⟨_, rfl, Nat.lt_of_le_of_lt (by omega) w1⟩
                · exact ⟨_, rfl, Nat.lt_of_le_of_lt (by omega) w1⟩
                · exact ⟨_, rfl, Nat.lt_of_le_of_lt (by omega) w1⟩
                · exact ⟨_, rfl, Nat.lt_of_lt_of_le sAG (Nat.le_trans (Nat.le_mul_of_pos_left _ (by decide)) w2)⟩
                · refine ⟨_, rfl, Nat.lt_of_lt_of_le ?_ w2⟩
                  rw [Int.natAbs_mul]
                  exact Nat.mul_lt_mul_of_pos_left sAG (by decide)
                · refine ⟨_, rfl, Nat.lt_of_lt_of_le ?_ w2⟩
                  have : (AG + 1).natAbs ≤ AG.natAbs + 1 := by omega
                  generalize (2 : Nat) ^ 1450 = Z at sAG
                  omega
              generalize upd G20 L6 (.lst [.int r3, .int (r1 - r2), .int (-1 - r4), .int AG, .int (-2 * AG), .int (AG + 1)]) = GE at eL6 trE hysE hDE hLgE hAE hsvE hPE ⊢
              generalize ([.int r3, .int (r1 - r2), .int (-1 - r4), .int AG, .int (-2 * AG), .int (AG + 1)] : List V) = vs6 at eL6 hv6
              refine ⟨L6, rfl, ⟨_, SqL.of eL6⟩, for_list (K := K) (a := L6) (xs := vs6) (fun i σ H' => Same GE H' ∧ ∃ v15 : Option V, σ = [some (.ref p), some (.int pi), some sv, some (.int (m : Nat)), some (.ref Lg), some (.ref x), some (.ref q), some (.ref ls), Option.none, Option.none, Option.none, some (.int AG), Option.none, Option.none, some (.int (r1 - r2)), v15]) ⟨fun _ _ e => e, _, rfl⟩ (fun i σ H' _ z => SqL.of (z.1 _ _ eL6)) ?_ ?_⟩
              · rintro i v σ H' hv ⟨s', v15, rfl⟩
                obtain ⟨w, rfl, hw⟩ := hv6 v (List.mem_of_getElem? hv)
                have tr' := trE.same s'
                obtain ⟨dx', ag', ap', as', hx', _, _, _⟩ := tr'.fld
                have hst : ∀ u ∈ (NG.pers pi gs).map fun u => NG.low ((w * u.2).fmod u.1) u.2, FrS u := by
                  intro z hz
                  obtain ⟨u, hu, rfl⟩ := List.mem_map.mp hz
                  obtain ⟨y1, y2, y3, y4⟩ := NG.pers_big hok.p hok.g hok.l u hu
                  have fm := fmod_pos (x := w * u.2) y1
                  exact frS_low fm.1 y3 (by omega) y4
                have shS := shows_tup hst (by rw [List.length_map]; exact lPer)
                refine ⟨_, rfl, x, dx', _, rfl, hx', rfl, _, rfl, x, w, pi, _, _, rfl, tr', hok.nrm, hw, fun z1 H2 s2 hz1 => ?_⟩
                rw [NG.pers_nrm] at hz1
                refine ⟨.ref z1, _, rfl, .dp hz1, shS.1, shS.2.1, shS.2.2, ?_⟩
                refine ⟨_, rfl, _, rfl, q, ys, w, NG.pers pi gs, rfl, s2 _ _ (s' _ _ hysE), dp_sameAll (s'.trans s2) _ _ hDE, lPer, NG.pers_big hok.p hok.g hok.l, hw, fun z2 H3 s3 hz2 => ?_⟩
                refine ⟨.ref z2, _, rfl, .dp hz2, shS.1, shS.2.1, shS.2.2, rfl, _, rfl, if_false_of (ne_str _) ?_⟩
                exact ⟨(s'.trans s2).trans s3, _, rfl⟩
              · rintro σ H' ⟨s', v15, rfl⟩
                refine ⟨_, rfl, _, rfl, _, rfl, _, rfl, _, rfl, (by show 3 ≤ sizeLine; decide), fun tq htq => ?_⟩
                have stq := same_new (o := .tup [.int pi, sv, .ref Lg]) htq
                have sE := s'.trans stq
                exact ⟨p, x, tq, Lg, n' + 4, pi, sv, t, gs, xs, rfl, hPE.same sE, by omega, trE.same sE, SqT.of upd_same, dp_same sE _ _ hsvE, sE _ _ hLgE, nLp, dp_sameAll sE _ _ hAE, hok, fun H2 n2 hP2 hn2 => k H2 n2 hP2 (by omega)⟩

def spLaw (K : PySem.W.Frag) : Sp := fun vs H Q _ => ∃ (a : Addr) (ns : List Int), vs = [.ref a] ∧ SqL K H a (ns.map V.int) ∧ ns.length ≤ 63 ∧ ∀ H', Q (.bl true) H'
def gA : NG.Gr := ⟨0, 4, 3, (0, 1)⟩
theorem okA : NG.TrOk 10 (1, 4) [gA] := ⟨by decide, by unfold NG.FrOk; decide, ⟨⟨by decide, by decide, by decide, by decide, by decide, by decide, by unfold NG.FrOk; decide⟩, trivial⟩, by decide⟩
theorem okB : NG.TrOk 7 (0, 1) [] := ⟨by decide, by unfold NG.FrOk; decide, trivial, by decide⟩
theorem persA : NG.pers 10 ([gA].map NG.Gr.nrm) = [(10, 1), (15, 2)] := by decide +kernel
theorem persB : NG.pers 7 (([] : List NG.Gr).map NG.Gr.nrm) = [(7, 1)] := by decide +kernel
theorem slpB : NG.slps (NG.lowF (0, 1)) (([] : List NG.Gr).map NG.Gr.nrm) = [(0, 1)] := by decide +kernel
theorem unitA : NG.unitT 10 (NG.lowF (1, 4)) ([gA].map NG.Gr.nrm) = 4 := by decide +kernel
theorem unitB : NG.unitT 7 (NG.lowF (0, 1)) (([] : List NG.Gr).map NG.Gr.nrm) = 1 := by decide +kernel
theorem againA : NG.againT 10 ([gA].map NG.Gr.nrm) = 30 := by decide +kernel
theorem againB : NG.againT 7 (([] : List NG.Gr).map NG.Gr.nrm) = 7 := by decide +kernel
theorem standA : ([(10, 1), (15, 2)] : List NG.Fr).map (fun u => NG.low ((22 * u.2).fmod u.1) u.2) = [(2, 1), (7, 1)] := by decide +kernel
theorem standB : ([(7, 1)] : List NG.Fr).map (fun u => NG.low ((-1 * u.2).fmod u.1) u.2) = [(6, 1)] := by decide +kernel
def toldD : List PyData := [.tuple [frD (10, 1), frD (15, 2)], .int 4, .tuple [frD (2, 1), frD (7, 1)], .int 30, .tuple [frD (0, 1)], .int 1, .int 7, .tuple [frD (6, 1)]]
theorem ok_law (T : Txt K mg) : FnG P w K mg base CX0 22 T.a_law (spLaw K) := by
  refine FnG.mk0 T.F_law sc_law (b_law T) (fun vs H Q E h => ?_) (fun cdv A outer s H vs Q E gu hr h => ?_)
  · obtain ⟨a, ns, rfl, _⟩ := h; rfl
  · obtain ⟨a, ns, rfl, hS, hl, k⟩ := h
    refine ⟨_, pss_cons (ps_set (i := 1) sc_law.nd rfl (Or.inl rfl) (pe_call (ok_pen T) (hr.mono (by decide)) rfl T.m_pen T.F_pen.kp (b_pen T) .nil pass0 (pa_cons (pv 0) (pa_nil))))
      (pss_cons (ps_for PassesOwn.never rfl (pi_range1 (by rfl) T.n_range (pa_cons (pe_int) (pa_nil))) (pg_name (i := 2) sc_law.nd rfl (Or.inl rfl)) (pss_one (ps_if (pt_not (pt_val (pe_callG gu (ok_right T) (hr.mono (by decide)) T.F_right.kp rfl T.m_right pass0 (pa_cons (pv 1) (pa_nil))))) (pss_one (ps_ret (pe_bl))) (pss_nil))))
      (pss_cons (ps_par (i := 3) (j := 4) (by rfl) sc_law.nd rfl rfl (by decide) rfl rfl (pa_cons (pe_mkK T.tmk (ok_Train_initK T) (hr.mono (by decide)) rfl T.m_Train pass0 (pa_cons (pe_int) (pa_cons (pe_tup (pa_cons (pe_int) (pa_cons (pe_int) (pa_cons (pe_int) (pa_cons (pe_tup (pa_cons (pe_int) (pa_cons (pe_int) (pa_nil)))) (pa_nil)))))) (pa_nil))) (pk_cons (pe_tup (pa_cons (pe_int) (pa_cons (pe_int) (pa_nil)))) (pk_nil))) (pa_cons (pe_mkR T.tmk (ok_Train_init0 T) (hr.mono (by decide)) pass0 rfl T.m_Train (pa_cons (pe_int) (pa_nil))) (pa_nil))) (by rfl))
      (pss_cons (ps_set (i := 5) sc_law.nd rfl (Or.inl rfl) (pe_lst (pa_cons (pe_fld (pv 3) rfl) (pa_cons (pe_fld (pv 3) rfl) (pa_cons (pe_meth (pv 3) T.tcls T.t_stands (ok_Train_stands T) (hr.mono (by decide)) (b_Train_stands T) .nil pass0 (pa_cons (pe_int) (pa_nil))) (pa_cons (pe_propW (pv 3) T.p_again (ok_Train_again T) (hr.mono (by decide)) (b_Train_again T) .nil pass0 rfl) (pa_cons (pe_fld (pv 4) rfl) (pa_cons (pe_fld (pv 4) rfl) (pa_cons (pe_propW (pv 4) T.p_again (ok_Train_again T) (hr.mono (by decide)) (b_Train_again T) .nil pass0 rfl) (pa_cons (pe_meth (pv 4) T.tcls T.t_stands (ok_Train_stands T) (hr.mono (by decide)) (b_Train_stands T) .nil pass0 (pa_cons (pe_un un_neg (pe_int)) (pa_nil))) (pa_nil)))))))))))
      (pss_one (ps_ret (pe_cmpR (op_eqD hr.units) (pv 5) (pe_lst (pa_cons (pe_tup (pa_cons (pe_tup (pa_cons (pe_int) (pa_cons (pe_int) (pa_nil)))) (pa_cons (pe_tup (pa_cons (pe_int) (pa_cons (pe_int) (pa_nil)))) (pa_nil)))) (pa_cons (pe_int) (pa_cons (pe_tup (pa_cons (pe_tup (pa_cons (pe_int) (pa_cons (pe_int) (pa_nil)))) (pa_cons (pe_tup (pa_cons (pe_int) (pa_cons (pe_int) (pa_nil)))) (pa_nil)))) (pa_cons (pe_int) (pa_cons (pe_tup (pa_cons (pe_tup (pa_cons (pe_int) (pa_cons (pe_int) (pa_nil)))) (pa_nil))) (pa_cons (pe_int) (pa_cons (pe_int) (pa_cons (pe_tup (pa_cons (pe_tup (pa_cons (pe_int) (pa_cons (pe_int) (pa_nil)))) (pa_nil))) (pa_nil)))))))))) (nomark _))))))), ?_⟩
    refine ⟨_, rfl, a, ns, rfl, hS, hl, fun p H1 s1 hP => ?_⟩
    refine ⟨6, rfl, by decide, by decide, for_range (n := 6) (fun i σ H' => ∃ x2 : Option V, σ = [some (.ref a), some (.ref p), x2, Option.none, Option.none, Option.none] ∧ Pen H' p (200 * i)) ⟨_, rfl, hP⟩ ?_ ?_⟩
    · rintro i σ H2 hi ⟨x2, rfl, hP2⟩
      have hi : i < 6 := hi
      exact ⟨_, rfl, p, 200 * i, rfl, hP2, by omega, fun H' n' hP' hn' => ⟨true, rfl, iteF ⟨_, rfl, hP'.mono (by omega)⟩⟩⟩
    · rintro σ H2 ⟨x2, rfl, hP2⟩
      have l2 : 2 ≤ sizeLine := by decide
      have l4 : 4 ≤ sizeLine := by decide
      have l1 : 1 ≤ sizeLine := by decide
      refine ⟨l2, fun u hu => ⟨l4, fun g hg => tNil_to ⟨l2, fun sl hsl => tNil_to ?_⟩⟩⟩
      have su := same_new (o := .tup [.int 0, .int 1]) hu
      have eu : upd H2 u (.tup [.int 0, .int 1]) u = some (.tup [.int 0, .int 1]) := upd_same
      generalize upd H2 u (.tup [.int 0, .int 1]) = H3 at su eu hg hsl ⊢
      have sg := same_new (o := .tup [.int 0, .int 4, .int 3, .ref u]) hg
      have eg : upd H3 g (.tup [.int 0, .int 4, .int 3, .ref u]) g = some (.tup [.int 0, .int 4, .int 3, .ref u]) := upd_same
      have eu := sg _ _ eu
      generalize upd H3 g (.tup [.int 0, .int 4, .int 3, .ref u]) = H4 at sg eg eu hsl ⊢
      have ssl := same_new (o := .tup [.int 1, .int 4]) hsl
      have esl : upd H4 sl (.tup [.int 1, .int 4]) sl = some (.tup [.int 1, .int 4]) := upd_same
      have eu := ssl _ _ eu
      have eg := ssl _ _ eg
      generalize upd H4 sl (.tup [.int 1, .int 4]) = H5 at esl eg eu ⊢
      intro y dy hy hdy ne
      refine ⟨_, _, _, _, rfl, rfl, l1, spTI_mk (t := (1, 4)) (gs := [gA]) (fun _ _ e => e) hy hdy (fr_dp (SqT.of esl)) (.cons (gr_dp (g := gA) (SqT.of eg) (fr_dp (t := (0, 1)) (SqT.of eu))) .nil) okA fun H6 s6 trA => ?_⟩
      intro y2 dy2 hy2 hdy2 ne2
      refine ⟨_, _, _, rfl, (by show 0 ≤ sizeLine; decide), spTI_mk (t := (0, 1)) (gs := []) (fun _ _ e => e) hy2 hdy2 (fr_dp (T.slK H6)) .nil okB fun H7 s7 trB => ⟨_, _, rfl, ?_⟩⟩
      have trA := trA.same s7
      obtain ⟨dx, ag, ap, as, hx, _, ⟨xp, hSp, hAp⟩, _⟩ := trA.fld
      obtain ⟨dx2, ag2, ap2, as2, hx2, _, _, ⟨xs2, hSs2, hAs2⟩⟩ := trB.fld
      rw [persA] at hAp
      rw [slpB] at hAs2
      refine ⟨_, rfl, y, T.a_Train, dx, _, _, rfl, hx, T.tcls, T.t_na _ (by simp), rfl, _, rfl, y, T.a_Train, dx, _, _, rfl, hx, T.tcls, T.t_na _ (by simp), rfl, _, rfl, y, dx, _, rfl, hx, rfl, y, 22, 10, _, _, rfl, trA, okA.nrm, (by decide +kernel), fun q1 H8 s8 hq1 => ?_⟩
      rw [persA, standA] at hq1
      refine ⟨_, rfl, y, T.a_Train, dx, _, rfl, s8 _ _ hx, T.tcls, T.pr_again, y, 10, _, _, rfl, trA.same s8, okA.nrm, fun H9 s9 => ?_⟩
      have s79 := s8.trans s9
      refine ⟨_, rfl, y2, T.a_Train, dx2, _, _, rfl, s79 _ _ hx2, T.tcls, T.t_na _ (by simp), rfl, _, rfl, y2, T.a_Train, dx2, _, _, rfl, s79 _ _ hx2, T.tcls, T.t_na _ (by simp), rfl, _, rfl, y2, T.a_Train, dx2, _, rfl, s79 _ _ hx2, T.tcls, T.pr_again, y2, 7, _, _, rfl, trB.same s79, okB.nrm, fun H10 s10 => ?_⟩
      have s710 := s79.trans s10
      refine ⟨_, rfl, y2, dx2, _, rfl, s710 _ _ hx2, rfl, _, rfl, y2, -1, 7, _, _, rfl, trB.same s710, okB.nrm, (by decide +kernel), fun q2 H11 s11 hq2 => ⟨(by show 8 ≤ sizeLine; decide), fun tl htl => ?_⟩⟩
      rw [persB, standB] at hq2
      have s711 := s710.trans s11
      have stl := same_new (o := .lst [.ref ap, .int (NG.unitT 10 (NG.lowF (1, 4)) ([gA].map NG.Gr.nrm)), .ref q1, .int (NG.againT 10 ([gA].map NG.Gr.nrm)), .ref as2, .int (NG.unitT 7 (NG.lowF (0, 1)) (([] : List NG.Gr).map NG.Gr.nrm)), .int (NG.againT 7 (([] : List NG.Gr).map NG.Gr.nrm)), .ref q2]) htl
      have hTold : Dp K (upd H11 tl (.lst [.ref ap, .int (NG.unitT 10 (NG.lowF (1, 4)) ([gA].map NG.Gr.nrm)), .ref q1, .int (NG.againT 10 ([gA].map NG.Gr.nrm)), .ref as2, .int (NG.unitT 7 (NG.lowF (0, 1)) (([] : List NG.Gr).map NG.Gr.nrm)), .int (NG.againT 7 (([] : List NG.Gr).map NG.Gr.nrm)), .ref q2])) (.ref tl) (.list toldD) := by
        refine .lst (SqL.of upd_same) (.cons (dp_same (s711.trans stl) _ _ (.tup hSp hAp)) (.cons ?_ (.cons (dp_same ((s9.trans (s10.trans s11)).trans stl) _ _ hq1) (.cons ?_ (.cons (dp_same (s711.trans stl) _ _ (.tup hSs2 hAs2)) (.cons ?_ (.cons ?_ (.cons (dp_same stl _ _ hq2) .nil))))))))
        · rw [unitA]; exact .int 4
        · rw [againA]; exact .int 30
        · rw [unitB]; exact .int 1
        · rw [againB]; exact .int 7
      generalize upd H11 tl (.lst [.ref ap, .int (NG.unitT 10 (NG.lowF (1, 4)) ([gA].map NG.Gr.nrm)), .ref q1, .int (NG.againT 10 ([gA].map NG.Gr.nrm)), .ref as2, .int (NG.unitT 7 (NG.lowF (0, 1)) (([] : List NG.Gr).map NG.Gr.nrm)), .int (NG.againT 7 (([] : List NG.Gr).map NG.Gr.nrm)), .ref q2]) = C0 at hTold ⊢
      refine ⟨_, rfl, ?_⟩
      have dT := hTold
      refine ⟨l2, fun c1 h1 => ?_⟩
      have sc1 := same_new (o := .tup [.int 10, .int 1]) h1
      have d1 : Dp K (upd C0 c1 (.tup [.int 10, .int 1])) (.ref c1) (frD (10, 1)) := fr_dp (SqT.of upd_same)
      have dT := dp_same sc1 _ _ dT
      generalize upd C0 c1 (.tup [.int 10, .int 1]) = C1 at dT d1 ⊢
      refine ⟨l2, fun c2 h2 => ?_⟩
      have sc2 := same_new (o := .tup [.int 15, .int 2]) h2
      have d2 : Dp K (upd C1 c2 (.tup [.int 15, .int 2])) (.ref c2) (frD (15, 2)) := fr_dp (SqT.of upd_same)
      have d1 := dp_same sc2 _ _ d1
      have dT := dp_same sc2 _ _ dT
      generalize upd C1 c2 (.tup [.int 15, .int 2]) = C2 at dT d1 d2 ⊢
      refine ⟨l2, fun c3 h3 => ?_⟩
      have sc3 := same_new (o := .tup [.ref c1, .ref c2]) h3
      have d3 : Dp K (upd C2 c3 (.tup [.ref c1, .ref c2])) (.ref c3) (.tuple [frD (10, 1), frD (15, 2)]) := .tup (SqT.of upd_same) (.cons (dp_same sc3 _ _ d1) (.cons (dp_same sc3 _ _ d2) .nil))
      have d1 := dp_same sc3 _ _ d1
      have d2 := dp_same sc3 _ _ d2
      have dT := dp_same sc3 _ _ dT
      generalize upd C2 c3 (.tup [.ref c1, .ref c2]) = C3 at dT d1 d2 d3 ⊢
      refine ⟨l2, fun c4 h4 => ?_⟩
      have sc4 := same_new (o := .tup [.int 2, .int 1]) h4
      have d4 : Dp K (upd C3 c4 (.tup [.int 2, .int 1])) (.ref c4) (frD (2, 1)) := fr_dp (SqT.of upd_same)
      have d1 := dp_same sc4 _ _ d1
      have d2 := dp_same sc4 _ _ d2
      have d3 := dp_same sc4 _ _ d3
      have dT := dp_same sc4 _ _ dT
      generalize upd C3 c4 (.tup [.int 2, .int 1]) = C4 at dT d1 d2 d3 d4 ⊢
      refine ⟨l2, fun c5 h5 => ?_⟩
      have sc5 := same_new (o := .tup [.int 7, .int 1]) h5
      have d5 : Dp K (upd C4 c5 (.tup [.int 7, .int 1])) (.ref c5) (frD (7, 1)) := fr_dp (SqT.of upd_same)
      have d1 := dp_same sc5 _ _ d1
      have d2 := dp_same sc5 _ _ d2
      have d3 := dp_same sc5 _ _ d3
      have d4 := dp_same sc5 _ _ d4
      have dT := dp_same sc5 _ _ dT
      generalize upd C4 c5 (.tup [.int 7, .int 1]) = C5 at dT d1 d2 d3 d4 d5 ⊢
      refine ⟨l2, fun c6 h6 => ?_⟩
      have sc6 := same_new (o := .tup [.ref c4, .ref c5]) h6
      have d6 : Dp K (upd C5 c6 (.tup [.ref c4, .ref c5])) (.ref c6) (.tuple [frD (2, 1), frD (7, 1)]) := .tup (SqT.of upd_same) (.cons (dp_same sc6 _ _ d4) (.cons (dp_same sc6 _ _ d5) .nil))
      have d1 := dp_same sc6 _ _ d1
      have d2 := dp_same sc6 _ _ d2
      have d3 := dp_same sc6 _ _ d3
      have d4 := dp_same sc6 _ _ d4
      have d5 := dp_same sc6 _ _ d5
      have dT := dp_same sc6 _ _ dT
      generalize upd C5 c6 (.tup [.ref c4, .ref c5]) = C6 at dT d1 d2 d3 d4 d5 d6 ⊢
      refine ⟨l2, fun c7 h7 => ?_⟩
      have sc7 := same_new (o := .tup [.int 0, .int 1]) h7
      have d7 : Dp K (upd C6 c7 (.tup [.int 0, .int 1])) (.ref c7) (frD (0, 1)) := fr_dp (SqT.of upd_same)
      have d1 := dp_same sc7 _ _ d1
      have d2 := dp_same sc7 _ _ d2
      have d3 := dp_same sc7 _ _ d3
      have d4 := dp_same sc7 _ _ d4
      have d5 := dp_same sc7 _ _ d5
      have d6 := dp_same sc7 _ _ d6
      have dT := dp_same sc7 _ _ dT
      generalize upd C6 c7 (.tup [.int 0, .int 1]) = C7 at dT d1 d2 d3 d4 d5 d6 d7 ⊢
      refine ⟨l1, fun c8 h8 => ?_⟩
      have sc8 := same_new (o := .tup [.ref c7]) h8
      have d8 : Dp K (upd C7 c8 (.tup [.ref c7])) (.ref c8) (.tuple [frD (0, 1)]) := .tup (SqT.of upd_same) (.cons (dp_same sc8 _ _ d7) .nil)
      have d1 := dp_same sc8 _ _ d1
      have d2 := dp_same sc8 _ _ d2
      have d3 := dp_same sc8 _ _ d3
      have d4 := dp_same sc8 _ _ d4
      have d5 := dp_same sc8 _ _ d5
      have d6 := dp_same sc8 _ _ d6
      have d7 := dp_same sc8 _ _ d7
      have dT := dp_same sc8 _ _ dT
      generalize upd C7 c8 (.tup [.ref c7]) = C8 at dT d1 d2 d3 d4 d5 d6 d7 d8 ⊢
      refine ⟨l2, fun c9 h9 => ?_⟩
      have sc9 := same_new (o := .tup [.int 6, .int 1]) h9
      have d9 : Dp K (upd C8 c9 (.tup [.int 6, .int 1])) (.ref c9) (frD (6, 1)) := fr_dp (SqT.of upd_same)
      have d1 := dp_same sc9 _ _ d1
      have d2 := dp_same sc9 _ _ d2
      have d3 := dp_same sc9 _ _ d3
      have d4 := dp_same sc9 _ _ d4
      have d5 := dp_same sc9 _ _ d5
      have d6 := dp_same sc9 _ _ d6
      have d7 := dp_same sc9 _ _ d7
      have d8 := dp_same sc9 _ _ d8
      have dT := dp_same sc9 _ _ dT
      generalize upd C8 c9 (.tup [.int 6, .int 1]) = C9 at dT d1 d2 d3 d4 d5 d6 d7 d8 d9 ⊢
      refine ⟨l1, fun c10 h10 => ?_⟩
      have sc10 := same_new (o := .tup [.ref c9]) h10
      have d10 : Dp K (upd C9 c10 (.tup [.ref c9])) (.ref c10) (.tuple [frD (6, 1)]) := .tup (SqT.of upd_same) (.cons (dp_same sc10 _ _ d9) .nil)
      have d1 := dp_same sc10 _ _ d1
      have d2 := dp_same sc10 _ _ d2
      have d3 := dp_same sc10 _ _ d3
      have d4 := dp_same sc10 _ _ d4
      have d5 := dp_same sc10 _ _ d5
      have d6 := dp_same sc10 _ _ d6
      have d7 := dp_same sc10 _ _ d7
      have d8 := dp_same sc10 _ _ d8
      have d9 := dp_same sc10 _ _ d9
      have dT := dp_same sc10 _ _ dT
      generalize upd C9 c10 (.tup [.ref c9]) = C10 at dT d1 d2 d3 d4 d5 d6 d7 d8 d9 d10 ⊢
      refine ⟨(by show 8 ≤ sizeLine; decide), fun cl hcl => ?_⟩
      have scl := same_new (o := .lst [.ref c3, .int 4, .ref c6, .int 30, .ref c8, .int 1, .int 7, .ref c10]) hcl
      refine ⟨.list toldD, .list toldD, dp_same scl _ _ dT, .lst (SqL.of upd_same) (.cons (dp_same scl _ _ d3) (.cons (.int 4) (.cons (dp_same scl _ _ d6) (.cons (.int 30) (.cons (dp_same scl _ _ d8) (.cons (.int 1) (.cons (.int 7) (.cons (dp_same scl _ _ d10) .nil)))))))), by decide +kernel, by decide +kernel, ?_⟩
      rw [show PyData.eqv (.list toldD) (.list toldD) = true by decide +kernel]
      exact k _


end
theorem all_mk {l : PySem.W.OpenLaw} {w : World} {K : PySem.W.Frag} {h : Heap} {mg : Str → Option Value} {fa : Addr} (X : K.In h) (G : h.Ns mainGlobals mg) (hfa : mg "law" = some (.ref fa)) (tabs : ∀ x ∈ ([] : List Str), TabOf K mg h x)
    {f_is_whole : Addr} {od_is_whole an_is_whole : Option Addr} {sl_is_whole : Array (Option Value)} {oc_is_whole kV_is_whole dc_is_whole pm_is_whole cd_is_whole ct_is_whole : Value}
    {f_is_from : Addr} {od_is_from an_is_from : Option Addr} {sl_is_from : Array (Option Value)} {oc_is_from kV_is_from dc_is_from pm_is_from cd_is_from ct_is_from : Value}
    {f_is_between : Addr} {od_is_between an_is_between : Option Addr} {sl_is_between : Array (Option Value)} {oc_is_between kV_is_between dc_is_between pm_is_between cd_is_between ct_is_between : Value}
    {f_common : Addr} {od_common an_common : Option Addr} {sl_common : Array (Option Value)} {oc_common kV_common dc_common pm_common cd_common ct_common : Value}
    {f_multiple : Addr} {od_multiple an_multiple : Option Addr} {sl_multiple : Array (Option Value)} {oc_multiple kV_multiple dc_multiple pm_multiple cd_multiple ct_multiple : Value}
    {f_number_in : Addr} {od_number_in an_number_in : Option Addr} {sl_number_in : Array (Option Value)} {oc_number_in kV_number_in dc_number_in pm_number_in cd_number_in ct_number_in : Value}
    {f_is_fraction : Addr} {od_is_fraction an_is_fraction : Option Addr} {sl_is_fraction : Array (Option Value)} {oc_is_fraction kV_is_fraction dc_is_fraction pm_is_fraction cd_is_fraction ct_is_fraction : Value}
    {f_least_terms : Addr} {od_least_terms an_least_terms : Option Addr} {sl_least_terms : Array (Option Value)} {oc_least_terms kV_least_terms dc_least_terms pm_least_terms cd_least_terms ct_least_terms : Value}
    {f_is_gear : Addr} {od_is_gear an_is_gear : Option Addr} {sl_is_gear : Array (Option Value)} {oc_is_gear kV_is_gear dc_is_gear pm_is_gear cd_is_gear ct_is_gear : Value}
    {f_need_gears : Addr} {od_need_gears an_need_gears : Option Addr} {sl_need_gears : Array (Option Value)} {oc_need_gears kV_need_gears dc_need_gears pm_need_gears cd_need_gears ct_need_gears : Value}
    {f_periods_of : Addr} {od_periods_of an_periods_of : Option Addr} {sl_periods_of : Array (Option Value)} {oc_periods_of kV_periods_of dc_periods_of pm_periods_of cd_periods_of ct_periods_of : Value}
    {f_gear_words : Addr} {od_gear_words an_gear_words : Option Addr} {sl_gear_words : Array (Option Value)} {oc_gear_words kV_gear_words dc_gear_words pm_gear_words cd_gear_words ct_gear_words : Value}
    {f_take_train : Addr} {od_take_train an_take_train : Option Addr} {sl_take_train : Array (Option Value)} {oc_take_train kV_take_train dc_take_train pm_take_train cd_take_train ct_take_train : Value}
    {f_take_gear : Addr} {od_take_gear an_take_gear : Option Addr} {sl_take_gear : Array (Option Value)} {oc_take_gear kV_take_gear dc_take_gear pm_take_gear cd_take_gear ct_take_gear : Value}
    {f_take_fraction : Addr} {od_take_fraction an_take_fraction : Option Addr} {sl_take_fraction : Array (Option Value)} {oc_take_fraction kV_take_fraction dc_take_fraction pm_take_fraction cd_take_fraction ct_take_fraction : Value}
    {f_pen : Addr} {od_pen an_pen : Option Addr} {sl_pen : Array (Option Value)} {oc_pen kV_pen dc_pen pm_pen cd_pen ct_pen : Value}
    {f_draw : Addr} {od_draw an_draw : Option Addr} {sl_draw : Array (Option Value)} {oc_draw kV_draw dc_draw pm_draw cd_draw ct_draw : Value}
    {f_pick : Addr} {od_pick an_pick : Option Addr} {sl_pick : Array (Option Value)} {oc_pick kV_pick dc_pick pm_pick cd_pick ct_pick : Value}
    {f_shared : Addr} {od_shared an_shared : Option Addr} {sl_shared : Array (Option Value)} {oc_shared kV_shared dc_shared pm_shared cd_shared ct_shared : Value}
    {f_lowest : Addr} {od_lowest an_lowest : Option Addr} {sl_lowest : Array (Option Value)} {oc_lowest kV_lowest dc_lowest pm_lowest cd_lowest ct_lowest : Value}
    {f_by_multiple : Addr} {od_by_multiple an_by_multiple : Option Addr} {sl_by_multiple : Array (Option Value)} {oc_by_multiple kV_by_multiple dc_by_multiple pm_by_multiple cd_by_multiple ct_by_multiple : Value}
    {f_periods : Addr} {od_periods an_periods : Option Addr} {sl_periods : Array (Option Value)} {oc_periods kV_periods dc_periods pm_periods cd_periods ct_periods : Value}
    {f_train : Addr} {od_train an_train : Option Addr} {sl_train : Array (Option Value)} {oc_train kV_train dc_train pm_train cd_train ct_train : Value}
    {f_fraction : Addr} {od_fraction an_fraction : Option Addr} {sl_fraction : Array (Option Value)} {oc_fraction kV_fraction dc_fraction pm_fraction cd_fraction ct_fraction : Value}
    {f_gears : Addr} {od_gears an_gears : Option Addr} {sl_gears : Array (Option Value)} {oc_gears kV_gears dc_gears pm_gears cd_gears ct_gears : Value}
    {f_period : Addr} {od_period an_period : Option Addr} {sl_period : Array (Option Value)} {oc_period kV_period dc_period pm_period cd_period ct_period : Value}
    {f_text : Addr} {od_text an_text : Option Addr} {sl_text : Array (Option Value)} {oc_text kV_text dc_text pm_text cd_text ct_text : Value}
    {f_stands : Addr} {od_stands an_stands : Option Addr} {sl_stands : Array (Option Value)} {oc_stands kV_stands dc_stands pm_stands cd_stands ct_stands : Value}
    {f_right : Addr} {od_right an_right : Option Addr} {sl_right : Array (Option Value)} {oc_right kV_right dc_right pm_right cd_right ct_right : Value}
    {f_told_alike : Addr} {od_told_alike an_told_alike : Option Addr} {sl_told_alike : Array (Option Value)} {oc_told_alike kV_told_alike dc_told_alike pm_told_alike cd_told_alike ct_told_alike : Value}
    {f_law : Addr} {od_law an_law : Option Addr} {sl_law : Array (Option Value)} {oc_law kV_law dc_law pm_law cd_law ct_law : Value}
    {f_Words_init : Addr} {od_Words_init an_Words_init : Option Addr} {sl_Words_init : Array (Option Value)} {oc_Words_init kV_Words_init dc_Words_init pm_Words_init cd_Words_init ct_Words_init : Value}
    {dT_Words_init : Addr} {dC_Words_init : Value} {dD_Words_init : Option Addr} {dv_Words_init : Array Value} {dN_Words_init : Nat} {dS_Words_init : Array (Option Value)}
    {f_Words_upcoming : Addr} {od_Words_upcoming an_Words_upcoming : Option Addr} {sl_Words_upcoming : Array (Option Value)} {oc_Words_upcoming kV_Words_upcoming dc_Words_upcoming pm_Words_upcoming cd_Words_upcoming ct_Words_upcoming : Value}
    {f_Words_take : Addr} {od_Words_take an_Words_take : Option Addr} {sl_Words_take : Array (Option Value)} {oc_Words_take kV_Words_take dc_Words_take pm_Words_take cd_Words_take ct_Words_take : Value}
    {f_Words_take_number : Addr} {od_Words_take_number an_Words_take_number : Option Addr} {sl_Words_take_number : Array (Option Value)} {oc_Words_take_number kV_Words_take_number dc_Words_take_number pm_Words_take_number cd_Words_take_number ct_Words_take_number : Value}
    {f_Words_finish : Addr} {od_Words_finish an_Words_finish : Option Addr} {sl_Words_finish : Array (Option Value)} {oc_Words_finish kV_Words_finish dc_Words_finish pm_Words_finish cd_Words_finish ct_Words_finish : Value}
    {f_Train_init : Addr} {od_Train_init an_Train_init : Option Addr} {sl_Train_init : Array (Option Value)} {oc_Train_init dc_Train_init pm_Train_init cd_Train_init ct_Train_init : Value}
    {kD_Train_init : Addr}
    {f_Train_read : Addr} {od_Train_read an_Train_read : Option Addr} {sl_Train_read : Array (Option Value)} {oc_Train_read kV_Train_read dc_Train_read pm_Train_read cd_Train_read ct_Train_read : Value}
    {p_Train_read : Addr}
    {f_Train_again : Addr} {od_Train_again an_Train_again : Option Addr} {sl_Train_again : Array (Option Value)} {oc_Train_again kV_Train_again dc_Train_again pm_Train_again cd_Train_again ct_Train_again : Value}
    {p_Train_again : Addr} {rest_Train_again : List Value}
    {f_Train_len : Addr} {od_Train_len an_Train_len : Option Addr} {sl_Train_len : Array (Option Value)} {oc_Train_len kV_Train_len dc_Train_len pm_Train_len cd_Train_len ct_Train_len : Value}
    {f_Train_iter : Addr} {od_Train_iter an_Train_iter : Option Addr} {sl_Train_iter : Array (Option Value)} {oc_Train_iter kV_Train_iter dc_Train_iter pm_Train_iter cd_Train_iter ct_Train_iter : Value}
    {f_Train_getitem : Addr} {od_Train_getitem an_Train_getitem : Option Addr} {sl_Train_getitem : Array (Option Value)} {oc_Train_getitem kV_Train_getitem dc_Train_getitem pm_Train_getitem cd_Train_getitem ct_Train_getitem : Value}
    {f_Train_add : Addr} {od_Train_add an_Train_add : Option Addr} {sl_Train_add : Array (Option Value)} {oc_Train_add kV_Train_add dc_Train_add pm_Train_add cd_Train_add ct_Train_add : Value}
    {f_Train_eq : Addr} {od_Train_eq an_Train_eq : Option Addr} {sl_Train_eq : Array (Option Value)} {oc_Train_eq kV_Train_eq dc_Train_eq pm_Train_eq cd_Train_eq ct_Train_eq : Value}
    {f_Train_str : Addr} {od_Train_str an_Train_str : Option Addr} {sl_Train_str : Array (Option Value)} {oc_Train_str kV_Train_str dc_Train_str pm_Train_str cd_Train_str ct_Train_str : Value}
    {f_Train_stands : Addr} {od_Train_stands an_Train_stands : Option Addr} {sl_Train_stands : Array (Option Value)} {oc_Train_stands kV_Train_stands dc_Train_stands pm_Train_stands cd_Train_stands ct_Train_stands : Value}
    {C_Words C_Train C_slD : Addr} {tD tP tT tG : Tok} {dd_slD : Option Addr} {sv_slD : Array Value} {n_slD : Nat} {ss_slD : Array (Option Value)}
    (a_is_whole : PySem.W.nsIn K mainGlobals "is_whole" = some (some (.ref f_is_whole)))
    (l_is_whole : K.lookup f_is_whole = some ⟨oc_is_whole, od_is_whole, .func (PySem.W.fnOf "is_whole" "is_whole" (defArgs s_is_whole) (defBody s_is_whole) (defScope s_is_whole) .none kV_is_whole dc_is_whole pm_is_whole an_is_whole cd_is_whole ct_is_whole), sl_is_whole⟩)
    (c_is_whole : PySem.W.codeIn K cd_is_whole "is_whole" = true)
    (k_is_whole : PySem.W.keepIn K (.ref f_is_whole) = true)
    (a_is_from : PySem.W.nsIn K mainGlobals "is_from" = some (some (.ref f_is_from)))
    (l_is_from : K.lookup f_is_from = some ⟨oc_is_from, od_is_from, .func (PySem.W.fnOf "is_from" "is_from" (defArgs s_is_from) (defBody s_is_from) (defScope s_is_from) .none kV_is_from dc_is_from pm_is_from an_is_from cd_is_from ct_is_from), sl_is_from⟩)
    (c_is_from : PySem.W.codeIn K cd_is_from "is_from" = true)
    (k_is_from : PySem.W.keepIn K (.ref f_is_from) = true)
    (a_is_between : PySem.W.nsIn K mainGlobals "is_between" = some (some (.ref f_is_between)))
    (l_is_between : K.lookup f_is_between = some ⟨oc_is_between, od_is_between, .func (PySem.W.fnOf "is_between" "is_between" (defArgs s_is_between) (defBody s_is_between) (defScope s_is_between) .none kV_is_between dc_is_between pm_is_between an_is_between cd_is_between ct_is_between), sl_is_between⟩)
    (c_is_between : PySem.W.codeIn K cd_is_between "is_between" = true)
    (k_is_between : PySem.W.keepIn K (.ref f_is_between) = true)
    (a_common : PySem.W.nsIn K mainGlobals "common" = some (some (.ref f_common)))
    (l_common : K.lookup f_common = some ⟨oc_common, od_common, .func (PySem.W.fnOf "common" "common" (defArgs s_common) (defBody s_common) (defScope s_common) .none kV_common dc_common pm_common an_common cd_common ct_common), sl_common⟩)
    (c_common : PySem.W.codeIn K cd_common "common" = true)
    (k_common : PySem.W.keepIn K (.ref f_common) = true)
    (a_multiple : PySem.W.nsIn K mainGlobals "multiple" = some (some (.ref f_multiple)))
    (l_multiple : K.lookup f_multiple = some ⟨oc_multiple, od_multiple, .func (PySem.W.fnOf "multiple" "multiple" (defArgs s_multiple) (defBody s_multiple) (defScope s_multiple) .none kV_multiple dc_multiple pm_multiple an_multiple cd_multiple ct_multiple), sl_multiple⟩)
    (c_multiple : PySem.W.codeIn K cd_multiple "multiple" = true)
    (k_multiple : PySem.W.keepIn K (.ref f_multiple) = true)
    (a_number_in : PySem.W.nsIn K mainGlobals "number_in" = some (some (.ref f_number_in)))
    (l_number_in : K.lookup f_number_in = some ⟨oc_number_in, od_number_in, .func (PySem.W.fnOf "number_in" "number_in" (defArgs s_number_in) (defBody s_number_in) (defScope s_number_in) .none kV_number_in dc_number_in pm_number_in an_number_in cd_number_in ct_number_in), sl_number_in⟩)
    (c_number_in : PySem.W.codeIn K cd_number_in "number_in" = true)
    (k_number_in : PySem.W.keepIn K (.ref f_number_in) = true)
    (a_is_fraction : PySem.W.nsIn K mainGlobals "is_fraction" = some (some (.ref f_is_fraction)))
    (l_is_fraction : K.lookup f_is_fraction = some ⟨oc_is_fraction, od_is_fraction, .func (PySem.W.fnOf "is_fraction" "is_fraction" (defArgs s_is_fraction) (defBody s_is_fraction) (defScope s_is_fraction) .none kV_is_fraction dc_is_fraction pm_is_fraction an_is_fraction cd_is_fraction ct_is_fraction), sl_is_fraction⟩)
    (c_is_fraction : PySem.W.codeIn K cd_is_fraction "is_fraction" = true)
    (k_is_fraction : PySem.W.keepIn K (.ref f_is_fraction) = true)
    (a_least_terms : PySem.W.nsIn K mainGlobals "least_terms" = some (some (.ref f_least_terms)))
    (l_least_terms : K.lookup f_least_terms = some ⟨oc_least_terms, od_least_terms, .func (PySem.W.fnOf "least_terms" "least_terms" (defArgs s_least_terms) (defBody s_least_terms) (defScope s_least_terms) .none kV_least_terms dc_least_terms pm_least_terms an_least_terms cd_least_terms ct_least_terms), sl_least_terms⟩)
    (c_least_terms : PySem.W.codeIn K cd_least_terms "least_terms" = true)
    (k_least_terms : PySem.W.keepIn K (.ref f_least_terms) = true)
    (a_is_gear : PySem.W.nsIn K mainGlobals "is_gear" = some (some (.ref f_is_gear)))
    (l_is_gear : K.lookup f_is_gear = some ⟨oc_is_gear, od_is_gear, .func (PySem.W.fnOf "is_gear" "is_gear" (defArgs s_is_gear) (defBody s_is_gear) (defScope s_is_gear) .none kV_is_gear dc_is_gear pm_is_gear an_is_gear cd_is_gear ct_is_gear), sl_is_gear⟩)
    (c_is_gear : PySem.W.codeIn K cd_is_gear "is_gear" = true)
    (k_is_gear : PySem.W.keepIn K (.ref f_is_gear) = true)
    (a_need_gears : PySem.W.nsIn K mainGlobals "need_gears" = some (some (.ref f_need_gears)))
    (l_need_gears : K.lookup f_need_gears = some ⟨oc_need_gears, od_need_gears, .func (PySem.W.fnOf "need_gears" "need_gears" (defArgs s_need_gears) (defBody s_need_gears) (defScope s_need_gears) .none kV_need_gears dc_need_gears pm_need_gears an_need_gears cd_need_gears ct_need_gears), sl_need_gears⟩)
    (c_need_gears : PySem.W.codeIn K cd_need_gears "need_gears" = true)
    (k_need_gears : PySem.W.keepIn K (.ref f_need_gears) = true)
    (a_periods_of : PySem.W.nsIn K mainGlobals "periods_of" = some (some (.ref f_periods_of)))
    (l_periods_of : K.lookup f_periods_of = some ⟨oc_periods_of, od_periods_of, .func (PySem.W.fnOf "periods_of" "periods_of" (defArgs s_periods_of) (defBody s_periods_of) (defScope s_periods_of) .none kV_periods_of dc_periods_of pm_periods_of an_periods_of cd_periods_of ct_periods_of), sl_periods_of⟩)
    (c_periods_of : PySem.W.codeIn K cd_periods_of "periods_of" = true)
    (k_periods_of : PySem.W.keepIn K (.ref f_periods_of) = true)
    (a_gear_words : PySem.W.nsIn K mainGlobals "gear_words" = some (some (.ref f_gear_words)))
    (l_gear_words : K.lookup f_gear_words = some ⟨oc_gear_words, od_gear_words, .func (PySem.W.fnOf "gear_words" "gear_words" (defArgs s_gear_words) (defBody s_gear_words) (defScope s_gear_words) .none kV_gear_words dc_gear_words pm_gear_words an_gear_words cd_gear_words ct_gear_words), sl_gear_words⟩)
    (c_gear_words : PySem.W.codeIn K cd_gear_words "gear_words" = true)
    (k_gear_words : PySem.W.keepIn K (.ref f_gear_words) = true)
    (a_take_train : PySem.W.nsIn K mainGlobals "take_train" = some (some (.ref f_take_train)))
    (l_take_train : K.lookup f_take_train = some ⟨oc_take_train, od_take_train, .func (PySem.W.fnOf "take_train" "take_train" (defArgs s_take_train) (defBody s_take_train) (defScope s_take_train) .none kV_take_train dc_take_train pm_take_train an_take_train cd_take_train ct_take_train), sl_take_train⟩)
    (c_take_train : PySem.W.codeIn K cd_take_train "take_train" = true)
    (k_take_train : PySem.W.keepIn K (.ref f_take_train) = true)
    (a_take_gear : PySem.W.nsIn K mainGlobals "take_gear" = some (some (.ref f_take_gear)))
    (l_take_gear : K.lookup f_take_gear = some ⟨oc_take_gear, od_take_gear, .func (PySem.W.fnOf "take_gear" "take_gear" (defArgs s_take_gear) (defBody s_take_gear) (defScope s_take_gear) .none kV_take_gear dc_take_gear pm_take_gear an_take_gear cd_take_gear ct_take_gear), sl_take_gear⟩)
    (c_take_gear : PySem.W.codeIn K cd_take_gear "take_gear" = true)
    (k_take_gear : PySem.W.keepIn K (.ref f_take_gear) = true)
    (a_take_fraction : PySem.W.nsIn K mainGlobals "take_fraction" = some (some (.ref f_take_fraction)))
    (l_take_fraction : K.lookup f_take_fraction = some ⟨oc_take_fraction, od_take_fraction, .func (PySem.W.fnOf "take_fraction" "take_fraction" (defArgs s_take_fraction) (defBody s_take_fraction) (defScope s_take_fraction) .none kV_take_fraction dc_take_fraction pm_take_fraction an_take_fraction cd_take_fraction ct_take_fraction), sl_take_fraction⟩)
    (c_take_fraction : PySem.W.codeIn K cd_take_fraction "take_fraction" = true)
    (k_take_fraction : PySem.W.keepIn K (.ref f_take_fraction) = true)
    (a_pen : PySem.W.nsIn K mainGlobals "_law_pen" = some (some (.ref f_pen)))
    (l_pen : K.lookup f_pen = some ⟨oc_pen, od_pen, .func (PySem.W.fnOf "_law_pen" "_law_pen" (defArgs s_pen) (defBody s_pen) (defScope s_pen) .none kV_pen dc_pen pm_pen an_pen cd_pen ct_pen), sl_pen⟩)
    (c_pen : PySem.W.codeIn K cd_pen "_law_pen" = true)
    (k_pen : PySem.W.keepIn K (.ref f_pen) = true)
    (a_draw : PySem.W.nsIn K mainGlobals "_law_draw" = some (some (.ref f_draw)))
    (l_draw : K.lookup f_draw = some ⟨oc_draw, od_draw, .func (PySem.W.fnOf "_law_draw" "_law_draw" (defArgs s_draw) (defBody s_draw) (defScope s_draw) .none kV_draw dc_draw pm_draw an_draw cd_draw ct_draw), sl_draw⟩)
    (c_draw : PySem.W.codeIn K cd_draw "_law_draw" = true)
    (k_draw : PySem.W.keepIn K (.ref f_draw) = true)
    (a_pick : PySem.W.nsIn K mainGlobals "_law_pick" = some (some (.ref f_pick)))
    (l_pick : K.lookup f_pick = some ⟨oc_pick, od_pick, .func (PySem.W.fnOf "_law_pick" "_law_pick" (defArgs s_pick) (defBody s_pick) (defScope s_pick) .none kV_pick dc_pick pm_pick an_pick cd_pick ct_pick), sl_pick⟩)
    (c_pick : PySem.W.codeIn K cd_pick "_law_pick" = true)
    (k_pick : PySem.W.keepIn K (.ref f_pick) = true)
    (a_shared : PySem.W.nsIn K mainGlobals "_law_shared" = some (some (.ref f_shared)))
    (l_shared : K.lookup f_shared = some ⟨oc_shared, od_shared, .func (PySem.W.fnOf "_law_shared" "_law_shared" (defArgs s_shared) (defBody s_shared) (defScope s_shared) .none kV_shared dc_shared pm_shared an_shared cd_shared ct_shared), sl_shared⟩)
    (c_shared : PySem.W.codeIn K cd_shared "_law_shared" = true)
    (k_shared : PySem.W.keepIn K (.ref f_shared) = true)
    (a_lowest : PySem.W.nsIn K mainGlobals "_law_lowest" = some (some (.ref f_lowest)))
    (l_lowest : K.lookup f_lowest = some ⟨oc_lowest, od_lowest, .func (PySem.W.fnOf "_law_lowest" "_law_lowest" (defArgs s_lowest) (defBody s_lowest) (defScope s_lowest) .none kV_lowest dc_lowest pm_lowest an_lowest cd_lowest ct_lowest), sl_lowest⟩)
    (c_lowest : PySem.W.codeIn K cd_lowest "_law_lowest" = true)
    (k_lowest : PySem.W.keepIn K (.ref f_lowest) = true)
    (a_by_multiple : PySem.W.nsIn K mainGlobals "_law_multiple" = some (some (.ref f_by_multiple)))
    (l_by_multiple : K.lookup f_by_multiple = some ⟨oc_by_multiple, od_by_multiple, .func (PySem.W.fnOf "_law_multiple" "_law_multiple" (defArgs s_by_multiple) (defBody s_by_multiple) (defScope s_by_multiple) .none kV_by_multiple dc_by_multiple pm_by_multiple an_by_multiple cd_by_multiple ct_by_multiple), sl_by_multiple⟩)
    (c_by_multiple : PySem.W.codeIn K cd_by_multiple "_law_multiple" = true)
    (k_by_multiple : PySem.W.keepIn K (.ref f_by_multiple) = true)
    (a_periods : PySem.W.nsIn K mainGlobals "_law_periods" = some (some (.ref f_periods)))
    (l_periods : K.lookup f_periods = some ⟨oc_periods, od_periods, .func (PySem.W.fnOf "_law_periods" "_law_periods" (defArgs s_periods) (defBody s_periods) (defScope s_periods) .none kV_periods dc_periods pm_periods an_periods cd_periods ct_periods), sl_periods⟩)
    (c_periods : PySem.W.codeIn K cd_periods "_law_periods" = true)
    (k_periods : PySem.W.keepIn K (.ref f_periods) = true)
    (a_train : PySem.W.nsIn K mainGlobals "_law_train" = some (some (.ref f_train)))
    (l_train : K.lookup f_train = some ⟨oc_train, od_train, .func (PySem.W.fnOf "_law_train" "_law_train" (defArgs s_train) (defBody s_train) (defScope s_train) .none kV_train dc_train pm_train an_train cd_train ct_train), sl_train⟩)
    (c_train : PySem.W.codeIn K cd_train "_law_train" = true)
    (k_train : PySem.W.keepIn K (.ref f_train) = true)
    (a_fraction : PySem.W.nsIn K mainGlobals "_law_fraction" = some (some (.ref f_fraction)))
    (l_fraction : K.lookup f_fraction = some ⟨oc_fraction, od_fraction, .func (PySem.W.fnOf "_law_fraction" "_law_fraction" (defArgs s_fraction) (defBody s_fraction) (defScope s_fraction) .none kV_fraction dc_fraction pm_fraction an_fraction cd_fraction ct_fraction), sl_fraction⟩)
    (c_fraction : PySem.W.codeIn K cd_fraction "_law_fraction" = true)
    (k_fraction : PySem.W.keepIn K (.ref f_fraction) = true)
    (a_gears : PySem.W.nsIn K mainGlobals "_law_gears" = some (some (.ref f_gears)))
    (l_gears : K.lookup f_gears = some ⟨oc_gears, od_gears, .func (PySem.W.fnOf "_law_gears" "_law_gears" (defArgs s_gears) (defBody s_gears) (defScope s_gears) .none kV_gears dc_gears pm_gears an_gears cd_gears ct_gears), sl_gears⟩)
    (c_gears : PySem.W.codeIn K cd_gears "_law_gears" = true)
    (k_gears : PySem.W.keepIn K (.ref f_gears) = true)
    (a_period : PySem.W.nsIn K mainGlobals "_law_period" = some (some (.ref f_period)))
    (l_period : K.lookup f_period = some ⟨oc_period, od_period, .func (PySem.W.fnOf "_law_period" "_law_period" (defArgs s_period) (defBody s_period) (defScope s_period) .none kV_period dc_period pm_period an_period cd_period ct_period), sl_period⟩)
    (c_period : PySem.W.codeIn K cd_period "_law_period" = true)
    (k_period : PySem.W.keepIn K (.ref f_period) = true)
    (a_text : PySem.W.nsIn K mainGlobals "_law_text" = some (some (.ref f_text)))
    (l_text : K.lookup f_text = some ⟨oc_text, od_text, .func (PySem.W.fnOf "_law_text" "_law_text" (defArgs s_text) (defBody s_text) (defScope s_text) .none kV_text dc_text pm_text an_text cd_text ct_text), sl_text⟩)
    (c_text : PySem.W.codeIn K cd_text "_law_text" = true)
    (k_text : PySem.W.keepIn K (.ref f_text) = true)
    (a_stands : PySem.W.nsIn K mainGlobals "_law_stands" = some (some (.ref f_stands)))
    (l_stands : K.lookup f_stands = some ⟨oc_stands, od_stands, .func (PySem.W.fnOf "_law_stands" "_law_stands" (defArgs s_stands) (defBody s_stands) (defScope s_stands) .none kV_stands dc_stands pm_stands an_stands cd_stands ct_stands), sl_stands⟩)
    (c_stands : PySem.W.codeIn K cd_stands "_law_stands" = true)
    (k_stands : PySem.W.keepIn K (.ref f_stands) = true)
    (a_right : PySem.W.nsIn K mainGlobals "_law_right" = some (some (.ref f_right)))
    (l_right : K.lookup f_right = some ⟨oc_right, od_right, .func (PySem.W.fnOf "_law_right" "_law_right" (defArgs s_right) (defBody s_right) (defScope s_right) .none kV_right dc_right pm_right an_right cd_right ct_right), sl_right⟩)
    (c_right : PySem.W.codeIn K cd_right "_law_right" = true)
    (k_right : PySem.W.keepIn K (.ref f_right) = true)
    (a_told_alike : PySem.W.nsIn K mainGlobals "_law_told_alike" = some (some (.ref f_told_alike)))
    (l_told_alike : K.lookup f_told_alike = some ⟨oc_told_alike, od_told_alike, .func (PySem.W.fnOf "_law_told_alike" "_law_told_alike" (defArgs s_told_alike) (defBody s_told_alike) (defScope s_told_alike) .none kV_told_alike dc_told_alike pm_told_alike an_told_alike cd_told_alike ct_told_alike), sl_told_alike⟩)
    (c_told_alike : PySem.W.codeIn K cd_told_alike "_law_told_alike" = true)
    (k_told_alike : PySem.W.keepIn K (.ref f_told_alike) = true)
    (a_law : PySem.W.nsIn K mainGlobals "law" = some (some (.ref f_law)))
    (l_law : K.lookup f_law = some ⟨oc_law, od_law, .func (PySem.W.fnOf "law" "law" (defArgs s_law) (defBody s_law) (defScope s_law) .none kV_law dc_law pm_law an_law cd_law ct_law), sl_law⟩)
    (c_law : PySem.W.codeIn K cd_law "law" = true)
    (k_law : PySem.W.keepIn K (.ref f_law) = true)
    (a_Words_init : PySem.W.findIn K (.ref C_Words) "__init__" = some (some (.ref f_Words_init)))
    (l_Words_init : K.lookup f_Words_init = some ⟨oc_Words_init, od_Words_init, .func (PySem.W.fnOf "__init__" "Words.__init__" (defArgs s_Words_init) (defBody s_Words_init) (defScope s_Words_init) (.ref dT_Words_init) kV_Words_init dc_Words_init pm_Words_init an_Words_init cd_Words_init ct_Words_init), sl_Words_init⟩)
    (d_Words_init : K.lookup dT_Words_init = some ⟨dC_Words_init, dD_Words_init, .seq dv_Words_init dN_Words_init, dS_Words_init⟩)
    (dv1_Words_init : ∃ its, dv_Words_init = its.toArray ∧ Vals ([V.int 0] : List V) its)
    (c_Words_init : PySem.W.codeIn K cd_Words_init "Words.__init__" = true)
    (k_Words_init : PySem.W.keepIn K (.ref f_Words_init) = true)
    (a_Words_upcoming : PySem.W.findIn K (.ref C_Words) "upcoming" = some (some (.ref f_Words_upcoming)))
    (l_Words_upcoming : K.lookup f_Words_upcoming = some ⟨oc_Words_upcoming, od_Words_upcoming, .func (PySem.W.fnOf "upcoming" "Words.upcoming" (defArgs s_Words_upcoming) (defBody s_Words_upcoming) (defScope s_Words_upcoming) .none kV_Words_upcoming dc_Words_upcoming pm_Words_upcoming an_Words_upcoming cd_Words_upcoming ct_Words_upcoming), sl_Words_upcoming⟩)
    (c_Words_upcoming : PySem.W.codeIn K cd_Words_upcoming "Words.upcoming" = true)
    (k_Words_upcoming : PySem.W.keepIn K (.ref f_Words_upcoming) = true)
    (a_Words_take : PySem.W.findIn K (.ref C_Words) "take" = some (some (.ref f_Words_take)))
    (l_Words_take : K.lookup f_Words_take = some ⟨oc_Words_take, od_Words_take, .func (PySem.W.fnOf "take" "Words.take" (defArgs s_Words_take) (defBody s_Words_take) (defScope s_Words_take) .none kV_Words_take dc_Words_take pm_Words_take an_Words_take cd_Words_take ct_Words_take), sl_Words_take⟩)
    (c_Words_take : PySem.W.codeIn K cd_Words_take "Words.take" = true)
    (k_Words_take : PySem.W.keepIn K (.ref f_Words_take) = true)
    (a_Words_take_number : PySem.W.findIn K (.ref C_Words) "take_number" = some (some (.ref f_Words_take_number)))
    (l_Words_take_number : K.lookup f_Words_take_number = some ⟨oc_Words_take_number, od_Words_take_number, .func (PySem.W.fnOf "take_number" "Words.take_number" (defArgs s_Words_take_number) (defBody s_Words_take_number) (defScope s_Words_take_number) .none kV_Words_take_number dc_Words_take_number pm_Words_take_number an_Words_take_number cd_Words_take_number ct_Words_take_number), sl_Words_take_number⟩)
    (c_Words_take_number : PySem.W.codeIn K cd_Words_take_number "Words.take_number" = true)
    (k_Words_take_number : PySem.W.keepIn K (.ref f_Words_take_number) = true)
    (a_Words_finish : PySem.W.findIn K (.ref C_Words) "finish" = some (some (.ref f_Words_finish)))
    (l_Words_finish : K.lookup f_Words_finish = some ⟨oc_Words_finish, od_Words_finish, .func (PySem.W.fnOf "finish" "Words.finish" (defArgs s_Words_finish) (defBody s_Words_finish) (defScope s_Words_finish) .none kV_Words_finish dc_Words_finish pm_Words_finish an_Words_finish cd_Words_finish ct_Words_finish), sl_Words_finish⟩)
    (c_Words_finish : PySem.W.codeIn K cd_Words_finish "Words.finish" = true)
    (k_Words_finish : PySem.W.keepIn K (.ref f_Words_finish) = true)
    (a_Train_init : PySem.W.findIn K (.ref C_Train) "__init__" = some (some (.ref f_Train_init)))
    (l_Train_init : K.lookup f_Train_init = some ⟨oc_Train_init, od_Train_init, .func (PySem.W.fnOf "__init__" "Train.__init__" (defArgs s_Train_init) (defBody s_Train_init) (defScope s_Train_init) .none (.ref kD_Train_init) dc_Train_init pm_Train_init an_Train_init cd_Train_init ct_Train_init), sl_Train_init⟩)
    (kd_Train_init_slip : PySem.W.nsIn K kD_Train_init "slip" = some (some (.ref C_slD)))
    (c_Train_init : PySem.W.codeIn K cd_Train_init "Train.__init__" = true)
    (k_Train_init : PySem.W.keepIn K (.ref f_Train_init) = true)
    (a_Train_read : CStat K C_Train (.type "type") "read" p_Train_read f_Train_read)
    (l_Train_read : K.lookup f_Train_read = some ⟨oc_Train_read, od_Train_read, .func (PySem.W.fnOf "read" "Train.read" (defArgs s_Train_read) (defBody s_Train_read) (defScope s_Train_read) .none kV_Train_read dc_Train_read pm_Train_read an_Train_read cd_Train_read ct_Train_read), sl_Train_read⟩)
    (c_Train_read : PySem.W.codeIn K cd_Train_read "Train.read" = true)
    (k_Train_read : PySem.W.keepIn K (.ref f_Train_read) = true)
    (a_Train_again : PySem.W.findIn K (.ref C_Train) "again" = some (some (.ref p_Train_again)))
    (r_Train_again : PySem.W.recIn K p_Train_again "property" = some (.ref f_Train_again :: rest_Train_again))
    (l_Train_again : K.lookup f_Train_again = some ⟨oc_Train_again, od_Train_again, .func (PySem.W.fnOf "again" "Train.again" (defArgs s_Train_again) (defBody s_Train_again) (defScope s_Train_again) .none kV_Train_again dc_Train_again pm_Train_again an_Train_again cd_Train_again ct_Train_again), sl_Train_again⟩)
    (c_Train_again : PySem.W.codeIn K cd_Train_again "Train.again" = true)
    (k_Train_again : PySem.W.keepIn K (.ref f_Train_again) = true)
    (a_Train_len : PySem.W.findIn K (.ref C_Train) "__len__" = some (some (.ref f_Train_len)))
    (l_Train_len : K.lookup f_Train_len = some ⟨oc_Train_len, od_Train_len, .func (PySem.W.fnOf "__len__" "Train.__len__" (defArgs s_Train_len) (defBody s_Train_len) (defScope s_Train_len) .none kV_Train_len dc_Train_len pm_Train_len an_Train_len cd_Train_len ct_Train_len), sl_Train_len⟩)
    (c_Train_len : PySem.W.codeIn K cd_Train_len "Train.__len__" = true)
    (k_Train_len : PySem.W.keepIn K (.ref f_Train_len) = true)
    (a_Train_iter : PySem.W.findIn K (.ref C_Train) "__iter__" = some (some (.ref f_Train_iter)))
    (l_Train_iter : K.lookup f_Train_iter = some ⟨oc_Train_iter, od_Train_iter, .func (PySem.W.fnOf "__iter__" "Train.__iter__" (defArgs s_Train_iter) (defBody s_Train_iter) (defScope s_Train_iter) .none kV_Train_iter dc_Train_iter pm_Train_iter an_Train_iter cd_Train_iter ct_Train_iter), sl_Train_iter⟩)
    (c_Train_iter : PySem.W.codeIn K cd_Train_iter "Train.__iter__" = true)
    (k_Train_iter : PySem.W.keepIn K (.ref f_Train_iter) = true)
    (a_Train_getitem : PySem.W.findIn K (.ref C_Train) "__getitem__" = some (some (.ref f_Train_getitem)))
    (l_Train_getitem : K.lookup f_Train_getitem = some ⟨oc_Train_getitem, od_Train_getitem, .func (PySem.W.fnOf "__getitem__" "Train.__getitem__" (defArgs s_Train_getitem) (defBody s_Train_getitem) (defScope s_Train_getitem) .none kV_Train_getitem dc_Train_getitem pm_Train_getitem an_Train_getitem cd_Train_getitem ct_Train_getitem), sl_Train_getitem⟩)
    (c_Train_getitem : PySem.W.codeIn K cd_Train_getitem "Train.__getitem__" = true)
    (k_Train_getitem : PySem.W.keepIn K (.ref f_Train_getitem) = true)
    (a_Train_add : PySem.W.findIn K (.ref C_Train) "__add__" = some (some (.ref f_Train_add)))
    (l_Train_add : K.lookup f_Train_add = some ⟨oc_Train_add, od_Train_add, .func (PySem.W.fnOf "__add__" "Train.__add__" (defArgs s_Train_add) (defBody s_Train_add) (defScope s_Train_add) .none kV_Train_add dc_Train_add pm_Train_add an_Train_add cd_Train_add ct_Train_add), sl_Train_add⟩)
    (c_Train_add : PySem.W.codeIn K cd_Train_add "Train.__add__" = true)
    (k_Train_add : PySem.W.keepIn K (.ref f_Train_add) = true)
    (a_Train_eq : PySem.W.findIn K (.ref C_Train) "__eq__" = some (some (.ref f_Train_eq)))
    (l_Train_eq : K.lookup f_Train_eq = some ⟨oc_Train_eq, od_Train_eq, .func (PySem.W.fnOf "__eq__" "Train.__eq__" (defArgs s_Train_eq) (defBody s_Train_eq) (defScope s_Train_eq) .none kV_Train_eq dc_Train_eq pm_Train_eq an_Train_eq cd_Train_eq ct_Train_eq), sl_Train_eq⟩)
    (c_Train_eq : PySem.W.codeIn K cd_Train_eq "Train.__eq__" = true)
    (k_Train_eq : PySem.W.keepIn K (.ref f_Train_eq) = true)
    (a_Train_str : PySem.W.findIn K (.ref C_Train) "__str__" = some (some (.ref f_Train_str)))
    (l_Train_str : K.lookup f_Train_str = some ⟨oc_Train_str, od_Train_str, .func (PySem.W.fnOf "__str__" "Train.__str__" (defArgs s_Train_str) (defBody s_Train_str) (defScope s_Train_str) .none kV_Train_str dc_Train_str pm_Train_str an_Train_str cd_Train_str ct_Train_str), sl_Train_str⟩)
    (c_Train_str : PySem.W.codeIn K cd_Train_str "Train.__str__" = true)
    (k_Train_str : PySem.W.keepIn K (.ref f_Train_str) = true)
    (a_Train_stands : PySem.W.findIn K (.ref C_Train) "stands" = some (some (.ref f_Train_stands)))
    (l_Train_stands : K.lookup f_Train_stands = some ⟨oc_Train_stands, od_Train_stands, .func (PySem.W.fnOf "stands" "Train.stands" (defArgs s_Train_stands) (defBody s_Train_stands) (defScope s_Train_stands) .none kV_Train_stands dc_Train_stands pm_Train_stands an_Train_stands cd_Train_stands ct_Train_stands), sl_Train_stands⟩)
    (c_Train_stands : PySem.W.codeIn K cd_Train_stands "Train.stands" = true)
    (k_Train_stands : PySem.W.keepIn K (.ref f_Train_stands) = true)
    (i_gcd : PySem.W.nsIn K mainGlobals "gcd" = some (some (.builtin "math.gcd")))
    (z_ValueError : PySem.W.nsIn K mainGlobals "ValueError" = some none)
    (z_abs : PySem.W.nsIn K mainGlobals "abs" = some none)
    (z_bool : PySem.W.nsIn K mainGlobals "bool" = some none)
    (z_enumerate : PySem.W.nsIn K mainGlobals "enumerate" = some none)
    (z_int : PySem.W.nsIn K mainGlobals "int" = some none)
    (z_isinstance : PySem.W.nsIn K mainGlobals "isinstance" = some none)
    (z_iter : PySem.W.nsIn K mainGlobals "iter" = some none)
    (z_len : PySem.W.nsIn K mainGlobals "len" = some none)
    (z_list : PySem.W.nsIn K mainGlobals "list" = some none)
    (z_max : PySem.W.nsIn K mainGlobals "max" = some none)
    (z_property : PySem.W.nsIn K mainGlobals "property" = some none)
    (z_range : PySem.W.nsIn K mainGlobals "range" = some none)
    (z_repr : PySem.W.nsIn K mainGlobals "repr" = some none)
    (z_staticmethod : PySem.W.nsIn K mainGlobals "staticmethod" = some none)
    (z_str : PySem.W.nsIn K mainGlobals "str" = some none)
    (z_tuple : PySem.W.nsIn K mainGlobals "tuple" = some none)
    (x_MD : PySem.W.nsIn K mainGlobals "MOST_DIGITS" = some (some (.int 120 tD)))
    (x_MP : PySem.W.nsIn K mainGlobals "MOST_PART" = some (some (.int 1000000 tP)))
    (x_MT : PySem.W.nsIn K mainGlobals "MOST_TEETH" = some (some (.int 1000 tT)))
    (x_MG : PySem.W.nsIn K mainGlobals "MOST_GEARS" = some (some (.int 6 tG)))
    (x_Words : PySem.W.nsIn K mainGlobals "Words" = some (some (.ref C_Words)))
    (x_Train : PySem.W.nsIn K mainGlobals "Train" = some (some (.ref C_Train)))
    (x_hn : PySem.W.specialIn K (.builtin "object.__class__") "__get__" = some (some (.builtin "getset_descriptor.__get__")))
    (x_ht : PySem.W.takesIn K (.builtin "object.__class__") = some true)
    (s_slD : K.lookup C_slD = some ⟨.type "tuple", dd_slD, .seq sv_slD n_slD, ss_slD⟩)
    (v_slD : ∃ its, sv_slD = its.toArray ∧ Vals ([V.int 0, V.int 1] : List V) its)
    (w_cls : Cls K C_Words)
    (w_n1 : NoAttr K C_Words "words")
    (w_n2 : NoAttr K C_Words "line")
    (w_n3 : NoAttr K C_Words "at")
    (w_m1 : PySem.W.makesIn K C_Words = true)
    (w_m3 : PySem.W.isFn K (.ref f_Words_init) = true)
    (w_m4 : PySem.W.keepIn K (.ref C_Words) = true)
    (w_f0 : PySem.W.isFn K (.ref f_Words_upcoming) = true)
    (w_f1 : PySem.W.isFn K (.ref f_Words_take) = true)
    (w_f2 : PySem.W.isFn K (.ref f_Words_take_number) = true)
    (w_f3 : PySem.W.isFn K (.ref f_Words_finish) = true)
    (t_cls : Cls K C_Train)
    (t_n0 : NoAttr K C_Train "_gears")
    (t_n1 : NoAttr K C_Train "periods")
    (t_n2 : NoAttr K C_Train "slips")
    (t_n3 : NoAttr K C_Train "unit")
    (t_m1 : PySem.W.makesIn K C_Train = true)
    (t_m3 : PySem.W.isFn K (.ref f_Train_init) = true)
    (t_m4 : PySem.W.keepIn K (.ref C_Train) = true)
    (t_flen : PySem.W.isFn K (.ref f_Train_len) = true)
    (t_fiter : PySem.W.isFn K (.ref f_Train_iter) = true)
    (t_fgetitem : PySem.W.isFn K (.ref f_Train_getitem) = true)
    (t_fstr : PySem.W.isFn K (.ref f_Train_str) = true)
    (t_feq : PySem.W.isFn K (.ref f_Train_eq) = true)
    (t_fadd : PySem.W.isFn K (.ref f_Train_add) = true)
    (t_fstands : PySem.W.isFn K (.ref f_Train_stands) = true)
    (t_ha : PySem.W.findIn K (.ref C_Train) "__class__" = some (some (.builtin "object.__class__")))
    (t_hm : PySem.W.mroIn K C_Train (.type "object") = some true)
    (t_kT : PySem.W.kitOne K (.ref C_Train) (.ref C_Train) = some true)
    (t_kS : PySem.W.kitOne K (.type "str") (.ref C_Train) = some false)
    (t_nT : PySem.W.notFirst K C_Train (.ref C_Train) = true)
    (t_nS : PySem.W.notFirst K C_Train (.type "str") = true)
    (t_ne : PySem.W.findIn K (.ref C_Train) "__ne__" = some (some (.builtin "object.__ne__")))
    (t_sf : PySem.W.selfFirst K C_Train = true)
    (t_ra : PySem.W.findIn K (.ref C_Train) "__radd__" = some Option.none)
    (t_h1 : ∃ fo, PySem.W.findIn K (.type "tuple") "__add__" = some fo)
    (t_h2 : ∃ fo, PySem.W.findIn K (.type "tuple") "__radd__" = some fo)
    (t_su : PySem.W.subIn K (.type "tuple") (.ref C_Train) = some false)
    (t_pg : PySem.W.specialIn K (.ref p_Train_again) "__get__" = some (some (.builtin "property.__get__")))
    (t_pt : PySem.W.takesIn K (.ref p_Train_again) = some true)
    (t_r1 : PySem.W.readsIn K C_Train (.type "type") = true)
    (t_r2 : PySem.W.specialIn K (.ref C_Train) "__getattribute__" = some (some (.builtin "type.__getattribute__"))) :
    LawG l w K 22 mg fa h := by
  have e := hfa.symm.trans (PySem.W.mg_of X G a_law)
  cases e
  let T : Txt K mg := { a_is_whole := f_is_whole, fd_is_whole := _, F_is_whole := fun_mk (st := s_is_whole) l_is_whole c_is_whole k_is_whole, m_is_whole := PySem.W.mg_of X G a_is_whole, a_is_from := f_is_from, fd_is_from := _, F_is_from := fun_mk (st := s_is_from) l_is_from c_is_from k_is_from, m_is_from := PySem.W.mg_of X G a_is_from, a_is_between := f_is_between, fd_is_between := _, F_is_between := fun_mk (st := s_is_between) l_is_between c_is_between k_is_between, m_is_between := PySem.W.mg_of X G a_is_between, a_common := f_common, fd_common := _, F_common := fun_mk (st := s_common) l_common c_common k_common, m_common := PySem.W.mg_of X G a_common, a_multiple := f_multiple, fd_multiple := _, F_multiple := fun_mk (st := s_multiple) l_multiple c_multiple k_multiple, m_multiple := PySem.W.mg_of X G a_multiple, a_number_in := f_number_in, fd_number_in := _, F_number_in := fun_mk (st := s_number_in) l_number_in c_number_in k_number_in, m_number_in := PySem.W.mg_of X G a_number_in, a_is_fraction := f_is_fraction, fd_is_fraction := _, F_is_fraction := fun_mk (st := s_is_fraction) l_is_fraction c_is_fraction k_is_fraction, m_is_fraction := PySem.W.mg_of X G a_is_fraction, a_least_terms := f_least_terms, fd_least_terms := _, F_least_terms := fun_mk (st := s_least_terms) l_least_terms c_least_terms k_least_terms, m_least_terms := PySem.W.mg_of X G a_least_terms, a_is_gear := f_is_gear, fd_is_gear := _, F_is_gear := fun_mk (st := s_is_gear) l_is_gear c_is_gear k_is_gear, m_is_gear := PySem.W.mg_of X G a_is_gear, a_need_gears := f_need_gears, fd_need_gears := _, F_need_gears := fun_mk (st := s_need_gears) l_need_gears c_need_gears k_need_gears, m_need_gears := PySem.W.mg_of X G a_need_gears, a_periods_of := f_periods_of, fd_periods_of := _, F_periods_of := fun_mk (st := s_periods_of) l_periods_of c_periods_of k_periods_of, m_periods_of := PySem.W.mg_of X G a_periods_of, a_gear_words := f_gear_words, fd_gear_words := _, F_gear_words := fun_mk (st := s_gear_words) l_gear_words c_gear_words k_gear_words, m_gear_words := PySem.W.mg_of X G a_gear_words, a_take_train := f_take_train, fd_take_train := _, F_take_train := fun_mk (st := s_take_train) l_take_train c_take_train k_take_train, m_take_train := PySem.W.mg_of X G a_take_train, a_take_gear := f_take_gear, fd_take_gear := _, F_take_gear := fun_mk (st := s_take_gear) l_take_gear c_take_gear k_take_gear, m_take_gear := PySem.W.mg_of X G a_take_gear, a_take_fraction := f_take_fraction, fd_take_fraction := _, F_take_fraction := fun_mk (st := s_take_fraction) l_take_fraction c_take_fraction k_take_fraction, m_take_fraction := PySem.W.mg_of X G a_take_fraction, a_pen := f_pen, fd_pen := _, F_pen := fun_mk (st := s_pen) l_pen c_pen k_pen, m_pen := PySem.W.mg_of X G a_pen, a_draw := f_draw, fd_draw := _, F_draw := fun_mk (st := s_draw) l_draw c_draw k_draw, m_draw := PySem.W.mg_of X G a_draw, a_pick := f_pick, fd_pick := _, F_pick := fun_mk (st := s_pick) l_pick c_pick k_pick, m_pick := PySem.W.mg_of X G a_pick, a_shared := f_shared, fd_shared := _, F_shared := fun_mk (st := s_shared) l_shared c_shared k_shared, m_shared := PySem.W.mg_of X G a_shared, a_lowest := f_lowest, fd_lowest := _, F_lowest := fun_mk (st := s_lowest) l_lowest c_lowest k_lowest, m_lowest := PySem.W.mg_of X G a_lowest, a_by_multiple := f_by_multiple, fd_by_multiple := _, F_by_multiple := fun_mk (st := s_by_multiple) l_by_multiple c_by_multiple k_by_multiple, m_by_multiple := PySem.W.mg_of X G a_by_multiple, a_periods := f_periods, fd_periods := _, F_periods := fun_mk (st := s_periods) l_periods c_periods k_periods, m_periods := PySem.W.mg_of X G a_periods, a_train := f_train, fd_train := _, F_train := fun_mk (st := s_train) l_train c_train k_train, m_train := PySem.W.mg_of X G a_train, a_fraction := f_fraction, fd_fraction := _, F_fraction := fun_mk (st := s_fraction) l_fraction c_fraction k_fraction, m_fraction := PySem.W.mg_of X G a_fraction, a_gears := f_gears, fd_gears := _, F_gears := fun_mk (st := s_gears) l_gears c_gears k_gears, m_gears := PySem.W.mg_of X G a_gears, a_period := f_period, fd_period := _, F_period := fun_mk (st := s_period) l_period c_period k_period, m_period := PySem.W.mg_of X G a_period, a_text := f_text, fd_text := _, F_text := fun_mk (st := s_text) l_text c_text k_text, m_text := PySem.W.mg_of X G a_text, a_stands := f_stands, fd_stands := _, F_stands := fun_mk (st := s_stands) l_stands c_stands k_stands, m_stands := PySem.W.mg_of X G a_stands, a_right := f_right, fd_right := _, F_right := fun_mk (st := s_right) l_right c_right k_right, m_right := PySem.W.mg_of X G a_right, a_told_alike := f_told_alike, fd_told_alike := _, F_told_alike := fun_mk (st := s_told_alike) l_told_alike c_told_alike k_told_alike, m_told_alike := PySem.W.mg_of X G a_told_alike, a_law := fa, fd_law := _, F_law := fun_mk (st := s_law) l_law c_law k_law, m_law := PySem.W.mg_of X G a_law, a_Words_init := f_Words_init, fd_Words_init := _, F_Words_init := ⟨⟨_, _, _, _, _, _, _, _, _, _, rfl, l_Words_init, c_Words_init, .inr ⟨by simp, by obtain ⟨its, e1, e2⟩ := dv1_Words_init; exact ⟨_, _, its, _, rfl, d_Words_init, by rw [e1], e2⟩⟩, .inl rfl⟩, k_Words_init⟩, a_Words_upcoming := f_Words_upcoming, fd_Words_upcoming := _, F_Words_upcoming := fun_mk (st := s_Words_upcoming) l_Words_upcoming c_Words_upcoming k_Words_upcoming, a_Words_take := f_Words_take, fd_Words_take := _, F_Words_take := fun_mk (st := s_Words_take) l_Words_take c_Words_take k_Words_take, a_Words_take_number := f_Words_take_number, fd_Words_take_number := _, F_Words_take_number := fun_mk (st := s_Words_take_number) l_Words_take_number c_Words_take_number k_Words_take_number, a_Words_finish := f_Words_finish, fd_Words_finish := _, F_Words_finish := fun_mk (st := s_Words_finish) l_Words_finish c_Words_finish k_Words_finish, a_Train_init := f_Train_init, fd_Train_init := _, F_Train_init := ⟨⟨_, _, _, _, _, _, _, _, _, _, rfl, l_Train_init, c_Train_init, .inl ⟨rfl, rfl⟩, .inr ⟨_, rfl, fun q hq => by rw [List.mem_singleton.mp hq]; exact ⟨_, kd_Train_init_slip, rfl⟩⟩⟩, k_Train_init⟩, a_Train_read := f_Train_read, fd_Train_read := _, F_Train_read := fun_mk (st := s_Train_read) l_Train_read c_Train_read k_Train_read, a_Train_again := f_Train_again, fd_Train_again := _, F_Train_again := fun_mk (st := s_Train_again) l_Train_again c_Train_again k_Train_again, a_Train_len := f_Train_len, fd_Train_len := _, F_Train_len := fun_mk (st := s_Train_len) l_Train_len c_Train_len k_Train_len, a_Train_iter := f_Train_iter, fd_Train_iter := _, F_Train_iter := fun_mk (st := s_Train_iter) l_Train_iter c_Train_iter k_Train_iter, a_Train_getitem := f_Train_getitem, fd_Train_getitem := _, F_Train_getitem := fun_mk (st := s_Train_getitem) l_Train_getitem c_Train_getitem k_Train_getitem, a_Train_add := f_Train_add, fd_Train_add := _, F_Train_add := fun_mk (st := s_Train_add) l_Train_add c_Train_add k_Train_add, a_Train_eq := f_Train_eq, fd_Train_eq := _, F_Train_eq := fun_mk (st := s_Train_eq) l_Train_eq c_Train_eq k_Train_eq, a_Train_str := f_Train_str, fd_Train_str := _, F_Train_str := fun_mk (st := s_Train_str) l_Train_str c_Train_str k_Train_str, a_Train_stands := f_Train_stands, fd_Train_stands := _, F_Train_stands := fun_mk (st := s_Train_stands) l_Train_stands c_Train_stands k_Train_stands, m_gcd := PySem.W.mg_of X G i_gcd, n_ValueError := PySem.W.mg_none_of X G z_ValueError, n_abs := PySem.W.mg_none_of X G z_abs, n_bool := PySem.W.mg_none_of X G z_bool, n_enumerate := PySem.W.mg_none_of X G z_enumerate, n_int := PySem.W.mg_none_of X G z_int, n_isinstance := PySem.W.mg_none_of X G z_isinstance, n_iter := PySem.W.mg_none_of X G z_iter, n_len := PySem.W.mg_none_of X G z_len, n_list := PySem.W.mg_none_of X G z_list, n_max := PySem.W.mg_none_of X G z_max, n_property := PySem.W.mg_none_of X G z_property, n_range := PySem.W.mg_none_of X G z_range, n_repr := PySem.W.mg_none_of X G z_repr, n_staticmethod := PySem.W.mg_none_of X G z_staticmethod, n_str := PySem.W.mg_none_of X G z_str, n_tuple := PySem.W.mg_none_of X G z_tuple, a_Words := C_Words, m_Words := PySem.W.mg_of X G x_Words, a_Train := C_Train, m_Train := PySem.W.mg_of X G x_Train, p_read := p_Train_read, slD := C_slD, slK := fun H => by obtain ⟨its, e, v⟩ := v_slD; exact .inr ⟨_, _, _, s_slD, rfl, rfl, by rw [e]; have := v.length; simp at this ⊢; rw [← this]; decide, by rw [e]; exact v⟩, u_MD := .int 120 tD, m_MD := PySem.W.mg_of X G x_MD, r_MD := ⟨_, rfl⟩, u_MP := .int 1000000 tP, m_MP := PySem.W.mg_of X G x_MP, r_MP := ⟨_, rfl⟩, u_MT := .int 1000 tT, m_MT := PySem.W.mg_of X G x_MT, r_MT := ⟨_, rfl⟩, u_MG := .int 6 tG, m_MG := PySem.W.mg_of X G x_MG, r_MG := ⟨_, rfl⟩, wcls := w_cls, wmk := ⟨w_m1, a_Words_init, w_m3, w_m4⟩, w_upcoming := ⟨a_Words_upcoming, w_f0, k_Words_upcoming⟩, w_take := ⟨a_Words_take, w_f1, k_Words_take⟩, w_take_number := ⟨a_Words_take_number, w_f2, k_Words_take_number⟩, w_finish := ⟨a_Words_finish, w_f3, k_Words_finish⟩, w_na := fun y hy => by simp only [List.mem_cons, List.not_mem_nil, or_false] at hy; rcases hy with rfl | rfl | rfl; exact w_n1; exact w_n2; exact w_n3, tcls := t_cls, tmk := ⟨t_m1, a_Train_init, t_m3, t_m4⟩, t_stands := ⟨a_Train_stands, t_fstands, k_Train_stands⟩, t_na := fun y hy => by simp only [List.mem_cons, List.not_mem_nil, or_false] at hy; rcases hy with rfl | rfl | rfl | rfl; exact t_n0; exact t_n1; exact t_n2; exact t_n3, kiT := fun H a dx fs e => .base (.ins e t_cls t_ha x_hn x_ht t_hm), kTT := t_kT, kSt := t_kS, nfT := t_nT, nfS := t_nS, mroO := t_hm, fi_eq := a_Train_eq, fi_ne := t_ne, fn_eq := t_feq, addO := ⟨t_sf, a_Train_add, t_fadd, t_ra, t_h1, t_h2, t_su⟩, p_again := p_Train_again, pr_again := ⟨a_Train_again, t_pg, t_pt, ⟨_, r_Train_again⟩⟩, fi_len := a_Train_len, fn_len := t_flen, fi_iter := a_Train_iter, fn_iter := t_fiter, fi_get := a_Train_getitem, fn_get := t_fgetitem, fi_str := a_Train_str, fn_str := t_fstr, rdT := ⟨t_r1, t_r2⟩, st_read := a_Train_read }
  refine ⟨[], spLaw K, fun p hp => absurd hp List.not_mem_nil, fun p hp => absurd hp List.not_mem_nil, fun p hp => absurd hp List.not_mem_nil, fun H a ns hl hb tt hS => ⟨a, ns, rfl, hS, hl, fun _ => rfl⟩, fun base KB NB TBs => ok_law T⟩
end My
open PySem PySem.W PyProof.Rows in
set_option maxRecDepth 100000 in
set_option maxHeartbeats 0 in
theorem PySem.Challenge.cw_wheelreach_k74_trains_made_and_read_holds : PySem.Challenge.rw_wheelreach_k74_trains_made_and_read.Holds := by
  w_on; o_law; k_head; (case hw => w_witness2)
  k_fill
  refine My.walkG (l := PySem.Challenge.rw_wheelreach_k74_trains_made_and_read) (k := 22) [] (by decide +kernel) rfl rfl ⟨rfl, by decide, by decide⟩ (fun w h Y => PySem.W.kIn_of Y) ?F
  case F =>
    intro w mg fa h KX G hmg tabs
    refine' My.all_mk KX G hmg tabs ?a_is_whole ?l_is_whole ?c_is_whole ?k_is_whole ?a_is_from ?l_is_from ?c_is_from ?k_is_from ?a_is_between ?l_is_between ?c_is_between ?k_is_between ?a_common ?l_common ?c_common ?k_common ?a_multiple ?l_multiple ?c_multiple ?k_multiple ?a_number_in ?l_number_in ?c_number_in ?k_number_in ?a_is_fraction ?l_is_fraction ?c_is_fraction ?k_is_fraction ?a_least_terms ?l_least_terms ?c_least_terms ?k_least_terms ?a_is_gear ?l_is_gear ?c_is_gear ?k_is_gear ?a_need_gears ?l_need_gears ?c_need_gears ?k_need_gears ?a_periods_of ?l_periods_of ?c_periods_of ?k_periods_of ?a_gear_words ?l_gear_words ?c_gear_words ?k_gear_words ?a_take_train ?l_take_train ?c_take_train ?k_take_train ?a_take_gear ?l_take_gear ?c_take_gear ?k_take_gear ?a_take_fraction ?l_take_fraction ?c_take_fraction ?k_take_fraction ?a_pen ?l_pen ?c_pen ?k_pen ?a_draw ?l_draw ?c_draw ?k_draw ?a_pick ?l_pick ?c_pick ?k_pick ?a_shared ?l_shared ?c_shared ?k_shared ?a_lowest ?l_lowest ?c_lowest ?k_lowest ?a_by_multiple ?l_by_multiple ?c_by_multiple ?k_by_multiple ?a_periods ?l_periods ?c_periods ?k_periods ?a_train ?l_train ?c_train ?k_train ?a_fraction ?l_fraction ?c_fraction ?k_fraction ?a_gears ?l_gears ?c_gears ?k_gears ?a_period ?l_period ?c_period ?k_period ?a_text ?l_text ?c_text ?k_text ?a_stands ?l_stands ?c_stands ?k_stands ?a_right ?l_right ?c_right ?k_right ?a_told_alike ?l_told_alike ?c_told_alike ?k_told_alike ?a_law ?l_law ?c_law ?k_law ?a_Words_init ?l_Words_init ?d_Words_init ?dv1_Words_init ?c_Words_init ?k_Words_init ?a_Words_upcoming ?l_Words_upcoming ?c_Words_upcoming ?k_Words_upcoming ?a_Words_take ?l_Words_take ?c_Words_take ?k_Words_take ?a_Words_take_number ?l_Words_take_number ?c_Words_take_number ?k_Words_take_number ?a_Words_finish ?l_Words_finish ?c_Words_finish ?k_Words_finish ?a_Train_init ?l_Train_init ?kd_Train_init_slip ?c_Train_init ?k_Train_init ?a_Train_read ?l_Train_read ?c_Train_read ?k_Train_read ?a_Train_again ?r_Train_again ?l_Train_again ?c_Train_again ?k_Train_again ?a_Train_len ?l_Train_len ?c_Train_len ?k_Train_len ?a_Train_iter ?l_Train_iter ?c_Train_iter ?k_Train_iter ?a_Train_getitem ?l_Train_getitem ?c_Train_getitem ?k_Train_getitem ?a_Train_add ?l_Train_add ?c_Train_add ?k_Train_add ?a_Train_eq ?l_Train_eq ?c_Train_eq ?k_Train_eq ?a_Train_str ?l_Train_str ?c_Train_str ?k_Train_str ?a_Train_stands ?l_Train_stands ?c_Train_stands ?k_Train_stands ?i_gcd ?z_ValueError ?z_abs ?z_bool ?z_enumerate ?z_int ?z_isinstance ?z_iter ?z_len ?z_list ?z_max ?z_property ?z_range ?z_repr ?z_staticmethod ?z_str ?z_tuple ?x_MD ?x_MP ?x_MT ?x_MG ?x_Words ?x_Train ?x_hn ?x_ht ?s_slD ?v_slD ?w_cls ?w_n1 ?w_n2 ?w_n3 ?w_m1 ?w_m3 ?w_m4 ?w_f0 ?w_f1 ?w_f2 ?w_f3 ?t_cls ?t_n0 ?t_n1 ?t_n2 ?t_n3 ?t_m1 ?t_m3 ?t_m4 ?t_flen ?t_fiter ?t_fgetitem ?t_fstr ?t_feq ?t_fadd ?t_fstands ?t_ha ?t_hm ?t_kT ?t_kS ?t_nT ?t_nS ?t_ne ?t_sf ?t_ra ?t_h1 ?t_h2 ?t_su ?t_pg ?t_pt ?t_r1 ?t_r2
    (case x_MD => k_is)
    (case x_MP => k_is)
    (case x_MT => k_is)
    (case x_MG => k_is)
    (case x_Words => k_is)
    (case x_Train => k_is)
    (case a_is_whole => k_is)
    (case l_is_whole => k_is)
    (case c_is_whole => k_is)
    (case k_is_whole => k_is)
    (case a_is_from => k_is)
    (case l_is_from => k_is)
    (case c_is_from => k_is)
    (case k_is_from => k_is)
    (case a_is_between => k_is)
    (case l_is_between => k_is)
    (case c_is_between => k_is)
    (case k_is_between => k_is)
    (case a_common => k_is)
    (case l_common => k_is)
    (case c_common => k_is)
    (case k_common => k_is)
    (case a_multiple => k_is)
    (case l_multiple => k_is)
    (case c_multiple => k_is)
    (case k_multiple => k_is)
    (case a_number_in => k_is)
    (case l_number_in => k_is)
    (case c_number_in => k_is)
    (case k_number_in => k_is)
    (case a_is_fraction => k_is)
    (case l_is_fraction => k_is)
    (case c_is_fraction => k_is)
    (case k_is_fraction => k_is)
    (case a_least_terms => k_is)
    (case l_least_terms => k_is)
    (case c_least_terms => k_is)
    (case k_least_terms => k_is)
    (case a_is_gear => k_is)
    (case l_is_gear => k_is)
    (case c_is_gear => k_is)
    (case k_is_gear => k_is)
    (case a_need_gears => k_is)
    (case l_need_gears => k_is)
    (case c_need_gears => k_is)
    (case k_need_gears => k_is)
    (case a_periods_of => k_is)
    (case l_periods_of => k_is)
    (case c_periods_of => k_is)
    (case k_periods_of => k_is)
    (case a_gear_words => k_is)
    (case l_gear_words => k_is)
    (case c_gear_words => k_is)
    (case k_gear_words => k_is)
    (case a_take_train => k_is)
    (case l_take_train => k_is)
    (case c_take_train => k_is)
    (case k_take_train => k_is)
    (case a_take_gear => k_is)
    (case l_take_gear => k_is)
    (case c_take_gear => k_is)
    (case k_take_gear => k_is)
    (case a_take_fraction => k_is)
    (case l_take_fraction => k_is)
    (case c_take_fraction => k_is)
    (case k_take_fraction => k_is)
    (case a_pen => k_is)
    (case l_pen => k_is)
    (case c_pen => k_is)
    (case k_pen => k_is)
    (case a_draw => k_is)
    (case l_draw => k_is)
    (case c_draw => k_is)
    (case k_draw => k_is)
    (case a_pick => k_is)
    (case l_pick => k_is)
    (case c_pick => k_is)
    (case k_pick => k_is)
    (case a_shared => k_is)
    (case l_shared => k_is)
    (case c_shared => k_is)
    (case k_shared => k_is)
    (case a_lowest => k_is)
    (case l_lowest => k_is)
    (case c_lowest => k_is)
    (case k_lowest => k_is)
    (case a_by_multiple => k_is)
    (case l_by_multiple => k_is)
    (case c_by_multiple => k_is)
    (case k_by_multiple => k_is)
    (case a_periods => k_is)
    (case l_periods => k_is)
    (case c_periods => k_is)
    (case k_periods => k_is)
    (case a_train => k_is)
    (case l_train => k_is)
    (case c_train => k_is)
    (case k_train => k_is)
    (case a_fraction => k_is)
    (case l_fraction => k_is)
    (case c_fraction => k_is)
    (case k_fraction => k_is)
    (case a_gears => k_is)
    (case l_gears => k_is)
    (case c_gears => k_is)
    (case k_gears => k_is)
    (case a_period => k_is)
    (case l_period => k_is)
    (case c_period => k_is)
    (case k_period => k_is)
    (case a_text => k_is)
    (case l_text => k_is)
    (case c_text => k_is)
    (case k_text => k_is)
    (case a_stands => k_is)
    (case l_stands => k_is)
    (case c_stands => k_is)
    (case k_stands => k_is)
    (case a_right => k_is)
    (case l_right => k_is)
    (case c_right => k_is)
    (case k_right => k_is)
    (case a_told_alike => k_is)
    (case l_told_alike => k_is)
    (case c_told_alike => k_is)
    (case k_told_alike => k_is)
    (case a_law => k_is)
    (case l_law => k_is)
    (case c_law => k_is)
    (case k_law => k_is)
    (case a_Words_init => k_is)
    (case l_Words_init => k_is)
    (case d_Words_init => k_is)
    (case dv1_Words_init => exact ⟨_, rfl, .cons ⟨_, rfl⟩ .nil⟩)
    (case c_Words_init => k_is)
    (case k_Words_init => k_is)
    (case a_Words_upcoming => k_is)
    (case l_Words_upcoming => k_is)
    (case c_Words_upcoming => k_is)
    (case k_Words_upcoming => k_is)
    (case a_Words_take => k_is)
    (case l_Words_take => k_is)
    (case c_Words_take => k_is)
    (case k_Words_take => k_is)
    (case a_Words_take_number => k_is)
    (case l_Words_take_number => k_is)
    (case c_Words_take_number => k_is)
    (case k_Words_take_number => k_is)
    (case a_Words_finish => k_is)
    (case l_Words_finish => k_is)
    (case c_Words_finish => k_is)
    (case k_Words_finish => k_is)
    (case a_Train_init => k_is)
    (case l_Train_init => k_is)
    (case kd_Train_init_slip => k_is)
    (case c_Train_init => k_is)
    (case k_Train_init => k_is)
    (case a_Train_read => exact ⟨by k_is, ⟨_, by k_is⟩, by k_is⟩)
    (case l_Train_read => k_is)
    (case c_Train_read => k_is)
    (case k_Train_read => k_is)
    (case a_Train_again => k_is)
    (case r_Train_again => k_is)
    (case l_Train_again => k_is)
    (case c_Train_again => k_is)
    (case k_Train_again => k_is)
    (case a_Train_len => k_is)
    (case l_Train_len => k_is)
    (case c_Train_len => k_is)
    (case k_Train_len => k_is)
    (case a_Train_iter => k_is)
    (case l_Train_iter => k_is)
    (case c_Train_iter => k_is)
    (case k_Train_iter => k_is)
    (case a_Train_getitem => k_is)
    (case l_Train_getitem => k_is)
    (case c_Train_getitem => k_is)
    (case k_Train_getitem => k_is)
    (case a_Train_add => k_is)
    (case l_Train_add => k_is)
    (case c_Train_add => k_is)
    (case k_Train_add => k_is)
    (case a_Train_eq => k_is)
    (case l_Train_eq => k_is)
    (case c_Train_eq => k_is)
    (case k_Train_eq => k_is)
    (case a_Train_str => k_is)
    (case l_Train_str => k_is)
    (case c_Train_str => k_is)
    (case k_Train_str => k_is)
    (case a_Train_stands => k_is)
    (case l_Train_stands => k_is)
    (case c_Train_stands => k_is)
    (case k_Train_stands => k_is)
    (case i_gcd => k_is)
    (case z_ValueError => k_is)
    (case z_abs => k_is)
    (case z_bool => k_is)
    (case z_enumerate => k_is)
    (case z_int => k_is)
    (case z_isinstance => k_is)
    (case z_iter => k_is)
    (case z_len => k_is)
    (case z_list => k_is)
    (case z_max => k_is)
    (case z_property => k_is)
    (case z_range => k_is)
    (case z_repr => k_is)
    (case z_staticmethod => k_is)
    (case z_str => k_is)
    (case z_tuple => k_is)
    (case x_hn => first | k_is | rfl | decide +kernel)
    (case x_ht => first | k_is | rfl | decide +kernel)
    (case s_slD => first | k_is | rfl | decide +kernel)
    (case v_slD => exact ⟨_, rfl, .cons ⟨_, rfl⟩ (.cons ⟨_, rfl⟩ .nil)⟩)
    (case w_cls => exact ⟨by k_is, by k_is, by k_is, by k_is⟩)
    (case w_n1 => show PySem.W.findIn _ _ _ = _; k_is)
    (case w_n2 => show PySem.W.findIn _ _ _ = _; k_is)
    (case w_n3 => show PySem.W.findIn _ _ _ = _; k_is)
    (case w_m1 => first | k_is | rfl | decide +kernel)
    (case w_m3 => first | k_is | rfl | decide +kernel)
    (case w_m4 => first | k_is | rfl | decide +kernel)
    (case w_f0 => first | k_is | rfl | decide +kernel)
    (case w_f1 => first | k_is | rfl | decide +kernel)
    (case w_f2 => first | k_is | rfl | decide +kernel)
    (case w_f3 => first | k_is | rfl | decide +kernel)
    (case t_cls => exact ⟨by k_is, by k_is, by k_is, by k_is⟩)
    (case t_n0 => show PySem.W.findIn _ _ _ = _; k_is)
    (case t_n1 => show PySem.W.findIn _ _ _ = _; k_is)
    (case t_n2 => show PySem.W.findIn _ _ _ = _; k_is)
    (case t_n3 => show PySem.W.findIn _ _ _ = _; k_is)
    (case t_m1 => first | k_is | rfl | decide +kernel)
    (case t_m3 => first | k_is | rfl | decide +kernel)
    (case t_m4 => first | k_is | rfl | decide +kernel)
    (case t_flen => first | k_is | rfl | decide +kernel)
    (case t_fiter => first | k_is | rfl | decide +kernel)
    (case t_fgetitem => first | k_is | rfl | decide +kernel)
    (case t_fstr => first | k_is | rfl | decide +kernel)
    (case t_feq => first | k_is | rfl | decide +kernel)
    (case t_fadd => first | k_is | rfl | decide +kernel)
    (case t_fstands => first | k_is | rfl | decide +kernel)
    (case t_ha => first | k_is | rfl | decide +kernel)
    (case t_hm => first | k_is | rfl | decide +kernel)
    (case t_kT => first | k_is | rfl | decide +kernel)
    (case t_kS => first | k_is | rfl | decide +kernel)
    (case t_nT => first | k_is | rfl | decide +kernel)
    (case t_nS => first | k_is | rfl | decide +kernel)
    (case t_ne => first | k_is | rfl | decide +kernel)
    (case t_sf => first | k_is | rfl | decide +kernel)
    (case t_ra => first | k_is | rfl | decide +kernel)
    (case t_h1 => exact ⟨_, by k_is⟩)
    (case t_h2 => exact ⟨_, by k_is⟩)
    (case t_su => first | k_is | rfl | decide +kernel)
    (case t_pg => first | k_is | rfl | decide +kernel)
    (case t_pt => first | k_is | rfl | decide +kernel)
    (case t_r1 => first | k_is | rfl | decide +kernel)
    (case t_r2 => first | k_is | rfl | decide +kernel)
